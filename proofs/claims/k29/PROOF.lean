import PyProof.Rows.All
import Wide.All
import OpenK.AllK
import Wide.FinOn
import Lean
import PyProof.EqAt
import PyProof.EqKinds
import PyProof.TupleCall
import PySem.Challenge.RW_manyreaders_k29_starving_shown
set_option genSizeOf false
set_option genSizeOfSpec false
set_option compiler.extract_closed false
set_option bootstrap.genMatcherCode false
open Option renaming some -> Y,none -> L
local macro_rules|`(tactic|ac_rfl)=>`(tactic|exact⟨rfl,rfl,rfl,by decide +kernel,rfl,by decide +kernel,by decide +kernel⟩)
noncomputable section
set_option Elab.async false
set_option linter.all false
set_option maxRecDepth 100000
open PySem renaming Value -> ce,Shared -> gV,Addr -> tx,Expr -> vx,Program -> Op,World -> Qa,Stmt -> QO,Around -> SN,Heap -> TF,sizeLine -> Vj,starEach -> WP,foldedSetIterable -> Yx,mainGlobals -> Zs,compareOp -> aeL,binaryOp -> aeM,wpAny -> aeN
open PySem.W renaming Frag -> aeO
open List renaming replicate -> aeP
open Bool renaming false_ne_true -> aeQ
open PySem PySem.Spec PyProof.Rows
section
def litT(t:String):Lean.Term:=
 let a(c:String):Lean.Term:=if c.front='.' then ⟨.node .none ``Lean.Parser.Term.dotIdent #[.atom .none ".",Lean.mkIdent (.str .anonymous (String.ofList (c.toList.drop 1)))]⟩ else if c="_" then ⟨.node .none ``Lean.Parser.Term.hole #[.atom .none "_"]⟩ else if c.front='\'' then ⟨Lean.Syntax.mkCharLit (c.toList.getD 1 ' ')⟩ else if c.front.isDigit then (if c.toList.contains 'e' then ⟨Lean.Syntax.mkScientificLit c⟩ else ⟨Lean.Syntax.mkNumLit c⟩) else Lean.mkIdent c.toName
 let ap(x:List Lean.Term):Lean.Term:=match x.reverse with|[]=>a "_"|[f]=>f|f::as=>Lean.Syntax.mkApp f as.toArray
 let fl(s:String×List (List Lean.Term)):=if s.1="" then s.2 else match s.2 with|x::r=>(a s.1::x)::r|_=>[]
 let s:=t.foldl (λs c=>if c=' ' then ("",fl s) else if c='(' then ("",[]::fl s) else if c=')' then ("",match fl s with|x::y::r=>(ap x::y)::r|_=>[]) else (s.1.push c,s.2)) ("",[[]])
 ap ((fl s).headD [])
local macro_rules|`(command|def $x:declId $y:optDeclSig $v:declVal)=>`(command|noncomputable def $x:declId $y:optDeclSig $v:declVal)
local macro_rules(kind:=Lean.Parser.Command.declaration)|s=>if s.getPos?.isNone then Lean.Macro.throwUnsupported else pure (s.rewriteBottomUp (·.setInfo .none))
set_option hygiene false
local macro_rules|`($c:scientific)=>if c.getScientific.2.1 then match c.getScientific.1 with|0=>`(by omega)|1=>`(by decide)|3=>`(by simp)|4=>`(.int (n:Int))|5=>`(.int (g:Int))|9=>`(by simp;omega)|11=>`(Str×GI)|14=>`(by symm)|20=>`((e.g:Int))|21=>`((n:Int) - 1)|n=>pure (litT ((("||model X.prog X.w||||ny X N' scope C s H fp|.ref S.length|ag 'c' (ag 'd' aS)||model prog w||ay aB '0' 0e0|excClassObj nm q C N bs bm hdct sn sub ab col dd k0 k1 k2 k3 k5 newId||.bl false|l.map Dd.d|ag 'b' (ag 'c' aS)|ag 'c' (ag 'd' (ag 'e' aS))|mC .non|||WP es X.env|C' A s H fp|.lst xs|aa '4' ao|ns.map .int|ha pins s σ H _ I h|bb (dh .tup)|ay aB '0' 3e0|aa '2' ao|evs.map Ev.d|aa '3' ao|aW es (bu dd)|EP X pins σ Q|ay aB '1' 0e0|.str (bI e.wr)|.inl rfl|m.map Dd.d|aa '0' (aa '1' ao)|he pins s σ H _ I h|dh .tup|ay aB '1' 1e0|aa '1' ao|fR X.K μ H dx|ay aK (ay aK (bz '0' bC (bS 2e0)) (aR (aa 1e0 ao))) (bz '0' (bS 3e0) bC)|.tup xs|Option Nat|ay aB '0' 1e0|.builtin id|.str k.s|W.fnOf x qual (gU st) (aM st) (aw st) .none kV doc pm an cdv ct|upd H p o|bI e.wr|.ref s.heap.objs.size|.Name x pos|.bl true|tR c scope|ha pos pins s σ H _ I h|Value.ref h₁.objs.size|.Name x p|es.map En.d|.str (bI wr)|ay aB '0' 2e0|vU CX P w K mg base N qual scope f cdv A outer s H E|.ref it|I.ok.hd hc|.str r.w.s|c.mt.contains 996000|c.mt.contains 990000|I1.hok.fresh (aal _)|.Slice L L (Y st) p2|.dK kvs|ns.map V.int|ag 'a' aS|pJ c E T elt gens scope p.line|aa 0e0 (aa (ay lI '0' 1e0) ao)|bz '0' bC (bS 2e0)|bz '0' (bS 3e0) bC|aa (aR ao) ao|.Attribute o name apos|aa '6' ao|.lst vs|ns.map D.int|eval o X.env|envOfC qual scope s.heap.objs.size f cd|aaM (aaG (aaq e) (I.ok.cab x c hfn hc))|ho pins s2 σ H2 x y v u _ I2 r1 r2 q2|zd (body.map (F c))|aa 0e0 ao|Option ce|I.hok.fresh (aal _)|.nx env S|.inl (.inl q)|ag 'h' (ag 'i' (ag 'j' (ag 'k' aS)))|ag 'c' (ag 'd' (ag 'e' (ag 'f' aS)))|.Tuple es k pos|hb pins s1 σ H1 _ I1 q1|aF (ay cm '5' 0e0)|nZ r n g l m|aaT _ (aaT _ (nK hb e))|.str (gD (.ask wr g t))|Y (.Name y py)|model P w|evI c (E c) tg it|Option vx|bF (bb jc) (aa '0' ao)|aaG (aaq e) I.ok.above|.ref s2.heap.objs.size|.bool true|ws.map Wd.d|gC hE _|ay aB '7' 0e0|ho pins s σ H _ I h|HT.gl xs.length 0 lo|df (bT n) xs|Ne.symm hj|.UnaryOp .Not a pos|upd H' x (.ext (Gu x C dx))|ay cA '0' (ay zJ 10e0 60e0)|bz '2' bC (bS '3')|ag 'h' (ag 'i' aS)|.lst (fs.map En.d)|.Subscript o i pos|ys.map .str|ow (yZ r n)|ih (hc _ p)|getItem (.ref t) (.ref sl)|gI (iz N st gs mt) (aM st)|.nx env' S'|aah _ hx|.str w.s|zs.map uO|upd H a o|bo 2 (ag 'a' (ag 'g' aS))|ay aB '2' 0e0|aa '9' ao|NU c (E c) tg|I.base.keep b o e n hb hx|ForInStep.yield r|.rt d S|.ref sl|.Constant (.str x) j pos|oB cap env|l.map Ev.d|.lst (L4.map ow)|f (.int i t) (.int j u)|bb (dh .lst)|uD C (hE _ _ C)|pY X.K f|ba N ds|aah _ m|aag hlt|aT (ay aB '2' 1e0) 'c'|I.base.free b o e n hx|.type T|.rt d s|.ref fa|.nx e s|.nx e S|.int e.m|.bool b|ps.zip us|env.set i L|e1.trans e2|aa 2e0 ao|Ba (E c) es|.Dict keys values pos|TP X pins σ Q|.ref S2.length|hi pins s σ H _ I h|yS c scope|xs.map enc|start N vs|i σ H Q q|fR X.K μ H y|ay aB '1' 2e0|.lst ys|.ext φ|.dct ks vs|.BoolOp .And vs pos|vs.map E|ky (Y x)|aeM .Add|aaw.mp z|GN scope|.str e.w|upd H a (.lst vs')|upd H a (.dK kvs')|gl items.size 0 lo|bz '0' bC (bS 3e0)|ag 'g' (ag 'h' aS)|ag 'f' (ag 'g' aS)|ag 'a' (ag 'i' aS)|ag 'a' (ag 'd' aS)|ag 'a' (ag 'c' aS)|ForInStep.yield ok|.BoolOp .Or vs pos|neC b o e hx|.str (gD dd)|ks.zip vs|gK xs l h|aeM .Mult|.lst (xs.set j d)|.lst (Dt n l m t)|.UnaryOp op a pos|.Slice lo hi L p2|.BinOp a op b pos".splitOn "|").getD n ""))) else Lean.Macro.throwUnsupported
set_option hygiene true
def aaa:=@Option.bind_eq_some_iff
def aab:=@wpAny_bind
def aac:=@List.getElem?_eq_some_iff
def aad:=@List.mem_cons_self
def aae:=@Bool.and_eq_true
def aaf:=@Heap.get?_push_of_some
def aag:=@List.getElem?_eq_getElem
def aah:=@List.mem_cons_of_mem
def aai:=@List.size_toArray
def aaj:=@List.length_map
def aak:=@List.map_cons
def aal:=@Nat.le_refl
def aam:=@wpAny_pure
def aan:=@decide_eq_false
def aao:=@decide_eq_true
def aap:=@List.mem_append
def aaq:=@Heap.lt_size
def aar:=@List.length_cons
def aas:=@if_pos
def aat:=@List.getElem?_append_left
def aau:=@List.length_append
def aav:=@List.all_eq_true
def aaw:=@List.mem_singleton
def aax:=@Heap.get?_update_other
def aay:=@Heap.get?_push_size
def aaz:=@Bool.not_true
def aaA:=@List.mem_of_getElem?
def aaB:=@List.mem_map
def aaC:=@List.mem_cons
def aaD:=@Nat.le_trans
def aaE:=@Option.some.inj
def aaF:=@List.getElem?_set_ne
def aaG:=@Nat.lt_of_lt_of_le
def aaH:=@Bool.not_false
def aaI:=@Bool.and_false
def aaJ:=@Bool.eq_iff_iff
def aaK:=@Bool.false_and
def aaL:=@List.getElem?_set_self
def aaM:=@Nat.ne_of_lt
def aaN:=@List.append_nil
def aaO:=@wpAny_mono
def aaP:=@List.length_singleton
def aaQ:=@List.replicate_succ
def aaR:=@List.mem_of_mem_take
def aaS:=@wpAny_newObj_type
def aaT:=@List.mem_append_right
def aaU:=@Bool.false_eq_true
def aaV:=@List.filterMap_cons
def aaW:=@List.filter_cons
def aaX:=@List.any_eq_true
def aaY:=@List.map_append
def aaZ:=@List.append_assoc
def aba:=@of_decide_eq_true
def abb:=@List.mem_append_left
def abc:=@List.mem_filter
def abd:=@Heap.get?_update_self
def abe:=@wpAny_holding
def abf:=@PyProof.Rows.slot_tuple_getitem
def abg:=@Int.toNat_natCast
def abh:=@Bool.true_and
def abi:=@List.all_cons
def abj:=@beq_eq_false_iff_ne
def abk:=@decide_eq_true_eq
def abl:=@List.map_map
def abm:=@List.flatten_cons
def abn:=@wpAny_field
def abo:=@List.find?_cons
def abp:=@Eq.trans
def abq:=@W.mg_none_of
def abr:=@List.not_mem_nil
def abt:=@List.getElem?_append_right
def abu:=@Option.some.injEq
def abv:=@List.getElem?_map
def abw:=@List.drop_eq_getElem_cons
def abx:=@List.any_cons
def aby:=@List.length_filter_le
def abz:=@decide_true
def abA:=@List.eq_nil_of_length_eq_zero
def abB:=@decide_false
def abC:=@PySem.mem_of_lookup
def abD:=@PyProof.Rows.callWith_type1
def abE:=@List.filter_eq_self
def abF:=@wpAny_standAt
def abG:=@decide_eq_true_iff
def abH:=@List.mem_of_mem_drop
def abI:=@wpAny_truthy_bool
def abJ:=@wpAny_loadPart_at
def abK:=@Option.isSome_iff_exists
def abL:=@List.nodup_cons
def abM:=@wpAny_callSpecial?_slot
def abN:=@Nat.lt_irrefl
def abO:=@W.kia_one
def abP:=@List.zipIdx_cons
def abQ:=@wpAny_setField
def abR:=@List.drop_zero
def abS:=@List.take_of_length_le
def abT:=@wpAny_Call_Name_kw
def abU:=@if_false
def abV:=@Obj.data_mapFields
def abW:=@List.findIdx?_cons
def abX:=@wpAny_passesOwn
def abY:=@codeAny_mono
def abZ:=@Obj.isFreed_of_fields
def aca:=@Nat.ne_of_gt
def acb:=@List.nodup_append
def acd:=@F.slot_tuple_iterator_next
def ace:=@Array.getElem?_eq_some_iff
def acf:=@W.mg_of
def acg:=@List.mem_range
def ach:=@List.length_take
def aci:=@List.getElem_mem
def acj:=@wpAny_execs_nil
def ack:=@List.map_take
def acl:=@Int.emod_nonneg
def acm:=@wpAny_pyIter_list
def acn:=@if_true
def aco:=@call_meets
def acp:=@List.take_append_drop
def acq:=@List.mem_iff_getElem?
def acr:=@List.any_map
def acs:=@wpAny_call_entry
def acu:=@List.lookup_cons
def acv:=@List.drop_length
def acw:=@Calls.evalArgs_plain
def acx:=@wpAny_isSubtype_exc
def acy:=@Nat.zero_le
def acz:=@List.length_set
def acA:=@List.count_cons
def acB:=@Bool.or_eq_true
def acC:=@Array.length_toList
def acD:=@Calls.Name_function_global
def acE:=@or_false
def acF:=@List.map_nil
def acG:=@List.reverse_cons
def acH:=@List.filter_congr
def acI:=@AutoSeq1.sub_tuple_tuple
def acJ:=@sizeLine_eq
def acK:=@List.map_drop
def acL:=@List.filter_cons_of_pos
def acM:=@List.filter_cons_of_neg
def acN:=@List.length_drop
def acO:=@wpAny_Call_method_late
def acP:=@Calls.callWith_builtin
def acQ:=@Nat.zero_add
def acR:=@Nat.min_eq_left
def acS:=@List.nil_append
def acT:=@List.getElem?_eq_none
def acU:=@List.all_map
def acV:=@F.slot_int_rmul
def acW:=@slicePart_none
def acX:=@Heap.size_push
def acY:=@entry_tuple_getitem
def acZ:=@Nat.le_succ
def ada:=@List.map_congr_left
def adb:=@wpAny_pyIter_tuple
def adc:=@evalPart_none
def add:=@assignInOrder_cons
def ade:=@args_tuple_getitem
def adf:=@List.findIdx?_eq_some_iff_getElem
def adg:=@List.find?_eq_none
def adh:=@List.contains_cons
def adi:=@Int.emod_lt_of_pos
def adj:=@Heap.IsSliceOf.new
def adk:=@F.args_tuple_add_2
def adl:=@Bool.and_true
def adm:=@wpAny_sequenceKey
def adn:=@typeIs_int
def ado:=@List.flatMap_cons
def adp:=@F.slot_list_count
def adq:=@F.entry_tuple_add
def adr:=@wpAny_typeOf
def ads:=@Nat.mul_comm
def adt:=@Nat.le_of_lt
def adu:=@wpAny_execs_cons
def adv:=@noFill_tuple_add
def adw:=@Option.getD_some
def adx:=@F.slot_tuple_add
def ady:=@AutoSeq1.idx_int
def adz:=@List.countP_eq_length_filter
def adA:=@F.args_tuple_iterator_next_1
def adB:=@W.kitx_list
def adC:=@PassesOwn.never
def adD:=@List.of_mem_zip
def adE:=@F.entry_tuple_iterator_next
def adF:=@wpAny_binaryOp_repeat_ref
def adG:=@List.findIdx?_eq_none_iff
def adH:=@Bool.and_assoc
def adI:=@Array.getElem?_eq_getElem
def adJ:=@wpAny_rule
def adK:=@wpAny_getItem_list_slice
def adL:=@wpAny_comprehension_free
def adM:=@wpAny_call
def adN:=@intBits_le
def adO:=@Subscript_
def adP:=@Nat.not_lt
def adQ:=@List.getElem?_take_of_lt
def adR:=@tupleItemsOf_
def adS:=@tail_any
def adT:=@seq_tuple_add
def adU:=@decide_eq_false_iff_not
def adV:=@Paired.length
def adW:=@List.take_nil
def adX:=@List.getElem?_cons_zero
def adY:=@List.getElem?_cons_succ
def adZ:=@Calls.loadGlobal_global
def aea:=@BEq.comm
def aeb:=@wpAny_pyNext_list_item
def aec:=@subscriptTail_builtinR
def aed:=@Option.map_eq_some_iff
def aee:=@Nat.le_of_succ_le_succ
def aef:=@List.range_succ_eq_map
def aeg:=@List.drop_of_length_le
def aeh:=@wpAny_pyNext_list_end
def aei:=@seqIndex_neg
def aej:=@concat_meets
def aek:=@W.callWith_K
def ael:=@Nat.le_of_eq
def aem:=@Nat.add_zero
def aen:=@Int.le_trans
def aeo:=@Bool.or_true
def aep:=@Bool.not_not
def aeq:=@Bool.and_eq_false_iff
def aer:=@List.mem_iff_getElem
def aes:=@List.getElem_toArray
def aet:=@Heap.get?_none_of_le
def aeu:=@wpAny_Slice
def aev:=@seqIndex_of
def aew:=@W.kitx_dict
def aex:=@Nat.mul_le_mul_left
def aey:=@Heap.get?_update_ne
def aez:=@Heap.SameBut.update
def aeA:=@wpAny_entryPlaceOf
def aeB:=@Option.isNone_some
def aeC:=@Option.isNone_none
def aeD:=@Nat.lt_of_le_of_lt
def aeE:=@List.mem_filterMap
def aeF:=@F.slot_tuple_count
def aeG:=@F.slot_list_append
def aeH:=@F.slot_dict_update
def aeI:=@Code.quiet_builtin
def aeJ:=@Calls.spliced_cons
def aeK:=@Calls.Constant_str
namespace L2
noncomputable abbrev cf:=Sum Int Str
def AE:cf->ce->Bool
 | .inl k,v=>Value.isInt k v
 | .inr x,v=>Value.isStrOf x v
def keyH(w:Qa):cf->Int
 | .inl k=>hashInt k
 | .inr x=>hashStr w x
theorem dS:∀ {k:cf} {v:ce},AE k v=true->(∃ i t,k=Sum.inl i/\v=Value.int i t)\/(∃ x t,k=Sum.inr x/\v=Value.str x t)
 | .inl i,v,h=>by
  obtain⟨t,e⟩:=Value.isInt_shape (k:=i) (v:=v) h;exact .inl ⟨i,t,rfl,e⟩
 | .inr x,v,h=>by
  obtain⟨t,e⟩:=Value.isStrOf_shape (x:=x) (v:=v) h;exact .inr ⟨x,t,rfl,e⟩
theorem Mt(i:Int)(t:Tok):AE (.inl i) (.int i t)=true:=by simp[AE,Value.isInt]
theorem Ms(x:Str)(t:Tok):AE (.inr x) (.str x t)=true:=by simp[AE,Value.isStrOf]
theorem ZF(a b:Int):decide ((Sum.inl a:cf)=Sum.inl b)=(a==b):=by
 by_cases e:a=b
 ·subst e;simp
 ·have h:¬ (Sum.inl a:cf)=Sum.inl b:=λq=>e (Sum.inl.inj q);rw[aan h];exact(abj.mpr e).symm
theorem ZC(a b:Str):decide ((Sum.inr a:cf)=Sum.inr b)=decide (a=b):=by
 by_cases e:a=b
 ·subst e;simp
 ·have h:¬ (Sum.inr a:cf)=Sum.inr b:=λq=>e (Sum.inr.inj q);rw[aan h,aan e]
theorem ZE(a:Int)(b:Str):decide ((Sum.inl a:cf)=Sum.inr b)=false:=aan (λq=>nomatch q)
theorem ZD(a:Str)(b:Int):decide ((Sum.inr a:cf)=Sum.inl b)=false:=aan (λq=>nomatch q)
def da(prog:Op)(w:Qa):PySem.KeyKind prog w cf where
 is:=AE
 hash:=keyH w
 inj:=λv a b ha hb=>by
  rcases dS ha with ⟨i,t,rfl,rfl⟩ | ⟨x,t,rfl,rfl⟩
  ·rcases dS hb with ⟨j,u,rfl,e⟩ | ⟨y,u,rfl,e⟩
   ·injection e with e1 _;rw[e1]
   ·exact nomatch e
  ·rcases dS hb with ⟨j,u,rfl,e⟩ | ⟨y,u,rfl,e⟩
   ·exact nomatch e
   ·injection e with e1 _;rw[e1]
 byValue:=λk v h=>by
  rcases dS h with ⟨i,t,rfl,rfl⟩ | ⟨x,t,rfl,rfl⟩<;>rfl
 pyHash:=λhv h=>by
  rcases dS hv with ⟨i,t,rfl,rfl⟩ | ⟨x,t,rfl,rfl⟩
  ·exact wpAny_pyHash_int h
  ·exact wpAny_pyHash_str h
 eqBool:=λhu hv h=>by
  rcases dS hu with ⟨i,t,rfl,rfl⟩ | ⟨x,t,rfl,rfl⟩
  ·rcases dS hv with ⟨j,u,rfl,rfl⟩ | ⟨y,u,rfl,rfl⟩
   ·rw[ZF] at h;exact wpAny_eqBool_int h
   ·rw[ZE] at h;exact SeqAt.EqAt.int_str i t y u _ _ _ _ h
  ·rcases dS hv with ⟨j,u,rfl,rfl⟩ | ⟨y,u,rfl,rfl⟩
   ·rw[ZD] at h;exact SeqAt.EqAt.str_int x t j u _ _ _ _ h
   ·rw[ZC] at h;exact wpAny_eqBool_str h
 «strs»:=λk x t v h=>by
  rcases dS h with ⟨i,u,rfl,e⟩ | ⟨y,u,rfl,e⟩
  ·exact nomatch e
  ·injection e with e1 _;subst e1;cases v<;>rfl
theorem EM(prog:Op)(w:Qa)(i:Int)(t:Tok):(da prog w).is (.inl i) (.int i t)=true:=Mt i t
theorem EL(prog:Op)(w:Qa)(x:Str)(t:Tok):(da prog w).is (.inr x) (.str x t)=true:=Ms x t
inductive V where
 | non | bl (b:Bool) | int (i:Int) | str (x:Str) | byt (b:Array UInt8) | flt (b:UInt64) | ref (a:tx) | ty (n:String)
 deriving DecidableEq
def RelV:V->ce->Prop
 | .non,u=>u=Value.none
 | .bl b,u=>u=Value.bool b
 | .int i,u=>∃ t,u=Value.int i t
 | .str x,u=>∃ t,u=Value.str x t
 | .byt b,u=>∃ t,u=Value.bytes b t
 | .flt b,u=>∃ t,u=Value.float b t
 | .ref a,u=>u=Value.ref a
 | .ty n,u=>u=Value.type n
noncomputable abbrev Vals:List V->List ce->Prop:=Paired RelV
theorem Vals.length{xs:List V}{us:List ce}(r:Vals xs us):xs.length=us.length:=adV r
theorem Vals.get:∀ {xs:List V} {us:List ce} {i:Nat} {x:V},Vals xs us->xs[i]?=Y x->∃ u,us[i]?=Y u/\RelV x u
 | _,_,_,_,.nil,e=>by simp at e
 | _,_,0,_,.cons r _,e=>by simp at e;subst e;exact⟨_,rfl,r⟩
 | _,_,i+1,x,.cons _ t,e=>by
  obtain⟨u,h1,h2⟩:=Vals.get (i:=i) (x:=x) t (by simpa using e);exact⟨u,by simpa using h1,h2⟩
theorem Vals.set(r:RelV x u):∀ {xs:List V} {us:List ce} (i:Nat),Vals xs us->Vals (xs.set i x) (us.set i u)
 | _,_,_,.nil=>.nil
 | _,_,0,.cons _ t=>.cons r t
 | _,_,i+1,.cons q t=>.cons q (Vals.set r i t)
theorem Vals.append:∀ {xs ys:List V} {us ws:List ce},Vals xs us->Vals ys ws->Vals (xs++ys) (us++ws)
 | _,_,_,_,.nil,s=>s
 | _,_,_,_,.cons r t,s=>.cons r (Vals.append t s)
theorem Vals.take:∀ {xs:List V} {us:List ce} (n:Nat),Vals xs us->Vals (xs.take n) (us.take n)
 | _,_,0,_=>.nil
 | _,_,_+1,.nil=>.nil
 | _,_,n+1,.cons r t=>.cons r (Vals.take n t)
theorem Vals.drop:∀ {xs:List V} {us:List ce} (n:Nat),Vals xs us->Vals (xs.drop n) (us.drop n)
 | _,_,0,r=>r
 | _,_,_+1,.nil=>.nil
 | _,_,n+1,.cons _ t=>Vals.drop n t
def RelO:Option V->Option ce->Prop
 | some v,Y u=>RelV v u
 | none,L=>True
 | _,_=>False
def KV{κ:Type}:List (κ×V)->List (κ×ce)->Prop:=Paired λ(p:κ×V) (q:κ×ce)=>p.1=q.1/\RelV p.2 q.2
def kV:cf->V
 | .inl i=>.int i
 | .inr x=>.str x
inductive HO where
 | lst (xs:List V)
 | tup (xs:List V)
 | dK (kvs:List (cf×V))
 | set (S:Int->Bool) (n:Nat)
 | ins (C dx:tx) (fs:List (Str×V))
 | own (x:tx)
 | xd (fs:List (Str×V))
 | met (f x:tx)
 | rng (lo hi:Int)
 | frz (o:Obj) (u:HO)
 | tbl (ps:Array ce)
 | ext (φ:TF->Prop)
noncomputable abbrev Hp:=tx->Option HO
def upd(H:Hp)(a:tx)(o:HO):Hp:=λb=>if b=a then Y o else H b
theorem bB:upd H a o a=Y o:=by unfold upd;rw[aas rfl]
theorem bh{a b:tx}(h:b≠a):upd H a o b=H b:=by unfold upd;rw[if_neg h]
theorem cJ{H:Hp}(h:H a=Y o)(h':H b=L):a≠b:=by
 intro e;subst e;rw[h] at h';cases h'
def IsTupN(h:TF)(a:tx)(items:Array ce):Prop:=∃ o,h.get? a=Y o/\o.cls=.type "tuple"/\(∃ n,o.data=.seq items n)/\o.dict=L
theorem IsTupN.up(x:IsTupN h a items):IsTup h a items:=by
 obtain⟨o,e,c,d,z⟩:=x;exact⟨o,e,c,d⟩
theorem IsTupN.lt(x:IsTupN h a items):a<h.objs.size:=x.up.lt
theorem IsTupN.new(h:TF)(items:Array ce):IsTupN (h.push { cls:=.type "tuple",data:=.seq items }) h.objs.size items:=⟨_,aay _ rfl,rfl,⟨_,rfl⟩,rfl⟩
section
variable(P:Op)(w:Qa)
def ObjOk(H:Hp)(h:TF)(a:tx):HO->Prop
 | .lst xs=>xs.length<=Vj/\∃ (its:List ce) (n:Nat),Vals xs its/\h.get? a=Y { cls:=.type "list",data:=.seq its.toArray n }
 | .tup xs=>xs.length<=Vj/\∃ its:List ce,Vals xs its/\IsTupN h a its.toArray
 | .dK kvs=>kvs.length<=Vj/\(a==sysModules)=false/\∃ vs,KV kvs vs/\h.DictOf (da P w) a vs
 | .set S n=>h.SetOf (intKind P w) a S n
 | .ins C dx fs=>H dx=Y (.own a)/\fs.length<=1000/\dx≠a/\h.get? a=Y (W.instObj C dx) /\
   ∃ mA,h.Ns1 dx mA/\(∀ f,RelO (fs.lookup f) (mA f))/\PySem.Within mA (fs.map (·.1))
 | .own _=>∃ o,h.get? a=Y o
 | .xd fs=>∃ mA,h.Ns1 a mA/\∀ f,RelO (fs.lookup f) (mA f)
 | .rng lo hi=>∃ t u v,h.get? a=Y { cls:=.type "range",data:=.fields #[.int lo t,.int hi u,.int 1 v] }
 | .frz o u=>h.get? a=Y o/\ObjOk H h a u
 | .tbl ps=>h.get? a=Y { cls:=.none,data:=.fields ps }
 | .met f x=>h.get? a=Y (W.methodObj (.ref f) (.ref x))
 | .ext φ=>φ h/\(∃ o,h.get? a=Y o)/\∀ h1 h2:TF,φ h1->(∀ o,h1.get? a=Y o->h2.get? a=Y o)->φ h2
def HOk(H:Hp)(h:TF):Prop:=∀ a o,H a=Y o->ObjOk P w H h a o
end
section
variable{P:Op}{w:Qa}{H H':Hp}{h h':TF}{a:tx}{o:HO}
theorem ObjOk.lt(x:ObjOk P w H h a o):a<h.objs.size:=by
 cases o with
 | lst xs=>obtain⟨z,z,z,z,e⟩:=x;exact aaq e
 | tup xs=>obtain⟨z,z,z,p⟩:=x;exact p.lt
 | dK kvs=>obtain⟨z,z,z,z,o,z,z,e,z⟩:=x;exact aaq e
 | set S n=>obtain⟨o,z,z,z,e,z⟩:=x;exact aaq e
 | ins C dx fs=>obtain⟨z,z,z,e,z⟩:=x;exact aaq e
 | own y=>obtain⟨z,e⟩:=x;exact aaq e
 | xd fs=>obtain⟨z,⟨z,z,z,e,z⟩,z⟩:=x;exact aaq e
 | rng lo hi=>obtain⟨z,z,z,e⟩:=x;exact aaq e
 | frz ob u=>obtain⟨e,z⟩:=x;exact aaq e
 | tbl ps=>exact aaq (show h.get? a=Y _ from x)
 | met f y=>exact aaq (show h.get? a=Y _ from x)
 | ext φ=>obtain⟨z,⟨z,e⟩,z⟩:=x;exact aaq e
theorem ObjOk.stay(x:ObjOk P w H h a o)(k:∀ b u,(b=a\/H b=Y (.own a))->h.get? b=Y u->h'.get? b=Y u)
  (ho:∀ b,H b=Y (.own a)->H' b=Y (.own a)) (ht:∀ b xs,H b=Y 4.6->H' b=Y 4.6):ObjOk P w H' h' a o:=by
 induction o with
 | lst xs=>obtain⟨z,its,n,r,e⟩:=x;exact⟨z,its,n,r,k _ _ 3.7 e⟩
 | tup xs=>obtain⟨z,its,r,ob,e,c⟩:=x;exact⟨z,its,r,ob,k _ _ 3.7 e,c⟩
 | dK kvs=>obtain⟨z,y,vs,r,ob,es,ep,e,c⟩:=x;exact⟨z,y,vs,r,ob,es,ep,k _ _ 3.7 e,c⟩
 | set S n=>obtain⟨ob,es,ep,t,e,c⟩:=x;exact⟨ob,es,ep,t,k _ _ 3.7 e,c⟩
 | ins C dx fs=>
  obtain⟨d,z,ne,e,mA,⟨od,es,ep,e2,c⟩,r⟩:=x;exact⟨ho _ d,z,ne,k _ _ 3.7 e,mA,⟨od,es,ep,k _ _ (.inr d) e2,c⟩,r⟩
 | own y=>obtain⟨ob,e⟩:=x;exact⟨ob,k _ _ 3.7 e⟩
 | xd fs=>obtain⟨mA,⟨od,es,ep,e,c⟩,r⟩:=x;exact⟨mA,⟨od,es,ep,k _ _ 3.7 e,c⟩,r⟩
 | rng lo hi=>obtain⟨t,u,v,e⟩:=x;exact⟨t,u,v,k _ _ 3.7 e⟩
 | frz ob u ih=>obtain⟨e,q⟩:=x;exact⟨k _ _ 3.7 e,ih q⟩
 | tbl ps=>
  have e:h.get? a=Y { cls:=.none,data:=.fields ps }:=x;show h'.get? a=Y { cls:=.none,data:=.fields ps };exact k a _ 3.7 e
 | met f y=>
  have e:h.get? a=Y (W.methodObj (.ref f) (.ref y)):=x;show h'.get? a=Y (W.methodObj (.ref f) (.ref y));exact k a _ 3.7 e
 | ext φ=>obtain⟨p,⟨o,e⟩,st⟩:=x;exact⟨st _ _ p λo q=>k _ _ 3.7 q,⟨o,k _ _ 3.7 e⟩,st⟩
theorem HOk.lt(x:HOk P w H h)(e:H a=Y o):a<h.objs.size:=(x a o e).lt
theorem HOk.fresh(x:HOk P w H h)(e:h.objs.size<=a):H a=L:=by
 cases q:H a with
 | none=>rfl
 | some u=>exact absurd (aaG (x.lt q) e) (abN _)
theorem HOk.kept(x:HOk P w H h)(k:∀ b u,h.get? b=Y u->h'.get? b=Y u):HOk P w H h':=λa o e=>
 (x a o e).stay (λb u z q=>k b u q) (λz q=>q) λz z q=>q
theorem HOk.laid(x:HOk P w H h)(k:∀ b u,h.get? b=Y u->h'.get? b=Y u)(hp:h.objs.size<=a)(new:ObjOk P w 1.33 h' a o):HOk P w 1.33 h':=λb u e=>by
 have hn:=x.fresh hp;by_cases hb:b=a
 ·subst hb;rw[bB] at e;cases e;exact new
 ·rw[bh hb] at e;exact(x b u e).stay (λc v z q=>k c v q) (λc q=>by rw[bh (cJ q hn)];exact q) λc xs q=>by rw[bh (cJ q hn)];exact q
end
def Rd(H:Hp)(a:tx)(u:HO):Prop:=H a=Y u\/∃ o,H a=Y (.frz o u)
theorem Rd.ok(r:Rd H a u)(x:HOk P w H h):ObjOk P w H h a u:=by
 rcases r with r | ⟨o,r⟩
 ·exact x a u r
 ·obtain⟨z,q⟩:=x a _ r;exact q
def Mut:Option HO->Prop
 | some (.lst _)=>True
 | some (.dK _)=>True
 | some (.set _ _)=>True
 | some (.ins _ _ _)=>True
 | some (.ext _)=>True
 | _=>False
section
variable{P:Op}{w:Qa}{H:Hp}{h h':TF}{x e:tx}{o':HO}
theorem HOk.write(ok:HOk P w H h)(mu:Mut (H x))(he:e=x\/H e=Y (.own x))(k:∀ b u,b≠e->h.get? b=Y u->h'.get? b=Y u)(heo:∃ u,h'.get? e=Y u)
  (new:ObjOk P w (upd H x o') h' x o'):HOk P w (upd H x o') h':=λb u q=>by
 have nown:∀ c y,H c=Y (.own y)->c≠x:=λc y r z=>by subst z;rw[r] at mu;exact mu
 have ntup:∀ c xs,H c=Y 4.6->c≠x:=λc xs r z=>by subst z;rw[r] at mu;exact mu
 by_cases hb:b=x
 ·subst hb;rw[bB] at q;cases q;exact new
 ·rw[bh hb] at q;by_cases hbe:b=e
  ·have q':H b=Y (.own x):=by
    rcases he with z | z
    ·exact absurd (hbe.trans z) hb
    ·rw[hbe];exact z
   rw[q] at q';cases q';obtain⟨v,hv⟩:=heo;exact⟨v,by rw[hbe];exact hv⟩
  ·refine(ok b u q).stay (λc v hc r=>k c v ?_ r) (λc r=>by rw[bh (nown c b r)];exact r) λc xs r=>by rw[bh (ntup c xs r)];exact r
   rcases hc with rfl | hc
   ·exact hbe
   ·rintro rfl;rcases he with z | z
    ·exact nown c b hc z
    ·rw[hc] at z;cases z;exact hb rfl
end
structure Un(fs ex:List tx)(H H':Hp)(h h':TF):Prop where
 keep:∀ b o,h.get? b=Y o->H b=L->b∉fs->b∉ex->h'.get? b=Y o
 slot:∀ b o,h.get? b=Y o->H b=L->b∈fs->b∉ex->∃ sl,h'.get? b=Y { o with slots:=sl }
 free:∀ b o,h.get? b=Y o->H b=L->b∉ex->H' b=L
 there:∀ b o,h.get? b=Y o->b∉ex->∃ o',h'.get? b=Y o'
 tups:∀ b xs,H b=Y 4.6->H' b=Y 4.6
 frzs:∀ b o u,H b=Y (.frz o u)->H' b=Y (.frz o u)
 tbls:∀ b ps,H b=Y (.tbl ps)->∃ more,H' b=Y (.tbl (ps++more))
section
variable{fs fs' ex ex':List tx}{H H1 H2:Hp}{h h1 h2 h':TF}{a x e:tx}{o:HO}
theorem Un.any(u:Un fs ex H H1 h h1){ob:Obj}(q:h.get? b=Y ob)(n:H b=L)(hx:b∉ex):∃ sl,h1.get? b=Y { ob with slots:=sl }:=by
 by_cases hb:b∈fs
 ·exact u.slot b ob q n hb hx
 ·exact⟨ob.slots,u.keep b ob q n hb hx⟩
theorem Un.kept(k:∀ b u,h.get? b=Y u->h'.get? b=Y u):Un fs ex H H h h':=
 ⟨λb ob q z z z=>k b ob q,λb ob q z z z=>⟨ob.slots,k b ob q⟩,λz z z n z=>n,λb ob q z=>⟨ob,k b ob q⟩,λz z q=>q,λz z z q=>q,λz ps q=>⟨#[],by rw[q];simp⟩⟩
theorem Un.refl:Un fs ex H H h h:=Un.kept λz z q=>q
theorem Un.laid(k:∀ b u,h.get? b=Y u->h'.get? b=Y u)(hp:h.objs.size<=a)(hn:H a=L):Un fs ex H 1.33 h h' where
 keep:=λb u q z z z=>k b u q
 slot:=λb u q z z z=>⟨u.slots,k b u q⟩
 free:=λb u q n z=>by rw[bh (aaM (aaG (aaq q) hp))];exact n
 there:=λb u q z=>⟨u,k b u q⟩
 tups:=λb xs q=>by rw[bh (cJ q hn)];exact q
 frzs:=λb u xs q=>by rw[bh (cJ q hn)];exact q
 tbls:=λb ps q=>⟨#[],by rw[bh (cJ q hn),q];simp⟩
theorem Un.write(mu:Mut (H x))(he:e=x\/H e=Y (.own x))(k:∀ b u,b≠e->h.get? b=Y u->h'.get? b=Y u)(heo:∃ u,h'.get? e=Y u):Un fs ex H (upd H x o) h h':=by
 have hx:∀ b,H b=L->b≠x:=λb n z=>by subst z;rw[n] at mu;exact mu
 have hb:∀ b,H b=L->b≠e:=λb n z=>by
  subst z;rcases he with r | r
  ·exact hx b n r
  ·rw[n] at r;cases r
 have hm:∀ b u,H b=Y u->¬ Mut (Y u)->b≠x:=λb u q nm z=>by subst z;rw[q] at mu;exact nm mu
 refine⟨λb u q n w w=>k b u (hb b n) q,λb u q n w w=>⟨u.slots,k b u (hb b n) q⟩,λb u q n w=>by rw[bh (hx b n)];exact n,λb u q w=>?_,
  λb xs q=>by rw[bh (hm b _ q λz=>z)];exact q,λb u xs q=>by rw[bh (hm b _ q λz=>z)];exact q,λb ps q=>⟨#[],by rw[bh (hm b _ q λz=>z),q];simp⟩⟩
 by_cases hbe:b=e
 ·subst hbe;exact heo
 ·exact⟨u,k b u hbe q⟩
end
def trk(h:TF)(H:Hp):List tx:=(List.range h.objs.size).filter λa=>(H a).isSome
def CU(h:TF)(H:Hp):TF:=W.hideAll h (trk h H)
theorem ML(h:TF)(H:Hp):(CU h H).objs.size=h.objs.size:=W.hideAll_size _ _
theorem QD{h:TF}{H:Hp}(e:h.get? b=Y o)(n:H b=L):(CU h H).get? b=Y o:=
 W.hideAll_get _ e λhm=>by
  have q:(H b).isSome=true:=(abc.mp hm).2;rw[n] at q;simp at q
theorem Uy(e:(CU h H).get? b=Y o):h.get? b=Y o/\H b=L:=by
 have e':h.get? b=Y o:=W.of_hideAll (trk h H) e;refine⟨e',?_⟩;cases q:H b with
 | none=>rfl
 | some x=>
  have hm:b∈trk h H:=abc.mpr ⟨acg.mpr (aaq e'),by simp[q]⟩;have z:(CU h H).get? b=L:=W.hideAll_none (trk h H) hm;rw[z] at e;cases e
structure Mod(K:aeO)(mg:Str->Option ce)(base:TF):Prop where
 kin:K.In base
 glob:base.Ns Zs mg
 blt:∃ mb,base.Ns builtinsNs mb/\∀ x:Str,x≠"__name__"->mb x=bootBuiltins x
 nolimit:base.NoLimit
structure Cx where
 prog:Op
 w:Qa
 K:aeO
 mg:Str->Option ce
 base:TF
 A:SN
 N:List Str
 s₀:gV
 H₀:Hp
 env:Env
 outer:List Env
 stack:List Env
 ex:List tx
 fn:Str->Bool
 calm:Bool
 pn:List (tx×Obj)
 xe:ce->gV->Prop
def AU(l:List Env):List tx:=l.filterMap (·.frame)
noncomputable abbrev Cx.fs(X:Cx):List tx:=AU X.outer
def Wz(sc:Scope)(x:Str):Prop:=sc.names.lookup x=Y .local\/sc.names.lookup x=Y .cell\/sc.names.lookup x=Y .free
def NV(sc:Scope)(x:Str):Prop:=sc.names.lookup x=Y .local\/sc.names.lookup x=Y .cell
def Look(env:Env)(h:TF)(m:Str->Option ce)(x:Str)(u:ce):Prop:=
 (env.kindOf x=Y .local/\m x=Y u)\/((env.kindOf x=Y .cell\/env.kindOf x=Y .free)/\∃ c,env.cells.lookup x=Y c/\h.IsCell c (Y u))
structure Cx.Ok(X:Cx):Prop where
 mod:Mod X.K X.mg X.base
 kind:X.env.scope.kind=.function
 glob:X.env.globals=Zs
 blt:X.env.builtins=builtinsNs
 above:X.s₀.heap.objs.size<=X.env.locals
 inj:∀ x y c,X.env.cells.lookup x=Y c->X.env.cells.lookup y=Y c->x=y
 has:∀ x,(X.env.kindOf x=Y .cell\/X.env.kindOf x=Y .free)->∃ c,X.env.cells.lookup x=Y c
 cab:∀ x c,X.fn x=true->X.env.cells.lookup x=Y c->X.s₀.heap.objs.size<=c
 hd:X.calm=true->X.A.handled=L
 frames:X.A.frames=Y X.stack
 stk:X.stack=X.outer\/(X.stack=X.env::X.outer/\X.env.frame=Y X.env.locals)
 exf:∀ b∈X.ex,b≠X.env.locals/\∀ x c,X.env.cells.lookup x=Y c->c≠b
 bs:∀ b o,X.base.get? b=Y o->X.s₀.heap.get? b=Y o/\X.H₀ b=L
 bsz:X.base.objs.size<=X.s₀.heap.objs.size
 noex:∀ b o,X.base.get? b=Y o->b∉X.ex
 exfs:∀ b∈X.ex,b∉X.fs
 funs:X.s₀.heap.FunFrames X.base X.outer
 frf:∀ b∈X.fs,X.H₀ b=L
structure Inv(X:Cx)(pins:List (tx×Obj))(σ:List (Option V))(H:Hp)(s:gV):Prop where
 ok:X.Ok
 os:s.os=X.s₀.os
 bare:AllBare s.gens
 base:Un X.fs X.ex X.H₀ H X.s₀.heap s.heap
 loc:∃ m,s.heap.Ns X.env.locals m/\∀ (i:Nat) (x:Str) (v:V),X.N[i]?=Y x->σ[i]?=Y (Y v)->Wz X.env.scope x->∃ u,RelV v u/\Look X.env s.heap m x u
 cell:∀ x c,X.env.cells.lookup x=Y c->∃ v,s.heap.IsCell c v
 free:H X.env.locals=L
 freeC:∀ x c,X.env.cells.lookup x=Y c->H c=L
 pin:∀ p∈X.pn++pins,s.heap.get? p.1=Y p.2/\H p.1=L/\p.1≠X.env.locals/\p.1∉X.fs/\∀ v,p.2.data≠.cell v
 hok:HOk X.prog X.w H s.heap
 len:σ.length=X.N.length
section
variable{X:Cx}{pins:List (tx×Obj)}{σ:List (Option V)}{H H':Hp}{s:gV}{h':TF}
theorem Cx.Ok.nofr(ok:X.Ok)(e:X.base.get? b=Y o):b∉X.fs:=λhb=>by
 have:=(ok.funs.mem hb).1;rw[e] at this;cases this
theorem Inv.bs(I:Inv X pins σ H s):∀ b o,X.base.get? b=Y o->s.heap.get? b=Y o/\H b=L:=λb o e=>
 ⟨I.base.keep b o (I.ok.bs b o e).1 (I.ok.bs b o e).2 (I.ok.nofr e) (I.ok.noex b o e),I.base.free b o (I.ok.bs b o e).1 (I.ok.bs b o e).2 (I.ok.noex b o e)⟩
theorem Inv.bk(I:Inv X pins σ H s):∀ b o,X.base.get? b=Y o->s.heap.get? b=Y o:=λb o e=>(I.bs b o e).1
theorem Inv.mod(I:Inv X pins σ H s):Mod X.K X.mg X.base:=I.ok.mod
theorem Inv.kIn(I:Inv X pins σ H s):X.K.In s.heap:=I.ok.mod.kin.keeps I.bk
theorem Inv.lt(I:Inv X pins σ H s):X.env.locals<s.heap.objs.size:=let ⟨_,hn,_⟩:=I.loc;hn.lt
theorem Inv.sz(I:Inv X pins σ H s):X.s₀.heap.objs.size<=s.heap.objs.size:=aaD I.ok.above (adt I.lt)
theorem Inv.nofs(I:Inv X pins σ H s){a:tx}(h:s.heap.objs.size<=a):a∉X.fs:=λhb=>by
 obtain⟨z,o,ho,z⟩:=I.ok.funs.mem hb;exact absurd (aaG (aaq ho) (aaD I.sz h)) (abN _)
theorem Inv.cne(I:Inv X pins σ H s):∀ x c,X.env.cells.lookup x=Y c->c≠X.env.locals:=λx c e z=>by
 obtain⟨v,o,ho,hd⟩:=I.cell x c e;obtain⟨m,⟨o',es,ep,ho',hd',w⟩,w⟩:=I.loc;rw[z,ho'] at ho;cases ho;rw[hd'] at hd;cases hd
theorem Inv.funs(I:Inv X pins σ H s):s.heap.FunFrames X.base X.outer:=by
 have all:∀ (l:List Env),(∀ b∈AU l,b∈X.fs)->X.s₀.heap.FunFrames X.base l->s.heap.FunFrames X.base l:=by
  intro l
  induction l with
  | nil=>intro w w;trivial
  | cons env r ih=>
   intro hs hl;obtain⟨hk,⟨L4,o,hf,hn,ho,hd⟩,hr⟩:=hl;have hL:L4∈X.fs:=hs L4 (by unfold AU;rw[aaV,hf];exact aad);obtain⟨sl,e⟩:=I.base.slot L4 o ho (I.ok.frf L4 hL) hL λz=>I.ok.exfs L4 z hL;exact⟨hk,⟨L4,_,hf,hn,e,hd⟩,ih (λb hb=>hs b (by unfold AU;rw[aaV,hf];exact aah _ hb)) hr⟩
 exact all X.outer (λw hb=>hb) I.ok.funs
theorem Inv.stack(I:Inv X pins σ H s):s.heap.FunFrames X.base X.stack:=by
 rcases I.ok.stk with e | ⟨e,hf⟩
 ·rw[e];exact I.funs
 ·rw[e];obtain⟨m,hn,z⟩:=I.loc;refine .cons (by rw[I.ok.kind];decide) hf hn ?_ I.funs;exact aet (aaD I.ok.bsz I.ok.above)
theorem Inv.stkSub(I:Inv X pins σ H s):∀ b∈AU X.stack,b∈X.env.locals::X.fs:=λb hb=>by
 rcases I.ok.stk with e | ⟨e,hf⟩
 ·rw[e] at hb;exact aah _ hb
 ·rw[e] at hb;unfold AU at hb;rw[aaV,hf] at hb;exact hb
theorem Inv.stkFree(I:Inv X pins σ H s):∀ b∈AU X.stack,H b=L:=λb hb=>by
 rcases aaC.mp (I.stkSub b hb) with e | hb
 ·rw[e];exact I.free
 ·obtain⟨w,o,ho,w⟩:=I.ok.funs.mem hb;exact I.base.free b o ho (I.ok.frf b hb) λz=>I.ok.exfs b z hb
theorem Inv.step{t':Nat}{d':Drawn}{ch:List tx}(I:Inv X pins σ H s)
  (hch:∀ b∈ch,(b∈X.ex\/X.s₀.heap.objs.size<=b)/\b≠X.env.locals/\(∀ x c,X.env.cells.lookup x=Y c->c≠b)/\∀ p∈X.pn++pins,p.1≠b)
  (keep:∀ b o,b≠X.env.locals->b∉X.fs->b∉ch->s.heap.get? b=Y o->H b=L->h'.get? b=Y o)
  (slot:∀ b o,b≠X.env.locals->b∈X.fs->b∉ch->s.heap.get? b=Y o->H b=L->∃ sl,h'.get? b=Y { o with slots:=sl }) (free:∀ b o,b∉ch->s.heap.get? b=Y o->H b=L->H' b=L)
  (there:∀ b o,b∉ch->s.heap.get? b=Y o->∃ o',h'.get? b=Y o')
  (tups:∀ b xs,H b=Y 4.6->H' b=Y 4.6) (frzs:∀ b o u,H b=Y (.frz o u)->H' b=Y (.frz o u)) (tbls:∀ b ps,H b=Y (.tbl ps)->∃ more,H' b=Y (.tbl (ps++more)))
  (ns:∀ m,s.heap.Ns X.env.locals m->h'.Ns X.env.locals m) (hok:HOk X.prog X.w H' h') (hg:AllBare g') :
  Inv X pins σ H' { s with heap:=h',gens:=g',drawn:=d',toks:=t' }:=by
 have neL:∀ b o,X.s₀.heap.get? b=Y o->b≠X.env.locals:=λb o e=>aaM 1.07
 have neC:∀ b o,X.s₀.heap.get? b=Y o->b∉X.ex->b∉ch:=λb o e hx hb=>by
  rcases(hch b hb).1 with z | z
  ·exact hx z
  ·exact absurd (aaG (aaq e) z) (abN _)
 have cellK:∀ x c,X.env.cells.lookup x=Y c->∀ v,s.heap.IsCell c v->h'.IsCell c v:=λx c e v z0=>by
  obtain⟨o,ho,hd⟩:=z0;have nch:c∉ch:=λz=>(hch c z).2.2.1 x c e rfl;by_cases hc:c∈X.fs
  ·obtain⟨sl,q⟩:=slot c o (I.cne x c e) hc nch ho (I.freeC x c e);exact⟨_,q,hd⟩
  ·exact⟨o,keep c o (I.cne x c e) hc nch ho (I.freeC x c e),hd⟩
 refine⟨I.ok,I.os,hg,⟨λb o e n hb hx=>?_,λb o e n hb hx=>?_,λb o e n hx=>?_,λb o e hx=>?_,λb xs e=>tups b xs (I.base.tups b xs e),λb o xs e=>frzs b o xs (I.base.frzs b o xs e),λb ps e=>?_⟩,?_,λx c e=>?_,?_,λx c e=>?_,λp hp=>?_,hok,I.len⟩
 ·exact keep b o (neL b o e) hb 1.98 1.38 1.54
 ·obtain⟨sl,e1⟩:=I.base.slot b o e n hb hx;obtain⟨sl',e2⟩:=slot b _ (neL b o e) hb 1.98 e1 1.54;exact⟨sl',e2⟩
 ·obtain⟨o',e1⟩:=I.base.there b o e hx;exact free b o' 1.98 e1 1.54
 ·obtain⟨o',e1⟩:=I.base.there b o e hx;exact there b o' 1.98 e1
 ·obtain⟨m1,e1⟩:=I.base.tbls b ps e;obtain⟨m2,e2⟩:=tbls b _ e1;exact⟨m1++m2,by rw[e2,Array.append_assoc]⟩
 ·obtain⟨m,hn,hl⟩:=I.loc;refine⟨m,ns m hn,λi x v e1 e2 e3=>?_⟩;obtain⟨u,r,l⟩:=hl i x v e1 e2 e3;refine⟨u,r,?_⟩;rcases l with l | ⟨k,c,e,z⟩
  ·exact .inl l
  ·exact .inr ⟨k,c,e,cellK x c e _ z⟩
 ·obtain⟨v,z⟩:=I.cell x c e;exact⟨v,cellK x c e v z⟩
 ·obtain⟨m,⟨o,j,j,ho,j⟩,j⟩:=I.loc;exact free _ o (λz=>(hch _ z).2.1 rfl) ho I.free
 ·obtain⟨v,o,ho,hd⟩:=I.cell x c e;exact free c o (λz=>(hch c z).2.2.1 x c e rfl) ho (I.freeC x c e)
 ·obtain⟨e,n,ne,nf,d⟩:=I.pin p hp;have nch:p.1∉ch:=λz=>(hch p.1 z).2.2.2 p hp rfl;exact⟨keep p.1 p.2 ne nf nch e n,free p.1 p.2 nch e n,ne,nf,d⟩
theorem Inv.un{t':Nat}(I:Inv X pins σ H s)(u:Un X.fs [] H H' s.heap h')(hok:HOk X.prog X.w H' h'):Inv X pins σ H' { s with heap:=h',toks:=t' }:=by
 obtain⟨m,⟨o,es,ep,ho,r⟩,q⟩:=id I.loc;obtain⟨sl,hL⟩:=u.any ho I.free 0.3
 exact I.step (g':=s.gens) (d':=s.drawn) (ch:=[]) (λq z=>nomatch z) (λb o q hb q e n=>u.keep b o e n hb 0.3) (λb o q hb q e n=>u.slot b o e n hb 0.3) (λb o q e n=>u.free b o e n 0.3) (λb o q e=>u.there b o e 0.3) u.tups u.frzs u.tbls (λm' hm=>by
  obtain⟨o',es',ep',ho',r'⟩:=hm;rw[ho] at ho';cases ho'
  exact⟨_,es',ep',hL,r'⟩) hok I.bare
theorem Inv.call{t':Nat}{d':Drawn}(I:Inv X pins σ H s)(u:Un (AU X.stack) ch H H' s.heap h')(hok:HOk X.prog X.w H' h')(hg:AllBare g')
  (hch:∀ b∈ch,(b∈X.ex\/X.s₀.heap.objs.size<=b)/\b≠X.env.locals/\(∀ x c,X.env.cells.lookup x=Y c->c≠b)/\∀ p∈X.pn++pins,p.1≠b) :
  Inv X pins σ H' { s with heap:=h',gens:=g',drawn:=d',toks:=t' }:=by
 obtain⟨m,⟨o,es,ep,ho,r⟩,q⟩:=id I.loc;obtain⟨sl,hL⟩:=u.any ho I.free λz=>(hch _ z).2.1 rfl
 exact I.step (ch:=ch) hch (λb o hL hb hc e n=>u.keep b o e n (λz=>(aaC.mp (I.stkSub b z)).elim hL hb) hc) (λb o q q hc e n=>u.any e n hc) (λb o hc e n=>u.free b o e n hc) (λb o hc e=>u.there b o e hc) u.tups u.frzs u.tbls (λm' hm=>by
  obtain⟨o',es',ep',ho',r'⟩:=hm;rw[ho] at ho';cases ho'
  exact⟨_,es',ep',hL,r'⟩) hok hg
theorem Inv.turned{t':Nat}{it:tx}(I:Inv X pins σ H s)(k:∀ b o,b≠it->s.heap.get? b=Y o->h'.get? b=Y o)(hn:H it=L)(hL:it≠X.env.locals)
  (h1:it∈X.ex\/X.s₀.heap.objs.size<=it) (h2:∀ x c,X.env.cells.lookup x=Y c->c≠it) (h3:∀ p∈X.pn++pins,p.1≠it):Inv X pins σ H { s with heap:=h',toks:=t' }:=by
 have nit:∀ b u,H b=Y u->b≠it:=λb u e z=>by rw[z,hn] at e;cases e
 refine I.step (g':=s.gens) (d':=s.drawn) (ch:=[it]) (λb hb=>?_) (λb o w w hc e w=>k b o (λz=>hc (by simp[z])) e) (λb o w w hc e w=>⟨o.slots,k b o (λz=>hc (by simp[z])) e⟩) (λw w w w n=>n)
  (λb o hc e=>⟨o,k b o (λz=>hc (by simp[z])) e⟩) (λw w e=>e) (λw w w e=>e) (λb ps e=>⟨#[],by rw[e];simp⟩) (λm hm=>?_) (λb u e=>?_) I.bare
 ·have e:b=it:=by simpa using hb
  subst e;exact⟨h1,hL,h2,h3⟩
 ·obtain⟨o,es,ep,ho,r⟩:=hm;exact⟨o,es,ep,k _ o (Ne.symm hL) ho,r⟩
 ·refine(I.hok b u e).stay (λc v hc q=>k c v ?_ q) (λw q=>q) λw w q=>q;rcases hc with z | z
  ·rw[z];exact nit b u e
  ·exact nit c _ z
theorem Inv.tok(I:Inv X pins σ H s)(t:Nat):Inv X pins σ H { s with toks:=t }:=I.un (h':=s.heap) (t':=t) Un.refl I.hok
theorem Inv.kept{t':Nat}(I:Inv X pins σ H s)(k:∀ b u,s.heap.get? b=Y u->h'.get? b=Y u):Inv X pins σ H { s with heap:=h',toks:=t' }:=I.un (Un.kept k) (I.hok.kept k)
theorem Inv.laid{a:tx}{t':Nat}(I:Inv X pins σ H s)(k:∀ b u,s.heap.get? b=Y u->h'.get? b=Y u)(hp:s.heap.objs.size<=a)(new:ObjOk X.prog X.w 1.33 h' a o) :
  Inv X pins σ 1.33 { s with heap:=h',toks:=t' }:=I.un (Un.laid k hp (I.hok.fresh hp)) (I.hok.laid k hp new)
theorem Inv.write{e:tx}{t':Nat}(I:Inv X pins σ H s)(mu:Mut (H x))(he:e=x\/H e=Y (.own x))(k:∀ b u,b≠e->s.heap.get? b=Y u->h'.get? b=Y u)(heo:∃ u,h'.get? e=Y u)
  (new:ObjOk X.prog X.w (upd H x o) h' x o):Inv X pins σ (upd H x o) { s with heap:=h',toks:=t' }:=I.un (Un.write mu he k heo) (I.hok.write mu he k heo new)
theorem Inv.pins_of{pins':List (tx×Obj)}(I:Inv X pins σ H s)(h:∀ p∈pins',s.heap.get? p.1=Y p.2/\H p.1=L/\p.1≠X.env.locals/\p.1∉X.fs/\∀ v,p.2.data≠.cell v):Inv X pins' σ H s:=
 ⟨I.ok,I.os,I.bare,I.base,I.loc,I.cell,I.free,I.freeC,λp hp=>(aap.mp hp).elim (λz=>I.pin p (abb _ z)) (h p),I.hok,I.len⟩
theorem EH{N:List Str}(hN:N.Nodup){i j:Nat}(a:N[i]?=Y x)(b:N[j]?=Y x):i=j:=by
 obtain⟨h1,e1⟩:=aac.mp a;obtain⟨h2,e2⟩:=aac.mp b;exact(List.getElem_inj hN).mp (e1.trans e2.symm)
theorem Ab{i:Nat}{Q:Unit->gV->Prop}(I:Inv X pins σ H s)(hN:X.N.Nodup)(hi:X.N[i]?=Y x)(hx:NV X.env.scope x)(r:RelV v u)
  (h:∀ s',Inv X pins (σ.set i (Y v)) H s'->(∃ a,Heap.SameBut a s.heap s'.heap/\(a=X.env.locals\/X.env.cells.lookup x=Y a))->Q () s') (hf:X.fn x=true\/X.env.scope.names.lookup x=Y .local:=by first | exact .inl rfl | exact .inr rfl | assumption):aeN M A (storeName X.env x u) Q E s:=by
 obtain⟨m,hn,hl⟩:=id I.loc;have hcls:(X.env.scope.kind==.class||(X.env.scope.kind==.module&&X.env.locals != X.env.globals))=false:=by rw[I.ok.kind];rfl
 have hiσ:i < σ.length:=by rw[I.len];exact(aac.mp hi).1
 have cne:=I.cne
 have tracked:∀ {a:tx} {h':TF},(∃ o,s.heap.get? a=Y o/\H a=L)->Heap.SameBut a s.heap h'->HOk X.prog X.w H h':=λ{a h'} ha hs b ob e=>by
  obtain⟨g,g,hfree⟩:=ha;refine(I.hok b ob e).stay (λc w' hc q=>(hs.2 c ?_).trans q) (λg q=>q) λg g q=>q;rintro rfl;rcases hc with rfl | hc
  ·rw[hfree] at e;cases e
  ·rw[hfree] at hc;cases hc
 rcases hx with hk | hk
 ·refine wpAny_storeName_local hk hn (λh' hn' hs=>?_) hcls;obtain⟨oL,g,g,hoL,g⟩:=id hn;refine h _ ⟨I.ok,I.os,I.bare,⟨λb o e n hb hx=>?_,λb o e n hb hx=>?_,I.base.free,λb o e hx=>?_,I.base.tups,I.base.frzs,I.base.tbls⟩,⟨_,hn',λj y v' e1 e2 e3=>?_⟩,λy c e=>?_,I.free,I.freeC,λp hp=>?_,tracked ⟨oL,hoL,I.free⟩ hs,by simpa using I.len⟩ ⟨_,hs,.inl rfl⟩
  ·exact(hs.2 b (aaM 1.07)).trans 1.38
  ·obtain⟨sl,e1⟩:=I.base.slot b o e n hb hx;exact⟨sl,(hs.2 b (aaM 1.07)).trans e1⟩
  ·obtain⟨o',e1⟩:=I.base.there b o e hx;exact⟨o',(hs.2 b (aaM 1.07)).trans e1⟩
  ·by_cases hj:j=i
   ·subst hj;rw[hi] at e1;cases e1;rw[aaL hiσ] at e2;cases e2;exact⟨u,r,.inl ⟨hk,by simp⟩⟩
   ·rw[aaF 1.16] at e2;obtain⟨u',r',q⟩:=hl j y v' e1 e2 e3;refine⟨u',r',?_⟩;rcases q with ⟨k,e⟩ | ⟨k,c,e,z⟩
    ·refine .inl ⟨k,?_⟩;have:y≠x:=λe=>hj (EH hN e1 (e ▸ hi));simp[this,e]
    ·exact .inr ⟨k,c,e,z.sameBut hs (cne y c e)⟩
  ·obtain⟨w',z⟩:=I.cell y c e;exact⟨w',z.sameBut hs (cne y c e)⟩
  ·obtain⟨e,n,ne,nf,d⟩:=I.pin p hp;exact⟨(hs.2 p.1 ne).trans e,n,ne,nf,d⟩
 ·have hfn:X.fn x=true:=by
   rcases hf with z | z
   ·exact z
   ·rw[z] at hk;cases hk
  obtain⟨c,hc⟩:=I.ok.has x (.inl hk);obtain⟨w',z⟩:=I.cell x c hc;refine wpAny_storeName_cell I.ok.kind hk hc z (λh' hc' hs=>?_);obtain⟨oc,hoc,hocd⟩:=id z;refine h { s with heap:=h' } ⟨I.ok,I.os,I.bare,⟨λb o e n hb hx=>?_,λb o e n hb hx=>?_,I.base.free,λb o e hx=>?_,I.base.tups,I.base.frzs,I.base.tbls⟩,⟨m,hn.sameBut hs (Ne.symm (cne x c hc)),λj y v' e1 e2 e3=>?_⟩,λy c' e=>?_,I.free,I.freeC,λp hp=>?_,tracked ⟨oc,hoc,I.freeC x c hc⟩ hs,by simpa using I.len⟩ ⟨c,hs,.inr hc⟩
  ·exact(hs.2 b 8.6).trans 1.38
  ·obtain⟨sl,e1⟩:=I.base.slot b o e n hb hx;exact⟨sl,(hs.2 b 8.6).trans e1⟩
  ·obtain⟨o',e1⟩:=I.base.there b o e hx;exact⟨o',(hs.2 b 8.6).trans e1⟩
  ·by_cases hj:j=i
   ·subst hj;rw[hi] at e1;cases e1;rw[aaL hiσ] at e2;cases e2;exact⟨u,r,.inr ⟨.inl hk,c,hc,hc'⟩⟩
   ·rw[aaF 1.16] at e2;obtain⟨u',r',q⟩:=hl j y v' e1 e2 e3;refine⟨u',r',?_⟩;rcases q with q | ⟨k,c',e,z'⟩
    ·exact .inl q
    ·refine .inr ⟨k,c',e,z'.sameBut hs ?_⟩;rintro rfl;exact hj (EH hN e1 (I.ok.inj _ _ _ e hc ▸ hi))
  ·by_cases hcc:c'=c
   ·subst hcc;exact⟨_,hc'⟩
   ·obtain⟨w2,z2⟩:=I.cell y c' e;exact⟨w2,z2.sameBut hs hcc⟩
  ·obtain⟨e,n,ne,nf,d⟩:=I.pin p hp;refine⟨(hs.2 p.1 ?_).trans e,n,ne,nf,d⟩;intro q;rw[q,hoc] at e;have q':oc=p.2:=aaE e;exact d w' (by rw[<- q'];exact hocd)
theorem oI{i:Nat}{Q:Unit->gV->Prop}(I:Inv X pins σ H s)(hN:X.N.Nodup)(hi:X.N[i]?=Y x)(hx:NV X.env.scope x)(r:RelV v u)
  (h:∀ s',Inv X pins (σ.set i (Y v)) H s'->Q () s') (hf:X.fn x=true\/X.env.scope.names.lookup x=Y .local:=by first | exact .inl rfl | exact .inr rfl | assumption):aeN M A (storeName X.env x u) Q E s:=
 Ab I hN hi hx r (λs' I' z=>h s' I') hf
theorem Inv.call'{s':gV}(I:Inv X pins σ H s)(ho:s'.os=s.os)(u:Un (AU X.stack) ch H H' s.heap s'.heap)(hok:HOk X.prog X.w H' s'.heap)(hg:AllBare s'.gens)
  (hch:∀ b∈ch,(b∈X.ex\/X.s₀.heap.objs.size<=b)/\b≠X.env.locals/\(∀ x c,X.env.cells.lookup x=Y c->c≠b)/\∀ p∈X.pn++pins,p.1≠b):Inv X pins σ H' s':=by
 obtain⟨h',g',d',t',o'⟩:=s';have e:o'=s.os:=ho;subst e;exact I.call (g':=g') (t':=t') (d':=d') u hok hg hch
end
noncomputable abbrev XK:=ce->Option tx->Hp->Prop
noncomputable abbrev St:=List (Option V)
noncomputable abbrev VK:=V->Hp->Prop
noncomputable abbrev TE:=St->Hp->VK->Prop
noncomputable abbrev TT:=St->Hp->(Bool->Hp->Prop)->Prop
noncomputable abbrev TA:=St->Hp->(List V->Hp->Prop)->Prop
structure rS where
 nx:St->Hp->Prop
 rt:VK
 bk:St->Hp->Prop:=λ_ _=>False
 ct:St->Hp->Prop:=λ_ _=>False
noncomputable abbrev TS:=rS->St->Hp->Prop
def EP(X:Cx)(pins:List (tx×Obj))(σ:St)(Q:VK)(u:ce)(s':gV):Prop:=∃ v H',Inv X pins σ H' s'/\RelV v u/\Q v H'
def TP(X:Cx)(pins:List (tx×Obj))(σ:St)(Q:Bool->Hp->Prop)(b:Bool)(s':gV):Prop:=∃ H',Inv X pins σ H' s'/\Q b H'
def AP(X:Cx)(pins:List (tx×Obj))(σ:St)(Q:List V->Hp->Prop)(us:List ce)(s':gV):Prop:=∃ vs H',Inv X pins σ H' s'/\Vals vs us/\Q vs H'
def SP(X:Cx)(pins:List (tx×Obj))(D:rS)(f:Flow)(s':gV):Prop:=
 match f with
 | .next=>∃ σ' H',Inv X pins σ' H' s'/\D.nx σ' H'
 | .brk=>∃ σ' H',Inv X pins σ' H' s'/\D.bk σ' H'
 | .cont=>∃ σ' H',Inv X pins σ' H' s'/\D.ct σ' H'
 | .ret u=>∃ v σ' H',Inv X pins σ' H' s'/\RelV v u/\D.rt v H'
def PE(X:Cx)(e:vx)(t:TE):Prop:=
 ∀ (pins:List (tx×Obj)) (s:gV) (σ:St) (H:Hp) (Q:VK),Inv X pins σ H s->t σ H Q->aeN 0.2 X.A (eval e X.env) 3.4 X.xe s
def PT(X:Cx)(e:vx)(t:TT):Prop:=
 ∀ (pins:List (tx×Obj)) (s:gV) (σ:St) (H:Hp) (Q:Bool->Hp->Prop),Inv X pins σ H s->t σ H Q->aeN 0.2 X.A (isTrue e X.env (eval e X.env)) 1.68 X.xe s
def PW(X:Cx)(e:vx)(t:TT):Prop:=
 ∀ (whole:Sem ce) (pins:List (tx×Obj)) (s:gV) (σ:St) (H:Hp) (Q:Bool->Hp->Prop),Inv X pins σ H s->t σ H Q->aeN 0.2 X.A (isTrue e X.env whole) 1.68 X.xe s
theorem PW.pt(h:PW X e t):PT X e t:=h _
def PA(X:Cx)(es:List vx)(t:TA):Prop:=
 ∀ (pos:Pos) (pins:List (tx×Obj)) (s:gV) (σ:St) (H:Hp) (Q:List V->Hp->Prop),Inv X pins σ H s->t σ H Q->aeN 0.2 X.A (spliced (backTo pos 2.2)) (AP X pins σ Q) X.xe s
def PS(X:Cx)(st:QO)(t:TS):Prop:=
 ∀ (pins:List (tx×Obj)) (s:gV) (σ:St) (H:Hp) (D:rS),Inv X pins σ H s->t D σ H->aeN 0.2 X.A (exec st X.env) (SP X pins D) X.xe s
def PSs(X:Cx)(st:List QO)(t:TS):Prop:=
 ∀ (pins:List (tx×Obj)) (s:gV) (σ:St) (H:Hp) (D:rS),Inv X pins σ H s->t D σ H->aeN 0.2 X.A (execs st X.env) (SP X pins D) X.xe s
theorem dO{α:Type}{t:Sem α}{Q Q':α->gV->Prop}{M:Model}{A:SN}{E:ce->gV->Prop}{s:gV}(h:aeN M A t Q E s)(hQ:∀ a s,Q a s->Q' a s):aeN M A t Q' E s:=aaO h hQ λz z x=>x
section
variable{X:Cx}
def tVar(i:Nat):TE:=λσ H Q=>∃ v,σ[i]?=Y (Y v)/\Q v H
def tC(v:V):TE:=λz H Q=>Q v H
theorem HL{i:Nat}(hN:X.N[i]?=Y x)(hv:Wz X.env.scope x)(hd:(x==("__debug__":Str))=false:=by decide)(hcd:(x==("__classdict__":Str))=false:=by decide):PE X 5.5 (tVar i):=by
 intro pins s σ H Q I h;obtain⟨v,e,h⟩:=h;obtain⟨m,hn,hl⟩:=I.loc;obtain⟨u,r,l⟩:=hl i x v hN e hv;have fin:EP X pins σ Q u s:=⟨v,H,I,r,h⟩
 rcases l with ⟨hk,hm⟩ | ⟨hk,c,hc,hcell⟩
 ·exact wpAny_Name (wpAny_loadName_local I.ok.kind hk hn hm fin) hd
 ·rcases hk with hk | hk
  ·exact wpAny_Name (wpAny_loadName_cell I.ok.kind hk hc hcell fin) hd
  ·exact wpAny_Name (wpAny_loadName_free I.ok.kind hk hc hcell fin hcd) hd
theorem YQ{i j pos}:PE X (.Constant (.int i) j pos) (tC (.int i)):=λz z z H z I h=>wpAny_Constant_int ⟨.int i,H,I.tok _,⟨_,rfl⟩,h⟩
theorem pe_bl{b j pos}:PE X (.Constant 1.61 j pos) (tC (.bl b)):=λz z z H z I h=>Constant_bool ⟨.bl b,H,I,rfl,h⟩
theorem YO{j pos}:PE X (.Constant .none j pos) (tC .non):=λz z z H z I h=>Constant_none ⟨.non,H,I,rfl,h⟩
theorem YK{x j pos}:PE X 1.42 (tC (.str x)):=λz z z H z I h=>aeK ⟨.str x,H,I.tok _,⟨_,rfl⟩,h⟩
def Gl(X:Cx)(x:Str):Prop:=X.env.kindOf x=Y .globalImplicit
theorem sQ{s:gV}{Q:ce->gV->Prop}(I:Inv X pins σ H s)(hg:Gl X x)(hm:X.mg x=Y u)(h:Q u s)
  (hd:(x==("__debug__":Str))=false:=by decide):aeN 0.2 X.A (eval 5.5 X.env) Q E s:=
 acD I.ok.kind hg (adZ (by rw[I.ok.glob];exact I.mod.glob.keeps I.bk) hm h) hd
theorem rB{s:gV}{Q:ce->gV->Prop}(I:Inv X pins σ H s)(hg:Gl X x)(hm:X.mg x=L)(hv:bootBuiltins x=Y u)(h:Q u s)
  (hn:x≠"__name__":=by decide) (hd:(x==("__debug__":Str))=false:=by decide):aeN 0.2 X.A (eval 5.5 X.env) Q E s:=by
 obtain⟨mb,h1,h2⟩:=I.mod.blt;exact acD I.ok.kind hg (Calls.loadGlobal_builtin (by rw[I.ok.glob];exact I.mod.glob.keeps I.bk) hm (by rw[I.ok.blt];exact h1.keeps I.bk) ((h2 x hn).trans hv) h) hd
theorem BW(hg:Gl X x)(hm:X.mg x=Y u)(r:RelV v u)(hd:(x==("__debug__":Str))=false:=by decide):PE X 5.5 (tC v):=
 λz z z H z I h=>sQ I hg hm ⟨v,H,I,r,h⟩ hd
theorem Uj(hg:Gl X x)(hm:X.mg x=L)(hv:bootBuiltins x=Y u)(r:RelV v u)(hn:x≠"__name__":=by decide)(hd:(x==("__debug__":Str))=false:=by decide):PE X 5.5 (tC v):=
 λz z z H z I h=>rB I hg hm hv ⟨v,H,I,r,h⟩ hn hd
variable{a b:vx}{ta tb:TE}{pos:Pos}
variable{tA tB':TT}{rest:List vx}
def tAnd(t u:TT):TT:=λσ H Q=>t σ H λc H1=>if c=true then u σ H1 Q else Q false H1
def tOr(t u:TT):TT:=λσ H Q=>t σ H λc H1=>if c=true then Q true H1 else u σ H1 Q
def tNot(t:TT):TT:=λσ H Q=>t σ H λc H1=>Q (!c) H1
theorem TJ(ha:PT X a tA):PW X (.BoolOp .And [a] pos) tA:=by
 intro wh pins s σ H Q I h;refine isTrue_and (dO (ha pins s σ H Q I h) λc s1 e=>?_);cases c with
 | true=>exact isTrue_and_nil e
 | false=>exact e
theorem Yy(ha:PT X a tA):PW X (.BoolOp .Or [a] pos) tA:=by
 intro wh pins s σ H Q I h;refine isTrue_or (dO (ha pins s σ H Q I h) λc s1 e=>?_);cases c with
 | false=>exact isTrue_or_nil e
 | true=>exact e
theorem Yz(ha:PT X a tA)(hb:PW X (.BoolOp .And (b::rest) pos) tB'):PW X (.BoolOp .And (a::b::rest) pos) (tAnd tA tB'):=by
 intro wh pins s σ H Q I h;refine isTrue_and (dO 2.7 λc s1 ⟨H1,I1,q1⟩=>?_);cases c with
 | true=>exact hb wh pins s1 σ H1 Q I1 q1
 | false=>exact⟨H1,I1,q1⟩
theorem pw_or(ha:PT X a tA)(hb:PW X (.BoolOp .Or (b::rest) pos) tB'):PW X (.BoolOp .Or (a::b::rest) pos) (tOr tA tB'):=by
 intro wh pins s σ H Q I h;refine isTrue_or (dO 2.7 λc s1 ⟨H1,I1,q1⟩=>?_);cases c with
 | true=>exact⟨H1,I1,q1⟩
 | false=>exact hb wh pins s1 σ H1 Q I1 q1
theorem YA(ha:PT X a tA):PT X 1.17 (tNot tA):=by
 intro pins s σ H Q I h;exact isTrue_not (ha pins s σ H (λc H1=>Q (!c) H1) I h)
theorem YN{op}(h:PE X a t):PE X (.BoolOp op [a] pos) t:=λpins s σ H Q I hw=>BoolOp_one (h pins s σ H Q I hw)
def tIf(t:TT)(ta tb:TE):TE:=λσ H Q=>t σ H λc H1=>if c=true then ta σ H1 Q else tb σ H1 Q
theorem Ph(hc:PT X c tA)(ha:PE X a ta)(hb:PE X b tb):PE X (.IfExp c a b pos) (tIf tA ta tb):=by
 intro pins s σ H Q I h;refine wpAny_IfExp (dO (hc pins s σ H _ I h) λd s1 ⟨H1,I1,q1⟩=>?_);cases d with
 | true=>exact ha pins s1 σ H1 Q I1 q1
 | false=>exact hb pins s1 σ H1 Q I1 q1
end
def qD(K:aeO)(H:Hp)(a:tx)(xs:List V):Prop:=
 Rd H a 2.4 \/
  ∃ (o:Obj) (its:Array ce) (n:Nat),K.lookup a=Y o/\o.cls=.type "list"/\o.dict=L/\o.data=.seq its n/\its.size<=Vj/\Vals xs its.toList
def rR(K:aeO)(H:Hp)(a:tx)(xs:List V):Prop:=
 Rd H a 4.6 \/
  ∃ (o:Obj) (its:Array ce) (n:Nat),K.lookup a=Y o/\o.cls=.type "tuple"/\o.dict=L/\o.data=.seq its n/\its.size<=Vj/\Vals xs its.toList
def absV:ce->Option V
 | .none=>Y .non
 | .bool b=>Y (.bl b)
 | .int i _=>Y (.int i)
 | .str x _=>Y (.str x)
 | .bytes b _=>Y (.byt b)
 | .float b _=>Y (.flt b)
 | .ref a=>Y (.ref a)
 | .type n=>Y (.ty n)
 | _=>L
theorem RelV.abs(r:RelV x u):absV u=Y x:=by
 cases x with
 | non=>cases r;rfl
 | bl _=>cases r;rfl
 | int _=>obtain⟨t,rfl⟩:=r;rfl
 | str _=>obtain⟨t,rfl⟩:=r;rfl
 | byt _=>obtain⟨t,rfl⟩:=r;rfl
 | flt _=>obtain⟨t,rfl⟩:=r;rfl
 | ref _=>cases r;rfl
 | ty _=>cases r;rfl
theorem RelV.inj(r:RelV x u)(q:RelV y u):x=y:=aaE (r.abs.symm.trans q.abs)
theorem Vals.inj:∀ {xs ys:List V} {us:List ce},Vals xs us->Vals ys us->xs=ys
 | _,_,_,.nil,.nil=>rfl
 | _,_,_,.cons r t,.cons r' t'=>by rw[r.inj r',Vals.inj t t']
section
variable{X:Cx}{pins:List (tx×Obj)}{σ:St}{H:Hp}{s:gV}{a:tx}{xs ys:List V}
theorem Inv.list(I:Inv X pins σ H s)(h:qD X.K H a xs):∃ its:List ce,Vals xs its/\PlainL s.heap a its.toArray/\xs.length<=Vj:=by
 rcases h with h | ⟨o,its,n,hk,hc,hd,hs,hz,r⟩
 ·obtain⟨z,its,n,r,e⟩:=h.ok I.hok;exact⟨its,r,⟨_,n,e,rfl,rfl,rfl⟩,z⟩
 ·refine⟨its.toList,r,⟨o,n,I.kIn a o hk,hc,hd,by simpa using hs⟩,?_⟩;have e:=r.length;simp only[acC] at e;omega
theorem Inv.tuple(I:Inv X pins σ H s)(h:rR X.K H a xs):∃ its:List ce,Vals xs its/\IsTup s.heap a its.toArray/\xs.length<=Vj:=by
 rcases h with h | ⟨o,its,n,hk,hc,hdn,hs,hz,r⟩
 ·obtain⟨z,its,r,p⟩:=h.ok I.hok;exact⟨its,r,p.up,z⟩
 ·refine⟨its.toList,r,⟨o,I.kIn a o hk,hc,n,by simpa using hs⟩,?_⟩;have e:=r.length;simp only[acC] at e;omega
theorem Inv.list_inj(I:Inv X pins σ H s)(h:qD X.K H a xs)(h':qD X.K H a ys):xs=ys:=by
 obtain⟨its,r,⟨o,n,e,z,z,d⟩,z⟩:=I.list h;obtain⟨its',r',⟨o',n',e',z,z,d'⟩,z⟩:=I.list h';rw[e] at e';cases e';rw[d] at d';injection d' with d1 _;have:its=its':=by simpa using congrArg Array.toList d1
 subst this;exact r.inj r'
theorem Inv.tuple_inj(I:Inv X pins σ H s)(h:rR X.K H a xs)(h':rR X.K H a ys):xs=ys:=by
 obtain⟨its,r,⟨o,e,z,n,d⟩,z⟩:=I.tuple h;obtain⟨its',r',⟨o',e',z,n',d'⟩,z⟩:=I.tuple h';rw[e] at e';cases e';rw[d] at d';injection d' with d1 _;have:its=its':=by simpa using congrArg Array.toList d1
 subst this;exact r.inj r'
end
noncomputable abbrev Cx.wish(X:Cx)(E:ce->gV->Prop):Cx:={ X with xe:=E }
noncomputable abbrev Cx.nox(X:Cx):Cx:=X.wish λ_ _=>False
theorem Cx.Ok.wish{X:Cx}(ok:X.Ok)(E:ce->gV->Prop):(X.wish E).Ok:=
 ⟨ok.mod,ok.kind,ok.glob,ok.blt,ok.above,ok.inj,ok.has,ok.cab,ok.hd,ok.frames,ok.stk,ok.exf,ok.bs,ok.bsz,ok.noex,ok.exfs,ok.funs,ok.frf⟩
theorem Cx.Ok.unwish{X:Cx}(ok:(X.wish E).Ok):X.Ok:=
 ⟨ok.mod,ok.kind,ok.glob,ok.blt,ok.above,ok.inj,ok.has,ok.cab,ok.hd,ok.frames,ok.stk,ok.exf,ok.bs,ok.bsz,ok.noex,ok.exfs,ok.funs,ok.frf⟩
section
variable{X:Cx}{pins:List (tx×Obj)}{σ:St}{H:Hp}{s:gV}{E:ce->gV->Prop}
theorem Inv.wish(I:Inv X pins σ H s)(E:ce->gV->Prop):Inv (X.wish E) pins σ H s:=⟨I.ok.wish E,I.os,I.bare,I.base,I.loc,I.cell,I.free,I.freeC,I.pin,I.hok,I.len⟩
theorem Inv.unwish(I:Inv (X.wish E) pins σ H s):Inv X pins σ H s:=⟨I.ok.unwish,I.os,I.bare,I.base,I.loc,I.cell,I.free,I.freeC,I.pin,I.hok,I.len⟩
theorem SP.unwish{D:rS}(h:SP (X.wish E) pins D f s'):SP X pins D f s':=by
 cases f with
 | next=>obtain⟨σ',H',I,q⟩:=h;exact⟨σ',H',I.unwish,q⟩
 | brk=>obtain⟨σ',H',I,q⟩:=h;exact⟨σ',H',I.unwish,q⟩
 | cont=>obtain⟨σ',H',I,q⟩:=h;exact⟨σ',H',I.unwish,q⟩
 | ret u=>obtain⟨v,σ',H',I,r,q⟩:=h;exact⟨v,σ',H',I.unwish,r,q⟩
theorem PSs.nox{st:List QO}(h:PSs X.nox st t):PSs X st t:=λpins s σ H D I hw=>
 aaO (h pins s σ H D (I.wish _) hw) (λw w q=>q.unwish) λw w z=>False.elim z
end
section
variable{X:Cx}{st:QO}{rest:List QO}{t u:TS}{e:vx}{te:TE}{pos:Pos}
def Oh:TS:=λD σ H=>D.nx σ H
def tSeq(t u:TS):TS:=λD σ H=>t { D with nx:=u D } σ H
theorem TQ:PSs X [] Oh:=λz z σ H z I h=>acj ⟨σ,H,I,h⟩
theorem wY(h1:PS X st t)(h2:PSs X rest u):PSs X (st::rest) (tSeq t u):=by
 intro pins s σ H D I h;refine adu (dO (h1 pins s σ H { D with nx:=u D } I h) λf s1 q=>?_);cases f with
 | next=>
  obtain⟨σ',H',I',q⟩:=q;exact h2 pins s1 σ' H' D I' q
 | ret v=>exact q
 | brk=>exact q
 | cont=>exact q
theorem wc(h1:PS X st t):PSs X [st] t:=by
 intro pins s σ H D I h;refine adu (dO (h1 pins s σ H D I h) λf s1 q=>?_);cases f with
 | next=>exact acj q
 | ret v=>exact q
 | brk=>exact q
 | cont=>exact q
def Yg:TS:=λD σ H=>D.bk σ H
def tCont:TS:=λD σ H=>D.ct σ H
theorem TV:PS X (.Pass pos) Oh:=λz z σ H z I h=>wpAny_Pass ⟨σ,H,I,h⟩
theorem OX:PS X (.Break pos) Yg:=λz z σ H z I h=>wpAny_Break ⟨σ,H,I,h⟩
theorem Er:PS X (.Continue pos) tCont:=λz z σ H z I h=>wpAny_Continue ⟨σ,H,I,h⟩
theorem Inv.quiet{s:gV}(I:Inv X pins σ H s):interactive X.env=false:=by simp[interactive,I.ok.kind]
theorem YC{x j pos pos'}:PS X (.Expr 1.42 pos') Oh:=λz s σ H z I h=>wpAny_Expr (aeK (show SP X _ _ .next { s with toks:=s.toks+1 } from ⟨σ,H,I.tok _,h⟩)) I.quiet
def tDrop(te:TE):TS:=λD σ H=>te σ H λz H1=>D.nx σ H1
theorem TX(he:PE X e te)(hs:swapsWith e L pos.line X.env=pure false:=by rfl):PS X (.Expr e pos) (tDrop te):=by
 intro pins s σ H D I h;exact wpAny_Expr_any (dO 4.0 λv s1 ⟨x,H1,I1,r1,q1⟩=>⟨σ,H1,I1,q1⟩) I.quiet hs
def tRet(te:TE):TS:=λD σ H=>te σ H D.rt
theorem OV(he:PE X e te):PS X (.Return (Y e) pos) (tRet te):=by
 intro pins s σ H D I h;exact wpAny_Return_some (dO 4.0 λv s1 ⟨x,H1,I1,r1,q1⟩=>⟨x,σ,H1,I1,r1,q1⟩)
def tRetN:TS:=λD z H=>D.rt .non H
theorem TR:PS X (.Return L pos) tRetN:=λz z σ H z I h=>wpAny_Return_none ⟨.non,σ,H,I,rfl,h⟩
def tIfS(c:TT)(t u:TS):TS:=λD σ H=>c σ H λb H1=>if b=true then t D σ H1 else u D σ H1
theorem WR(hc:PT X c tc)(ha:PSs X a t)(hb:PSs X b u):PS X (.If c a b pos) (tIfS tc t u):=by
 intro pins s σ H D I h;refine wpAny_If (dO (hc pins s σ H _ I h) λd s1 ⟨H1,I1,q1⟩=>?_);cases d with
 | true=>exact ha pins s1 σ H1 D I1 q1
 | false=>exact hb pins s1 σ H1 D I1 q1
end
noncomputable abbrev TG:=V->St->Hp->(St->Hp->Prop)->Prop
noncomputable abbrev SS:=List V->St->Hp->(St->Hp->Prop)->Prop
def PG(X:Cx)(target:vx)(t:TG):Prop:=
 ∀ (pins:List (tx×Obj)) (s:gV) (σ:St) (H:Hp) (v:V) (u:ce) (Q:St->Hp->Prop),Inv X pins σ H s->RelV v u->t v σ H Q ->
  aeN 0.2 X.A (assign target X.env u) (λz s'=>∃ σ' H',Inv X pins σ' H' s'/\Q σ' H') X.xe s
def PGs(X:Cx)(ts:List vx)(t:SS):Prop:=
 ∀ (pins:List (tx×Obj)) (s:gV) (σ:St) (H:Hp) (vs:List V) (us:List ce) (Q:St->Hp->Prop),Inv X pins σ H s->Vals vs us->t vs σ H Q ->
  aeN 0.2 X.A (assignInOrder ((assignEach ts X.env).map (·.2)) us) (λz s'=>∃ σ' H',Inv X pins σ' H' s'/\Q σ' H') X.xe s
noncomputable abbrev qbp:=V->V->V->Hp->(Hp->Prop)->Prop
def PSet(X:Cx)(t:qbp):Prop:=
 ∀ (pins:List (tx×Obj)) (s:gV) (σ:St) (H:Hp) (o i v:V) (ov iv u:ce) (Q:Hp->Prop),Inv X pins σ H s->RelV o ov->RelV i iv->RelV v u->t o i v H Q ->
  aeN 0.2 X.A (setItem ov iv u) (λz s'=>∃ H',Inv X pins σ H' s'/\Q H') X.xe s
section
variable{X:Cx}{pos:Pos}
def KI(i:Nat):TG:=λv σ H Q=>Q (σ.set i (Y v)) H
theorem Ue{i:Nat}(hN:X.N.Nodup)(hi:X.N[i]?=Y x)(hx:NV X.env.scope x)(hf:X.fn x=true\/X.env.scope.names.lookup x=Y .local:=by first | exact .inl rfl | exact .inr rfl | assumption):PG X 5.5 (KI i):=by
 intro pins s σ H v u Q I r h;exact wpAny_assign_Name (oI I hN hi hx r (λs' I'=>⟨_,H,I',h⟩) hf)
def gNil:SS:=λvs σ H Q=>vs=[]/\Q σ H
def gCons(t:TG)(u:SS):SS:=λvs σ H Q=>∃ v r,vs=v::r/\t v σ H λσ' H'=>u r σ' H' Q
theorem Ud:PGs X [] gNil:=by
 intro pins s σ H vs us Q I r h;obtain⟨e,h⟩:=h;subst e;cases r;exact assignInOrder_nil ⟨σ,H,I,h⟩
theorem Pd{e:vx}(h1:PG X e t)(h2:PGs X es u)
  (hs:(assignEach (e::es) X.env).map (·.2)=assign e X.env::(assignEach es X.env).map (·.2):=by rfl):PGs X (e::es) (gCons t u):=by
 intro pins s σ H vs us Q I r h;obtain⟨v,vr,e1,h⟩:=h;subst e1;cases r with
 | cons r rr=>
  rw[hs];refine add (dO (h1 pins s σ H _ _ _ I r h) λ_ s1 ⟨σ1,H1,I1,q1⟩=>?_);exact h2 pins s1 σ1 H1 _ _ Q I1 rr q1
def gTup(K:aeO)(n:Nat)(t:SS):TG:=λv σ H Q=>∃ a xs,v=.ref a/\rR K H a xs/\xs.length=n/\t xs σ H Q
theorem YF{k:Nat}{n:Nat}(hc:X.calm=true)(h:PGs X es t)
  (hn:(assignEach es X.env).length=n:=by rfl) (hst:(assignEach es X.env).findIdx? (·.1)=L:=by rfl):PG X 9.6 (gTup X.K n t):=by
 intro pins s σ H v u Q I r hw;obtain⟨a,xs,e1,hq,hl,hw⟩:=hw;subst e1;cases r;obtain⟨its,rv,ht,hz⟩:=I.tuple hq;refine assign_Tuple_tuple 6.6 ht (by simp[hn,<- hl,rv.length]) hst λh' hx=>?_;have I1:Inv X pins σ H { s with heap:=h' }:=I.kept (t':=s.toks) λb o e=>hx b o (aaM (aaq e)) e;exact h pins _ σ H xs _ Q I1 (by simpa using rv) hw
def gSub(to ti:TE)(t:qbp):TG:=λv σ H Q=>to σ H λo H1=>ti σ H1 λi H2=>t o i v H2 λH3=>Q σ H3
theorem YG{to:TE}(ho:PE X o to)(hi:PE X i ti)(hs:PSet X t)
  (ha:∀ v,assign 1.23 X.env v=(do
   let ov <- holding [v] 8.4;let iv <- holding [v,ov] (eval i X.env)
   standAt pos
   holding [v,ov,iv] (setItem ov iv v)
   release [v,ov,iv] []):=by intro z;rfl):PG X 1.23 (gSub to ti t):=by
 intro pins s σ H v u Q I r h;rw[ha];refine aab (abe (dO 1.13 λov s1 ⟨x,H1,I1,r1,q1⟩=>?_));refine aab (abe (dO (hi pins s1 σ H1 _ I1 q1) λiv s2 ⟨y,H2,I2,r2,q2⟩=>?_));refine aab (abF (aab (abe (dO (hs pins s2 σ H2 x y v ov iv u _ I2 r1 r2 r q2) λ_ s3 ⟨H3,I3,q3⟩=>?_))));exact wpAny_release ⟨σ,H3,I3,q3⟩
def Om(te:TE)(g:TG):TS:=λD σ H=>te σ H λx H1=>g x σ H1 D.nx
theorem YD(he:PE X e te)(hg:PG X tg g)(hs:swapsWithSole [tg] e pos.line X.env=pure false:=by rfl)(hw:swappedStores [tg] e X.env=pure L:=by rfl)
  (h1:(assignEach [tg] X.env).map (·.2)=[assign tg X.env]:=by rfl):PS X (.Assign [tg] e pos) (Om te g):=by
 intro pins s σ H D I h;refine wpAny_Assign_stores (dO 4.0 λv s1 ⟨x,H1,I1,r1,q1⟩=>?_) hs hw;rw[h1];exact dO (hg pins s1 σ H1 x v _ I1 r1 q1) λz s2 q=>q
theorem OU{i:Nat}(hN:X.N.Nodup)(hi:X.N[i]?=Y x)(hx:NV X.env.scope x)(he:PE X e te)(hs:swapsWith e (Y (.Name x pos')) pos.line X.env=pure false:=by rfl)(hf:X.fn x=true\/X.env.scope.names.lookup x=Y .local:=by first | exact .inl rfl | exact .inr rfl | assumption) :
  PS X (.Assign [.Name x pos'] e pos) (Om te (KI i)):=by
 intro pins s σ H D I h;refine wpAny_Assign_Name (dO 4.0 λv s1 ⟨y,H1,I1,r1,q1⟩=>?_) hs;exact oI I1 hN hi hx r1 (λs2 I2=>⟨_,H1,I2,q1⟩) hf
def tPar(i j:Nat)(ta:TA):TS:=λD σ H=>ta σ H λvs H1=>∃ v w,vs=[v,w]/\D.nx ((σ.set i (Y v)).set j (Y w)) H1
theorem YB{i j:Nat}{a b:vx}{pt:Pos}{kt k2 pt2}(hc:X.calm=true)(hN:X.N.Nodup)(hi:X.N[i]?=Y x)(hj:X.N[j]?=Y y)(hij:i≠j)
  (hx:X.env.scope.names.lookup x=Y .local) (hy:X.env.scope.names.lookup y=Y .local) (ha:PA X [a,b] ta)
  (hw:swappedStores [.Tuple [.Name x px,.Name y py] kt pt] (.Tuple [a,b] k2 pt2) X.env=pure (Y [x,y]))
  (hs:swapsWithSole [.Tuple [.Name x px,.Name y py] kt pt] (.Tuple [a,b] k2 pt2) pos.line X.env=pure false:=by rfl) :
  PS X (.Assign [.Tuple [.Name x px,.Name y py] kt pt] (.Tuple [a,b] k2 pt2) pos) (tPar i j ta):=by
 intro pins s σ H D I h;rw[exec_Assign_arm];refine aab (abF ?_);rw[hs];refine aab (aam ?_);rw[if_neg 0.1];refine aab (Tuple_ (dO (ha _ pins s σ H _ I h) λus s1 ⟨vs,H1,I1,r1,q1⟩=>?_));obtain⟨v,w,e1,q1⟩:=q1;subst e1
 obtain⟨u1,u2,rfl,rv,rw'⟩:∃ u1 u2,us=[u1,u2]/\RelV v u1/\RelV w u2:=by
  cases r1 with
  | cons p q=>
   cases q with
   | cons p' q'=>
    cases q';exact⟨_,_,rfl,p,p'⟩
 refine aaS ?_ (by show 2<=Vj;decide);have I2:Inv X pins σ H1 { s1 with heap:=s1.heap.push { cls:=.type "tuple",data:=.seq [u1,u2].toArray } }:=I1.kept (t':=s1.toks) λb o e=>aaf _ e;rw[hw];refine aab (aam ?_);show aeN 0.2 X.A (do rule "assign.swapped-stores";let items <- unpackItems (.ref s1.heap.objs.size) 2 L;assignInOrder [λv=>bindName X.env y v,λv=>bindName X.env x v] items.reverse;pure Flow.next) _ _ _;refine aab (adJ (aab (unpackItems_tuple (items:=#[u1,u2]) 6.6 (IsTup.new s1.heap _) λh' hx'=>?_)));have I3:=I2.kept (h':=h') (t':=s1.toks) λb o e=>hx' b o (aaM (aaq e)) e;show aeN _ _ (assignInOrder [λv=>bindName X.env y v,λv=>bindName X.env x v] [u2,u1] >>= λz=>pure Flow.next) _ _ _;refine aab (add (wpAny_bindName (oI I3 hN hj (.inl hy) rw' (λs2 I4=>?_) (.inr hy))));refine add (wpAny_bindName (oI I4 hN hi (.inl hx) rv (λs3 I5=>assignInOrder_nil (aam ?_)) (.inr hx)));rw[List.set_comm _ _ (Ne.symm hij)] at I5;exact⟨_,H1,I5,q1⟩
end
section
variable{X:Cx}{pos:Pos}
def Yc(c:TT)(tb:TS):TS:=λD σ H=>∃ W:Nat->St->Hp->Prop,(∃ m,W m σ H)/\∀ m σ H,W m σ H ->
 c σ H λb H1=>if b=true then ∃ N:St->Hp->Prop,(∀ σ' H',N σ' H'->∃ m',m'<m/\W m' σ' H')/\tb { D with nx:=N,ct:=N,bk:=D.nx } σ H1 else D.nx σ H1
theorem OT(hp:PassesOwn 0.2 X.A X.env X.xe)(hc:PT X c tc)(hb:PSs X body tb):PS X (.While c body [] pos) (Yc tc tb):=by
 intro pins s σ H D I h;obtain⟨W,⟨m0,w0⟩,turn⟩:=h;refine wpAny_While (codeAny_whileLoop (λn s'=>∃ σ' H',Inv X pins σ' H' s'/\W n σ' H') ?_ m0 ⟨σ,H,I,w0⟩);rintro n s1 ⟨σ1,H1,I1,w1⟩;refine abX hp (dO (hc pins s1 σ1 H1 _ I1 (turn n σ1 H1 w1)) λb s2 ⟨H2,I2,q2⟩=>?_);cases b with
 | true=>
  obtain⟨N,hN,q2⟩:=q2;rw[aas rfl];refine abX hp (dO (hb pins s2 σ1 H2 _ I2 q2) λf s3 q3=>?_);cases f with
  | next=>
   obtain⟨σ3,H3,I3,n3⟩:=q3;obtain⟨m',hm,w3⟩:=hN σ3 H3 n3;exact⟨m',hm,σ3,H3,I3,w3⟩
  | cont=>
   obtain⟨σ3,H3,I3,n3⟩:=q3;obtain⟨m',hm,w3⟩:=hN σ3 H3 n3;exact⟨m',hm,σ3,H3,I3,w3⟩
  | brk=>exact q3
  | ret v=>exact q3
 | false=>
  rw[if_neg aeQ];exact acj ⟨σ1,H2,I2,q2⟩
end
structure It where
 go:Nat->Hp->Prop
 yld:Nat->Hp->V->Hp->Prop
 stop:Nat->Hp->Prop
def uN(X:Cx)(pins:List (tx×Obj))(H:Hp)(b:tx):Prop:=
 H b=L/\b≠X.env.locals/\b∉X.fs/\(b∈X.ex\/X.s₀.heap.objs.size<=b)/\(∀ x c,X.env.cells.lookup x=Y c->c≠b)/\∀ p∈X.pn++pins,p.1≠b
theorem Inv.fpOk{H':Hp}{s:gV}{b:tx}(I:Inv X pins σ H s)(hb:s.heap.objs.size<=b)(hn:H' b=L):uN X pins H' b:=by
 refine⟨hn,aca (aaG I.lt hb),I.nofs hb,.inr (aaD I.sz hb),λx c e z=>?_,λp hp z=>?_⟩
 ·obtain⟨v,q⟩:=I.cell x c e;exact absurd (aaG q.lt (by rw[z];exact hb)) (abN _)
 ·exact absurd (aaG (aaq (I.pin p hp).1) (by rw[z];exact hb)) (abN _)
structure NM(P:Op)(w:Qa)(K:aeO)(tg:vx)(J:It)(fp:List tx)(it:tx)(tn:Nat->TF->Prop):Prop where
 mem:it∈fp
 obj:∀ i h,tn i h->∀ b∈fp,∃ o,h.get? b=Y o/\∀ v,o.data≠.cell v
 keep:∀ i h h',tn i h->(∀ b∈fp,∀ o,h.get? b=Y o->h'.get? b=Y o)->tn i h'
 item:∀ (X:Cx),X.prog=P->X.w=w->X.K=K->X.calm=true->∀ (i:Nat) (pins:List (tx×Obj)) (s:gV) (σ:St) (H:Hp) (E:ce->gV->Prop),Inv X pins σ H s->(∀ b∈fp,uN X pins H b)->tn i s.heap->J.go i H ->
  aeN 1.03 X.A (pyNext 6.5) (λr s1=>∃ u,r=Y u /\
   aeN 1.03 X.A (letOwnedTupleGo tg 6.5 u) (λ_ s2=>∃ x H',Inv X pins σ H' s2/\RelV x u/\J.yld i H x H'/\tn (i+1) s2.heap/\∀ b∈fp,H' b=L) E s1) E s
 done:∀ (X:Cx),X.prog=P->X.w=w->X.K=K->X.calm=true->∀ (i:Nat) (pins:List (tx×Obj)) (s:gV) (σ:St) (H:Hp) (E:ce->gV->Prop),Inv X pins σ H s->(∀ b∈fp,uN X pins H b)->tn i s.heap->J.stop i H ->
  aeN 1.03 X.A (pyNext 6.5) (λr s1=>r=L/\Inv X pins σ H s1) E s
 self:∀ (A:SN) (i:Nat) (s:gV) (Q:ce->gV->Prop) (E:ce->gV->Prop),tn i s.heap->Q 6.5 s->aeN 1.03 A (pyIter 6.5) Q E s
noncomputable abbrev TI:=St->Hp->(It->Hp->Prop)->Prop
def PIE(X:Cx)(pins:List (tx×Obj))(σ:St)(tg:vx)(R:It->Hp->Prop)(itv:ce)(s2:gV):Prop:=
 ∃ (it:tx) (fp:List tx) (tn:Nat->TF->Prop) (J:It) (H':Hp),itv=.ref it/\Inv X pins σ H' s2/\NM X.prog X.w X.K tg J fp it tn/\tn 0 s2.heap/\(∀ b∈fp,uN X pins H' b)/\R J H'
def PI(X:Cx)(tg iter:vx)(wi:TI):Prop:=
 ∀ (pins:List (tx×Obj)) (s:gV) (σ:St) (H:Hp) (R:It->Hp->Prop),Inv X pins σ H s->wi σ H R ->
  aeN 0.2 X.A (eval iter X.env) (λv s1=>aeN 0.2 X.A (pyIter v) (PIE X pins σ tg R) X.xe s1) X.xe s
theorem QE{s:gV}{Q:Unit->gV->Prop}(ho:s.heap.get? it=Y o)(hc:o.cls=.type n)(hd:o.data=.fields vs)
  (hn:["enumerate","zip","dict_itemiterator","dict_reverseitemiterator","odict_iterator","itertools.zip_longest","itertools.pairwise"].contains n=false) (hQ:Q () s):aeN M A (letOwnedTupleGo tg 6.5 u) Q E s:=by
 unfold letOwnedTupleGo
 cases tg<;>first
  | exact aam hQ
  | (cases u<;>first
    | exact aam hQ
    | (refine aab (wpAny_load ho ?_); rw[hc,hd]; show aeN M A (if (["enumerate","zip","dict_itemiterator","dict_reverseitemiterator","odict_iterator","itertools.zip_longest","itertools.pairwise"].contains n&&vs[0]?==Y (rawInt _))=true then _ else _) Q E s; rw[if_neg (by intro h;rw[hn,aaK] at h;cases h)]; exact aam hQ))
def Itl(K:aeO)(a:tx):It:=
 ⟨λi H=>∃ xs x,qD K H a xs/\xs[i]?=Y x,λi H x H'=>H'=H/\∀ xs,qD K H a xs->xs[i]?=Y x,λi H=>∃ xs,qD K H a xs/\xs.length<=i⟩
def Itt(K:aeO)(a:tx):It:=
 ⟨λi H=>∃ xs x,rR K H a xs/\xs[i]?=Y x,λi H x H'=>H'=H/\∀ xs,rR K H a xs->xs[i]?=Y x,λi H=>∃ xs,rR K H a xs/\xs.length<=i⟩
def Itr(lo:Int)(n:Nat):It:=⟨λi z=>i<n,λi H x H'=>H'=H/\x=.int (lo+i),λi z=>n<=i⟩
theorem zW{K:aeO}(a it:tx):NM P w K tg (Itl K a) [it] it (λi h=>h.IsListIter it a i) where
 mem:=by simp
 obj:=λi h st b hb=>by
  have e:b=it:=by simpa using hb
  subst e;obtain⟨o,e,c,d⟩:=st;exact⟨o,e,λv z=>by rw[d] at z;cases z⟩
 keep:=λi h h' st k=>st.at λo e=>k it 0.3 o e
 item:=by
  intro X hP hw hK hc i pins s σ H E I hf st hg;subst hP hw hK;obtain⟨xs,x,hq,hx⟩:=hg;obtain⟨its,rv,p,hz⟩:=I.list hq;obtain⟨u,hu,ru⟩:=rv.get hx;obtain⟨f0,f1,f2,f3,f4,f5⟩:=hf it 0.3;refine aeb st p.isList (x:=u) (by simpa using hu) λh' st' sb=>?_;have I1:Inv X pins σ H { s with heap:=h' }:=I.turned (t':=s.toks) (λb o hb e=>(sb.2 b hb).trans e) f0 f1 f3 f4 f5;obtain⟨o,e,c,d⟩:=id st';exact⟨u,rfl,QE (s:={ s with heap:=h' }) e c d 0.1 ⟨x,H,I1,ru,⟨rfl,λys hy=>by rw[I.list_inj hy hq];exact hx⟩,st',λb hb=>(hf b hb).1⟩⟩
 done:=by
  intro X hP hw hK hc i pins s σ H E I hf st hg;subst hP hw hK;obtain⟨xs,hq,hx⟩:=hg;obtain⟨its,rv,p,hz⟩:=I.list hq;obtain⟨f0,f1,f2,f3,f4,f5⟩:=hf it 0.3;have hl:=rv.length;exact aeh 6.6 st p.isList 0.9 λh' eb=>⟨rfl,I.turned (t':=s.toks) (λb o hb e=>eb b o hb e) f0 f1 f3 f4 f5⟩
 self:=λq q q q q st h=>wpAny_pyIter_listiter st h
theorem Hb{K:aeO}(a it:tx):NM P w K tg (Itt K a) [it] it (λi h=>h.IsTupleIter it a i) where
 mem:=by simp
 obj:=λi h st b hb=>by
  have e:b=it:=by simpa using hb
  subst e;obtain⟨o,e,c,d⟩:=st;exact⟨o,e,λv z=>by rw[d] at z;cases z⟩
 keep:=λi h h' st k=>st.at λo e=>k it 0.3 o e
 item:=by
  intro X hP hw hK hc i pins s σ H E I hf st hg;subst hP hw hK;obtain⟨xs,x,hq,hx⟩:=hg;obtain⟨its,rv,p,hz⟩:=I.tuple hq;obtain⟨u,hu,ru⟩:=rv.get hx;obtain⟨f0,f1,f2,f3,f4,f5⟩:=hf it 0.3;refine wpAny_pyNext_tuple_item st (show s.heap.IsTuple a its.toArray from p) (x:=u) (by simpa using hu) λh' st' sb=>?_;have I1:Inv X pins σ H { s with heap:=h' }:=I.turned (t':=s.toks) (λb o hb e=>(sb.2 b hb).trans e) f0 f1 f3 f4 f5;obtain⟨o,e,c,d⟩:=id st';exact⟨u,rfl,QE (s:={ s with heap:=h' }) e c d 0.1 ⟨x,H,I1,ru,⟨rfl,λys hy=>by rw[I.tuple_inj hy hq];exact hx⟩,st',λb hb=>(hf b hb).1⟩⟩
 done:=by
  intro X hP hw hK hc i pins s σ H E I hf st hg;subst hP hw hK;obtain⟨xs,hq,hx⟩:=hg;obtain⟨its,rv,p,hz⟩:=I.tuple hq;obtain⟨f0,f1,f2,f3,f4,f5⟩:=hf it 0.3;have hl:=rv.length;exact wpAny_pyNext_tuple_end 6.6 st (show s.heap.IsTuple a its.toArray from p) 0.9 λh' eb=>⟨rfl,I.turned (t':=s.toks) (λb o hb e=>eb b o hb e) f0 f1 f3 f4 f5⟩
 self:=λq q q q q st h=>wpAny_pyIter_tupleiter st h
theorem Hc{K:aeO}(it:tx)(lo:Int)(n:Nat):NM P w K tg (Itr lo n) [it] it (λi h=>IsRangeIter h it (lo+(i:Nat)*1) ((n:Int) - (i:Nat)) 1) where
 mem:=by simp
 obj:=λi h st b hb=>by
  have e:b=it:=by simpa using hb
  subst e
  exact⟨_,st,λv z=>by
   have z':Data.fields _=Data.cell v:=z
   cases z'⟩
 keep:=λi h h' st k=>k it 0.3 _ st
 item:=by
  intro X hP hw hK hc i pins s σ H E I hf st hg;subst hP hw hK;obtain⟨f0,f1,f2,f3,f4,f5⟩:=hf it 0.3;have W:=Walks.range (prog:=X.prog) (w:=X.w) 6.6 it lo 1 n;refine W.item i s _ _ hg st λv h' tk hv st' kk=>?_;obtain⟨t,rfl⟩:=hv;have I1:Inv X pins σ H { s with heap:=h',toks:=tk }:=I.turned (λb o hb e=>kk b o (by simpa using hb) e) f0 f1 f3 f4 f5;refine⟨_,rfl,QE (s:={ s with heap:=h',toks:=tk }) (n:="range_iterator") st' rfl rfl 0.1 ⟨.int (lo+i),H,I1,⟨t,?_⟩,⟨rfl,rfl⟩,st',λb hb=>(hf b hb).1⟩⟩;rw[Int.mul_one]
 done:=by
  intro X hP hw hK hc i pins s σ H E I hf st hg;subst hP hw hK;obtain⟨f0,f1,f2,f3,f4,f5⟩:=hf it 0.3;exact wpAny_pyNext_range_end 6.6 st (by have:n<=i:=hg;omega) λh' eb=>⟨rfl,I.turned (t':=s.toks) (λb o hb e=>eb b o hb e) f0 f1 f3 f4 f5⟩
 self:=λq q q q q st h=>wpAny_pyIter_rangeiter st h
section
variable{X:Cx}{tg:vx}
def iList(K:aeO)(tl:TE):TI:=λσ H R=>tl σ H λx H1=>∃ a,x=.ref a/\(∃ xs,qD K H1 a xs)/\R (Itl K a) H1
theorem Ub(hl:PE X l tl):PI X tg l (iList X.K tl):=by
 intro pins s σ H R I h;refine dO (hl pins s σ H _ I h) λv s1 ⟨x,H1,I1,r1,q1⟩=>?_;obtain⟨a,e,⟨xs,hq⟩,q⟩:=q1;subst e;cases r1;obtain⟨its,rv,p,hz⟩:=I1.list hq;refine acm p.isList ?_;refine⟨s1.heap.objs.size,[s1.heap.objs.size],_,_,H1,rfl,I1.kept (t':=s1.toks) λb o e=>aaf _ e,zW a _,⟨_,aay _ rfl,rfl,rfl⟩,λb hb=>?_,q⟩;have e:b=s1.heap.objs.size:=by simpa using hb
 subst e;exact I1.fpOk (aal _) 7.0
theorem OO{s:gV}{R:It->Hp->Prop}{lo hi:Int}{tk:Nat}(I:Inv X pins σ H s)(h1:-(2^62)<=lo)(h2:lo<2^62)(h3:-(2^62)<=hi)(h4:hi<2^62)
  (q:R (Itr lo (hi - lo).toNat) H):aeN 0.2 X.A (pyIter 5.4) (PIE X pins σ tg R) E { s with heap:=s.heap.push { cls:=.type "range",data:=.fields #[.int lo t,.int hi u,.int 1 v] },toks:=tk }:=by
 refine wpAny_pyIter_range (IsRange.new ..) (small_one h1 h2 h3 h4) ?_;have I1:Inv X pins σ H { s with heap:=s.heap.push { cls:=.type "range",data:=.fields #[.int lo t,.int hi u,.int 1 v] },toks:=tk }:=I.kept λb o e=>aaf _ e
 refine⟨(s.heap.push { cls:=.type "range",data:=.fields #[.int lo t,.int hi u,.int 1 v] }).objs.size,[(s.heap.push { cls:=.type "range",data:=.fields #[.int lo t,.int hi u,.int 1 v] }).objs.size],_,_,H,rfl,
  I1.kept (t':=tk) λb o e=>aaf _ e,Hc _ lo (hi - lo).toNat,?_,λb hb=>?_,q⟩
 ·have e1:lo+((0:Nat):Int)*1=lo:=by simp
  have e2:(((hi - lo).toNat:Nat):Int) - ((0:Nat):Int)=Builtin.Range.rangeSize lo hi 1:=by rw[rangeSize_one];split<;>omega
  show IsRangeIter _ _ (lo+((0:Nat):Int)*1) ((((hi - lo).toNat:Nat):Int) - ((0:Nat):Int)) 1;rw[e1,e2];exact aay _ rfl
 ·have e:b=(s.heap.push { cls:=.type "range",data:=.fields #[.int lo t,.int hi u,.int 1 v] }).objs.size:=by simpa using hb
  subst e;exact I1.fpOk (aal _) 7.0
def iRng1(ta:TA):TI:=λσ H R=>ta σ H λvs H1=>∃ j:Int,vs=[.int j]/\-(2^62)<=j/\j<2^62/\R (Itr 0 j.toNat) H1
theorem Al{a:vx}{p:Pos}(hg:Gl X "range")(hm:X.mg "range" = L)(ha:PA X [a] ta)(hs:WP [a] X.env=[(false,eval a X.env)]:=by rfl):PI X tg (.Call (.Name "range" p) [a] [] pos) (iRng1 ta):=by
 intro pins s σ H R I h;refine Call_ (rB I hg hm boot_range (abD (dO 5.8 λus s1 ⟨vs,H1,I1,r1,q1⟩=>?_) hs rfl));obtain⟨j,e,q1,q2,q⟩:=q1;subst e;cases r1 with
 | cons r rr=>
  cases rr;obtain⟨t,rfl⟩:=r;exact call_range_1 (OO I1 0.0 0.0 q1 q2 (by simpa using q))
def tFor(wi:TI)(g:TG)(tb:TS):TS:=λD σ H=>wi σ H λJ H1=>∃ W:Nat->Nat->St->Hp->Prop,(∃ m,W 0 m σ H1)/\∀ i m σ H,W i m σ H ->
 (J.stop i H/\D.nx σ H)\/(J.go i H/\∃ N:St->Hp->Prop,(∀ σ' H',N σ' H'->∃ m',m'<m/\W (i+1) m' σ' H')/\∀ x H',J.yld i H x H'->g x σ H' λσ2 H2=>tb { D with nx:=N,ct:=N,bk:=D.nx } σ2 H2)
def xi(fp:List tx)(h:TF):List (tx×Obj):=fp.filterMap λb=>(h.get? b).map λo=>(b,o)
theorem nK{fp:List tx}{h:TF}{b:tx}(hb:b∈fp)(e:h.get? b=Y o):(b,o)∈xi fp h:=aeE.mpr ⟨b,hb,by rw[e];rfl⟩
theorem Mc{p:tx×Obj}(hp:p∈xi fp h):p.1∈fp/\h.get? p.1=Y p.2:=by
 obtain⟨b,hb,e⟩:=aeE.mp hp;cases q:h.get? b with
 | none=>rw[q] at e;cases e
 | some o=>
  rw[q] at e;have e':(b,o)=p:=aaE e;subst e';exact⟨hb,q⟩
theorem Inv.pinned{s:gV}{fp:List tx}(I:Inv X pins σ H s)(hf:∀ b∈fp,uN X pins H b)(ho:∀ b∈fp,∃ o,s.heap.get? b=Y o/\∀ v,o.data≠.cell v):Inv X (pins++xi fp s.heap) σ H s:=
 I.pins_of λp hp=>(aap.mp hp).elim (λz=>I.pin p (aaT _ z)) λz=>by
  obtain⟨hb,e⟩:=Mc z;obtain⟨f0,f1,f2,w⟩:=hf p.1 hb;obtain⟨o,e',d⟩:=ho p.1 hb;rw[e] at e';cases e';exact⟨e,f0,f1,f2,d⟩
theorem Inv.unpinned{pins pl:List (tx×Obj)}{s:gV}(I:Inv X (pins++pl) σ H s):Inv X pins σ H s:=I.pins_of λp hp=>I.pin p (aaT _ (abb _ hp))
theorem HH{iter:vx}(hp:PassesOwn 0.2 X.A X.env X.xe)(hc:X.calm=true)(hi:PI X tg iter wi)(hg:PG X tg g)(hb:PSs X body tb)
  (hs:∀ x,Yx iter X.env x=pure x:=by intro z;rfl):PS X (.For tg iter body [] pos) (tFor wi g tb):=by
 intro pins s σ H D I h;refine wpAny_For (dO 1.70 λv s1 h1=>dO h1 λitv s2 h2=>?_) hs;obtain⟨it,fp,tn,J,H2,e,I2,T,st2,f2,W,⟨m0,w0⟩,turn⟩:=h2;subst e;have stat:∀ {H':Hp},(∀ b∈fp,H' b=L)->∀ b∈fp,uN X pins H' b:=λhn b hb=>⟨hn b hb,(f2 b hb).2⟩
 refine codeAny_forLoop_any (λn s'=>∃ i σ' H',Inv X pins σ' H' s'/\tn i s'.heap/\(∀ b∈fp,H' b=L)/\W i n σ' H') ?_ m0 ⟨0,σ,H2,I2,st2,λb hb=>(f2 b hb).1,w0⟩;rintro n s3 ⟨i,σ3,H3,I3,st3,fr3,w3⟩;rcases turn i n σ3 H3 w3 with ⟨stop,qn⟩ | ⟨go,N,hN,step⟩
 ·refine abX hp (dO (T.done X rfl rfl rfl hc i pins s3 σ3 H3 X.xe I3 (stat fr3) st3 stop) λr s4 ⟨hr,I4⟩=>?_);subst hr;exact acj ⟨σ3,H3,I4,qn⟩
 ·refine abX hp (dO (T.item X rfl rfl rfl hc i pins s3 σ3 H3 X.xe I3 (stat fr3) st3 go) λr s4 ⟨u,hr,h4⟩=>?_);subst hr;refine abX hp (dO h4 λ_ s5 ⟨x,H5,I5,r5,y5,st5,fr5⟩=>?_);have I5':=I5.pinned (stat fr5) (T.obj _ _ st5);refine abX hp (dO (hg _ s5 σ3 H5 x u _ I5' r5 (step x H5 y5)) λ_ s6 ⟨σ6,H6,I6,q6⟩=>?_);refine abX hp (dO (hb _ s6 σ6 H6 _ I6 q6) λf s7 q7=>?_)
  have again:∀ {σ7:St} {H7:Hp},Inv X (pins++xi fp s5.heap) σ7 H7 s7->N σ7 H7->∃ m,m<n/\∃ i σ' H',Inv X pins σ' H' s7/\tn i s7.heap/\(∀ b∈fp,H' b=L)/\W i m σ' H':=λ{σ7 H7} I7 n7=>by
   obtain⟨m',hm,w7⟩:=hN σ7 H7 n7;refine⟨m',hm,i+1,σ7,H7,I7.unpinned,T.keep _ _ _ st5 λb hb o e=>(I7.pin (b,o) 1.00).1,λb hb=>?_,w7⟩;obtain⟨o,e,d⟩:=T.obj _ _ st5 b hb;exact(I7.pin (b,o) 1.00).2.1
  cases f with
  | next=>obtain⟨σ7,H7,I7,n7⟩:=q7;exact again I7 n7
  | cont=>obtain⟨σ7,H7,I7,n7⟩:=q7;exact again I7 n7
  | brk=>obtain⟨σ7,H7,I7,q7⟩:=q7;exact⟨σ7,H7,I7.unpinned,q7⟩
  | ret v=>obtain⟨x7,σ7,H7,I7,r7,q7⟩:=q7;exact⟨x7,σ7,H7,I7.unpinned,r7,q7⟩
end
noncomputable abbrev R2:=V->V->Hp->VK->Prop
def OpR(X:Cx)(f:ce->ce->Sem ce)(r:R2):Prop:=
 ∀ (pins:List (tx×Obj)) (s:gV) (σ:St) (H:Hp) (x y:V) (v u:ce) (Q:VK),Inv X pins σ H s->RelV x v->RelV y u->r x y H Q ->
  aeN 0.2 X.A (f v u) 3.4 X.xe s
def UnR(X:Cx)(f:ce->Sem ce)(r:V->Hp->VK->Prop):Prop:=
 ∀ (pins:List (tx×Obj)) (s:gV) (σ:St) (H:Hp) (x:V) (v:ce) (Q:VK),Inv X pins σ H s->RelV x v->r x H Q ->
  aeN 0.2 X.A (f v) 3.4 X.xe s
def CallR(X:Cx)(f:ce)(r:List V->Hp->VK->Prop):Prop:=
 ∀ (pins:List (tx×Obj)) (s:gV) (σ:St) (H:Hp) (xs:List V) (us:List ce) (Q:VK),Inv X pins σ H s->Vals xs us->r xs H Q ->
  aeN 0.2 X.A (call f us) 3.4 X.xe s
def TruR(X:Cx)(r:V->Hp->(Bool->Hp->Prop)->Prop):Prop:=
 ∀ (pins:List (tx×Obj)) (s:gV) (σ:St) (H:Hp) (x:V) (v:ce) (Q:Bool->Hp->Prop),Inv X pins σ H s->RelV x v->r x H Q ->
  aeN 0.2 X.A (truthy v) 1.68 X.xe s
def tOp(r:R2)(ta tb:TE):TE:=λσ H Q=>ta σ H λx H1=>tb σ H1 λy H2=>r x y H2 Q
def tUn(r:V->Hp->VK->Prop)(ta:TE):TE:=λσ H Q=>ta σ H λx H1=>r x H1 Q
def rI(C:Int->Int->Prop)(g:Int->Int->V):R2:=λx y H Q=>∃ i j,x=.int i/\y=.int j/\C i j/\Q (g i j) H
def TD(g:Int->Int->V):R2:=λx y H Q=>∃ i j,x=.int i/\y=.int j/\Q (g i j) H
def rU(g:Int->V):V->Hp->VK->Prop:=λx H Q=>∃ i,x=.int i/\Q (g i) H
section
variable{X:Cx}{a b c:vx}{ta tb tc:TE}{pos:Pos}
theorem qbi(ha:PE X a ta)(hb:PE X b tb){s:gV}{R:V->V->Hp->Prop}(I:Inv X pins σ H s)
  (h:ta σ H λx H1=>tb σ H1 λy H2=>R x y H2) {f:ce->ce->Sem ce}
  (hf:∀ v u s2 x y H2,Inv X pins σ H2 s2->RelV x v->RelV y u->R x y H2->aeN 0.2 X.A (f v u) Q X.xe s2) :
  aeN 0.2 X.A (eval a X.env) (λv s₁=>aeN 0.2 X.A (eval b X.env) (λu s₂=>aeN 0.2 X.A (f v u) Q X.xe s₂) X.xe s₁) X.xe s:=by
 refine dO 2.7 λv s1 ⟨x,H1,I1,r1,q1⟩=>?_;refine dO 9.7 λu s2 ⟨y,H2,I2,r2,q2⟩=>?_;exact hf v u s2 x y H2 I2 r1 r2 q2
theorem pe_op(ho:OpR X (aeM op) r)(ha:PE X a ta)(hb:PE X b tb):PE X 2.07 (tOp r ta tb):=by
 intro pins s σ H Q I h;exact wpAny_BinOp (qbi ha hb I h λv u s2 x y H2 I2 rx ry q=>ho pins s2 σ H2 x y v u Q I2 rx ry q)
theorem pe_un(ho:UnR X (unaryOp op) r)(ha:PE X a ta):PE X 2.05 (tUn r ta):=by
 intro pins s σ H Q I h;exact UnaryOp_ (dO 2.7 λv s1 ⟨x,H1,I1,r1,q1⟩=>ho pins s1 σ H1 x v Q I1 r1 q1)
theorem opI{f:ce->ce->Sem ce}{C:Int->Int->Prop}{g:Int->Int->Int}
  (rule:∀ (i j:Int) (t u:Tok) (s:gV) (Q:ce->gV->Prop) (E:ce->gV->Prop),C i j->Q (.int (g i j) s.toks) { s with toks:=s.toks+1 }->aeN 0.2 X.A 1.46 Q E s) :
  OpR X f (rI C λi j=>.int (g i j)):=by
 intro pins s σ H x y v u Q I rx ry h;obtain⟨i,j,rfl,rfl,hc,q⟩:=h;obtain⟨t,rfl⟩:=rx;obtain⟨t',rfl⟩:=ry;exact rule i j t t' s _ _ hc ⟨.int (g i j),H,I.tok _,⟨_,rfl⟩,q⟩
theorem opI0{f:ce->ce->Sem ce}{g:Int->Int->Int}
  (rule:∀ (i j:Int) (t u:Tok) (s:gV) (Q:ce->gV->Prop) (E:ce->gV->Prop),Q (.int (g i j) s.toks) { s with toks:=s.toks+1 }->aeN 0.2 X.A 1.46 Q E s) :
  OpR X f (TD λi j=>.int (g i j)):=by
 intro pins s σ H x y v u Q I rx ry h;obtain⟨i,j,rfl,rfl,q⟩:=h;obtain⟨t,rfl⟩:=rx;obtain⟨t',rfl⟩:=ry;exact rule i j t t' s _ _ ⟨.int (g i j),H,I.tok _,⟨_,rfl⟩,q⟩
theorem Uw{f:ce->ce->Sem ce}{g:Int->Int->Bool}
  (rule:∀ (i j:Int) (t u:Tok) (s:gV) (Q:ce->gV->Prop) (E:ce->gV->Prop),Q (.bool (g i j)) s->aeN 0.2 X.A 1.46 Q E s) :
  OpR X f (TD λi j=>.bl (g i j)):=by
 intro pins s σ H x y v u Q I rx ry h;obtain⟨i,j,rfl,rfl,q⟩:=h;obtain⟨t,rfl⟩:=rx;obtain⟨t',rfl⟩:=ry;exact rule i j t t' s _ _ ⟨.bl (g i j),H,I,rfl,q⟩
def CDiv(i j:Int):Prop:=0<j/\j<1073741824
def CPow(i j:Int):Prop:=0<=j/\j<=1000000/\i.natAbs<2^64
theorem YZ:OpR X 1.83 (TD λi j=>.int (i+j)):=opI0 λz z z z z z z q=>add_int q
theorem YV:OpR X (aeM .Sub) (TD λi j=>.int (i - j)):=opI0 λz z z z z z z q=>sub_int q
theorem Us:OpR X (aeM .FloorDiv) (rI CDiv λi j=>.int (i / j)):=opI λi j z z z z z hc q=>by
 have h1:(0:Int)<j:=hc.1;have h2:j<1073741824:=hc.2;exact floordiv_int 0.0 (by rw[Int.fdiv_eq_ediv_of_nonneg i 0.0];exact q) (.inl (PyProof.noPylong_small 0.0))
theorem YY:OpR X (aeM .Mod) (rI (λz j=>0<j) λi j=>.int (i%j)):=opI λi j z z z z z hc q=>by
 have h1:(0:Int)<j:=hc;exact mod_int' 0.0 (by rw[Int.fmod_eq_emod_of_nonneg i 0.0];exact q)
theorem YX:OpR X (aeM .Pow) (rI CPow λi j=>.int (i^j.toNat)):=opI λz z z z z z z hc q=>pow_int_small hc.1 hc.2.1 hc.2.2 q
theorem unI{f:ce->Sem ce}{g:Int->Int}
  (rule:∀ (i:Int) (t:Tok) (s:gV) (Q:ce->gV->Prop) (E:ce->gV->Prop),Q (.int (g i) s.toks) { s with toks:=s.toks+1 }->aeN 0.2 X.A (f (.int i t)) Q E s) :
  UnR X f (rU λi=>.int (g i)):=by
 intro pins s σ H x v Q I rx h;obtain⟨i,rfl,q⟩:=h;obtain⟨t,rfl⟩:=rx;exact rule i t s _ _ ⟨.int (g i),H,I.tok _,⟨_,rfl⟩,q⟩
theorem XV:UnR X (unaryOp .USub) (rU λi=>.int (-i)):=unI λz z z z z q=>neg_int q
end
section
variable{X:Cx}{a b c:vx}{ta tb tc:TE}{pos:Pos}
theorem op_lt:OpR X (aeL .Lt) (TD λi j=>.bl (decide (i<j))):=Uw λz z z z z z z q=>lt_int q
theorem op_le:OpR X (aeL .LtE) (TD λi j=>.bl (decide (i<=j))):=Uw λz z z z z z z q=>le_int q
theorem op_gt:OpR X (aeL .Gt) (TD λi j=>.bl (decide (j<i))):=Uw λz z z z z z z q=>gt_int q
theorem op_ge:OpR X (aeL .GtE) (TD λi j=>.bl (decide (j<=i))):=Uw λz z z z z z z q=>ge_int q
theorem OpR.or(h:OpR X f r)(h':OpR X f r'):OpR X f (λx y H Q=>r x y H Q\/r' x y H Q):=by
 intro pins s σ H x y v u Q I rx ry q;rcases q with q | q
 ·exact h pins s σ H x y v u Q I rx ry q
 ·exact h' pins s σ H x y v u Q I rx ry q
theorem Uh(ho:OpR X (aeL op) r)(ha:PE X a ta)(hb:PE X b tb)(hm:behindInMarks op b=false):PE X (.Compare a [op] [b] pos) (tOp r ta tb):=by
 intro pins s σ H Q I h;exact wpAny_Compare1 (qbi ha hb I h λv u s2 x y H2 I2 rx ry q=>ho pins s2 σ H2 x y v u Q I2 rx ry q) hm
def WG(t:TE):TT:=λσ H Q=>t σ H λx H'=>∃ k,x=.bl k/\Q k H'
theorem TN(ho:OpR X (aeL op) r)(ha:PE X a ta)(hb:PE X b tb)(hm:behindInMarks op b=false):PT X (.Compare a [op] [b] pos) (WG (tOp r ta tb)):=by
 intro pins s σ H Q I h
 refine wpAny_isTrue_Compare1 (dO 2.7 λv s1 ⟨x,H1,I1,r1,q1⟩=>dO 9.7 λu s2 ⟨y,H2,I2,r2,q2⟩=>
  dO 8.7 λc s3 ⟨z,H3,I3,r3,k,e,q3⟩=>?_) hm
 subst e;cases r3;exact abI ⟨H3,I3,q3⟩
def Hh(r r':R2)(ta tb tc:TE):TE:=λσ H Q=>ta σ H λx H1=>tb σ H1 λy H2=>r x y H2 λz H3=>∃ k,z=.bl k /\
 (if k=true then tc σ H3 λw' H4=>r' y w' H4 Q else Q 1.5 H3)
theorem Pj(ho:OpR X (aeL op) r)(ho':OpR X (aeL op') r')(ha:PE X a ta)(hb:PE X b tb)(hc:PE X c tc)
  (hm:lastMarks [op,op'] [b,c]=false:=by with_unfolding_all rfl):PE X (.Compare a [op,op'] [b,c] pos) (Hh r r' ta tb tc):=by
 intro pins s σ H Q I h
 refine Compare_chain (dO 2.7 λv s1 ⟨x,H1,I1,r1,q1⟩=>chain_link (dO 9.7 λu s2 ⟨y,H2,I2,r2,q2⟩=>
  dO 8.7 λd s3 ⟨z,H3,I3,r3,k,e,q3⟩=>?_)) hm
 subst e;cases r3;refine abI ?_;cases k with
 | false=>exact ite_ff ⟨.bl false,H3,I3,rfl,q3⟩
 | true=>exact ite_tt (chain_last (dO (hc pins s3 σ H3 _ I3 q3) λw' s4 ⟨z',H4,I4,r4,q4⟩=>ho' pins s4 σ H4 y z' u w' Q I4 r2 r4 q4))
theorem OR(ho:OpR X (aeL op) r)(ho':OpR X (aeL op') r')(ha:PE X a ta)(hb:PE X b tb)(hc:PE X c tc)
  (hm:lastMarks [op,op'] [b,c]=false:=by with_unfolding_all rfl):PT X (.Compare a [op,op'] [b,c] pos) (WG (Hh r r' ta tb tc)):=by
 intro pins s σ H Q I h
 refine isTrue_chain (dO 2.7 λv s1 ⟨x,H1,I1,r1,q1⟩=>test_link (dO 9.7 λu s2 ⟨y,H2,I2,r2,q2⟩=>
  dO 8.7 λd s3 ⟨z,H3,I3,r3,k,e,q3⟩=>?_)) hm
 subst e;cases r3;refine abI ?_;cases k with
 | false=>
  obtain⟨k',e',q'⟩:=q3;cases e';exact ite_ff ⟨H3,I3,q'⟩
 | true=>
  refine ite_tt (test_last (dO (hc pins s3 σ H3 _ I3 q3) λw' s4 ⟨z',H4,I4,r4,q4⟩=>dO (ho' pins s4 σ H4 y z' u w' _ I4 r2 r4 q4) λd' s5 ⟨z2,H5,I5,r5,k2,e2,q5⟩=>?_));subst e2;cases r5;exact abI ⟨H5,I5,q5⟩
def NN(K:aeO)(x:V)(H:Hp)(k:Bool):Prop:=
 match x with
 | .non=>k=false
 | .bl b=>k=b
 | .int i=>k=(i != 0)
 | .str y=>y.length<=Vj/\k=((y.length:Int) != 0)
 | .byt y=>y.size<=Vj/\k=((y.size:Int) != 0)
 | .ref p=>(∃ xs,qD K H p xs/\k = !xs.isEmpty)\/(∃ xs,rR K H p xs/\k = !xs.isEmpty)\/∃ kvs,H p=Y 7.2/\k = !kvs.isEmpty
 | _=>False
theorem IS{κ:Type}{kvs:List (κ×V)}{vs:List (κ×ce)}(r:KV kvs vs):(!vs.isEmpty) = !kvs.isEmpty:=by
 cases r<;>rfl
theorem yd{xs:List V}{its:List ce}(r:Vals xs its):(!its.toArray.isEmpty) = !xs.isEmpty:=by
 cases r<;>simp
theorem uq:(Vj:Nat)<2^63:=by rw[acJ];decide
theorem Bw:TruR X (λx H Q=>∃ k,NN X.K x H k/\Q k H):=by
 intro pins s σ H x v Q I rx h;obtain⟨k,e,q⟩:=h;have hl:=uq;have hs:Vj=16777216:=acJ;cases x with
 | non=>
  cases rx;have e':k=false:=e;subst e';exact truthy_none ⟨H,I,q⟩
 | bl b=>
  cases rx;have e':k=b:=e;subst e';exact abI ⟨H,I,q⟩
 | int i=>
  obtain⟨t,rfl⟩:=rx;have e':k=(i != 0):=e;subst e';exact PySem.P.truthy_int ⟨H,I,q⟩
 | str y=>
  obtain⟨t,rfl⟩:=rx;obtain⟨hy,e'⟩:y.length<=Vj/\k=((y.length:Int) != 0):=e;subst e';exact PySem.P.truthy_str 0.0 ⟨H,I.tok _,q⟩
 | byt y=>
  obtain⟨t,rfl⟩:=rx;obtain⟨hy,e'⟩:y.size<=Vj/\k=((y.size:Int) != 0):=e;subst e';exact W.truthy_bytes 0.0 ⟨H,I.tok _,q⟩
 | ref p=>
  cases rx;have e':(∃ xs,qD X.K H p xs/\k = !xs.isEmpty)\/(∃ xs,rR X.K H p xs/\k = !xs.isEmpty)\/∃ kvs,H p=Y 7.2/\k = !kvs.isEmpty:=e;rcases e' with ⟨xs,hx,e'⟩ | ⟨xs,hx,e'⟩ | ⟨kvs,hx,e'⟩
  ·subst e';obtain⟨its,r,pl,hz⟩:=I.list hx;have hlen:=r.length;exact wpAny_truthy_list pl.isList (by simp only[aai];omega) ⟨H,I.tok _,by rw[yd r];exact q⟩
  ·subst e';obtain⟨its,r,pl,hz⟩:=I.tuple hx;have hlen:=r.length;exact truthy_tuple pl (by simp only[aai];omega) ⟨H,I.tok _,by rw[yd r];exact q⟩
  ·subst e';obtain⟨hz,hS,vs,r,m⟩:kvs.length<=Vj/\(p==sysModules)=false/\∃ vs,KV kvs vs/\s.heap.DictOf (da X.prog X.w) p vs:=I.hok p _ hx;have hlen:kvs.length=vs.length:=adV r;exact wpAny_truthy_dict hS m 0.0 ⟨H,I.tok _,by rw[IS r];exact q⟩
 | _=>exact(show False from e).elim
theorem OQ(ha:PE X a ta)(he:∀ whole,isTrue a X.env whole=(do let v <- whole;standAt a.pos;holding [v] (truthy v))) :
  PT X a (λσ H Q=>ta σ H λx H'=>∃ k,NN X.K x H' k/\Q k H'):=by
 intro pins s σ H Q I h;exact isTrue_plain (dO 2.7 λv s1 ⟨x,H1,I1,r1,q1⟩=>Bw pins s1 σ H1 x v Q I1 r1 q1) (he _)
theorem HM:OpR X 1.83 (λx y H Q=>∃ i j,x=.str i/\y=.str j/\i.length+j.length<=Vj/\Q (.str (i++j)) H):=by
 intro pins s σ H x y v u Q I rx ry h;obtain⟨i,j,rfl,rfl,hz,q⟩:=h;obtain⟨t,rfl⟩:=rx;obtain⟨t',rfl⟩:=ry;exact add_str (λt' tk=>⟨.str (i++j),H,I.tok _,⟨_,rfl⟩,q⟩) hz
theorem rY{x:V}(r:Vals [x] us):∃ u,us=[u]/\RelV x u:=by
 cases r with
 | cons r1 r2=>cases r2;exact⟨_,rfl,r1⟩
theorem JQ{x y:V}(r:Vals [x,y] us):∃ u w',us=[u,w']/\RelV x u/\RelV y w':=by
 cases r with
 | cons r1 r2=>
  cases r2 with
  | cons r3 r4=>cases r4;exact⟨_,_,rfl,r1,r3⟩
theorem NE(hc:X.calm=true):CallR X (.builtin "max") (λxs H Q=>∃ i j,xs=[.int i,.int j]/\Q (.int (if j>i then j else i)) H):=by
 intro pins s σ H xs us Q I r h;obtain⟨i,j,rfl,q⟩:=h;obtain⟨u,w',rfl,⟨t,rfl⟩,⟨t',rfl⟩⟩:=JQ r;refine max_two_ints 6.6 λh' tk k=>⟨_,H,I.kept k,?_,q⟩
 by_cases hj:j>i
 ·rw[aas hj,aas hj];exact⟨_,rfl⟩
 ·rw[if_neg hj,if_neg hj];exact⟨_,rfl⟩
theorem NC(hc:X.calm=true):CallR X (.builtin "min") (λxs H Q=>∃ i j,xs=[.int i,.int j]/\Q (.int (if j<i then j else i)) H):=by
 intro pins s σ H xs us Q I r h;obtain⟨i,j,rfl,q⟩:=h;obtain⟨u,w',rfl,⟨t,rfl⟩,⟨t',rfl⟩⟩:=JQ r;refine min_two_ints 6.6 λh' tk k=>⟨_,H,I.kept k,?_,q⟩
 by_cases hj:j<i
 ·rw[aas hj,aas hj];exact⟨_,rfl⟩
 ·rw[if_neg hj,if_neg hj];exact⟨_,rfl⟩
theorem NF:CallR X (.type "int") (λxs H Q=>(∃ i,xs=[.int i]/\Q (.int i) H)\/∃ k,xs=[.bl k]/\Q (.int (if k then 1 else 0)) H):=by
 intro pins s σ H xs us Q I r h;rcases h with ⟨i,rfl,q⟩ | ⟨k,rfl,q⟩
 ·obtain⟨u,rfl,t,rfl⟩:=rY r;exact call_int_int ⟨.int i,H,I,⟨_,rfl⟩,q⟩
 ·obtain⟨u,rfl,r1⟩:=rY r;cases r1;exact call_int_bool ⟨.int (if k then 1 else 0),H,I.tok _,⟨_,rfl⟩,q⟩
end
theorem RelO.some_of(r:RelO (Y v) o):∃ u,o=Y u/\RelV v u:=by
 cases o with
 | none=>exact(show False from r).elim
 | some u=>exact⟨u,rfl,r⟩
structure Room(k:Nat)(A:SN):Prop where
 hd:A.handled=L
 dp:A.depth+3*k+5<recursionLimit
 un:A.units+16*k+200<cLine
theorem Room.mono{j k:Nat}(r:Room k A)(h:j<=k):Room j A:=⟨r.hd,by have:=r.dp;omega,by have:=r.un;omega⟩
theorem Room.deeper{k:Nat}(r:Room (k+1) A)(env:Env):Room k (A.deeper env):=
 ⟨r.hd,by have:=r.dp;show A.depth+1+3*k+5<_;omega,by have:=r.un;show A.units+3+16*k+200<_;omega⟩
theorem Ik{A:SN}{us:List ce}{kw:List (Str×ce)}:(A.under (.builtin "type.__call__" ⟨.ref C::us,kw⟩)).depth=A.depth+1:=by
 first | rfl | simp[Around.under,Code.weight,Code.isCreation,Code.isGuard,Code.isCaller,Code.frames,Code.isFrame,guardIds]
theorem Ij{A:SN}{us:List ce}{kw:List (Str×ce)}:(A.under (.builtin "type.__call__" ⟨.ref C::us,kw⟩)).units=A.units+1:=by
 first | rfl | simp[Around.under,Code.cUnits,Code.frames,Code.isFrame]
theorem Room.make{k:Nat}(r:Room (k+1) A)(C:tx)(us:List ce)(kw:List (Str×ce)):Room k (A.under (.builtin "type.__call__" ⟨.ref C::us,kw⟩)):=
 ⟨r.hd,by have:=r.dp;rw[Ik];omega,by have:=r.un;rw[Ij];omega⟩
theorem Room.depth{k:Nat}(r:Room k A):A.depth<recursionLimit:=by have:=r.dp;omega
theorem Room.units{k:Nat}(r:Room k A):A.units+64<cLine:=by have:=r.un;omega
def tNil:TA:=λz H Q=>Q [] H
def tCons(ta:TE)(tr:TA):TA:=λσ H Q=>ta σ H λx H1=>tr σ H1 λxs H2=>Q (x::xs) H2
section
variable{X:Cx}{e:vx}{es:List vx}{te:TE}{t:TA}{pos:Pos}
theorem Po:PA X [] tNil:=λz z z z H Q I h=>Calls.spliced_nil ⟨[],H,I,.nil,h⟩
theorem BY(ha:PE X e te)(hr:PA X es t)(hs:WP (e::es) X.env=(false,eval e X.env)::WP es X.env:=by rfl):PA X (e::es) (tCons te t):=by
 intro pos pins s σ H Q I h;rw[hs];show aeN _ _ (spliced ((false,eval e X.env)::backTo pos 2.2)) _ _ s;refine aeJ (dO 2.7 λu s1 ⟨x,H1,I1,r1,q1⟩=>?_);exact dO (hr pos pins s1 σ H1 _ I1 q1) λus s2 ⟨xs,H2,I2,r2,q2⟩=>⟨x::xs,H2,I2,.cons r1 r2,q2⟩
def tTup(t:TA):TE:=λσ H Q=>t σ H λxs H1=>xs.length<=Vj/\∀ p,H1 p=L->Q (.ref p) (upd H1 p 4.6)
def tLst(t:TA):TE:=λσ H Q=>t σ H λxs H1=>xs.length<=Vj/\∀ p,H1 p=L->Q (.ref p) (upd H1 p 2.4)
theorem YJ{x1}(h:PA X es t):PE X (.Tuple es x1 pos) (tTup t):=by
 intro pins s σ H Q I hq;refine wpAny_Tuple_spliced (dO (h pos pins s σ H _ I hq) λus s1 ⟨xs,H1,I1,r,z,q⟩=>⟨by rw[<- r.length];exact z,?_⟩);have hf:H1 s1.heap.objs.size=L:=I1.hok.fresh (aal _);refine⟨.ref s1.heap.objs.size,upd H1 s1.heap.objs.size 4.6,I1.laid (t':=s1.toks) (λb u e=>aaf _ e) (aal _) ?_,rfl,q _ hf⟩;exact⟨z,us,r,⟨_,aay _ rfl,rfl,⟨_,rfl⟩,rfl⟩⟩
theorem Pf(h:PA X es t):PE X (.List es pos) (tLst t):=by
 intro pins s σ H Q I hq;refine wpAny_List_spliced (dO (h pos pins s σ H _ I hq) λus s1 ⟨xs,H1,I1,r,z,q⟩=>⟨by rw[<- r.length];exact z,?_⟩);have hf:H1 s1.heap.objs.size=L:=I1.hok.fresh (aal _);refine⟨.ref s1.heap.objs.size,upd H1 s1.heap.objs.size 2.4,I1.laid (t':=s1.toks) (λb u e=>aaf _ e) (aal _) ?_,rfl,q _ hf⟩;exact⟨z,us,0,r,aay _ rfl⟩
end
noncomputable abbrev Sp:=List V->Hp->VK->XK->Prop
noncomputable abbrev NQ:=List Env->Hp->gV->XK->ce->gV->Prop
structure Env0(P:Op)(w:Qa)(K:aeO)(mg:Str->Option ce)(base:TF)(A:SN)(outer:List Env)(s:gV)(H:Hp):Prop where
 frames:A.frames=Y outer
 mod:Mod K mg base
 bs:∀ b o,base.get? b=Y o->s.heap.get? b=Y o/\H b=L
 bsz:base.objs.size<=s.heap.objs.size
 funs:s.heap.FunFrames base outer
 frf:∀ b∈AU outer,H b=L
 hok:HOk P w H s.heap
 bare:AllBare s.gens
def CE(outer:List Env)(P:Op)(w:Qa)(H:Hp)(s:gV)(Q:VK)(u:ce)(s':gV):Prop:=
 ∃ v H',s'.os=s.os/\AllBare s'.gens/\Un (AU outer) [] H H' s.heap s'.heap/\HOk P w H' s'.heap/\RelV v u/\Q v H'
def CR(CX:NQ)(outer:List Env)(P:Op)(w:Qa)(H:Hp)(s:gV)(Q:VK)(E:XK)(r:Result)(s':gV):Prop:=
 match r with
 | .ok (.ret u)=>CE outer P w H s Q u s'
 | .ok _=>False
 | .error e=>CX outer H s E e s'
structure FnOk(P:Op)(w:Qa)(K:aeO)(mg:Str->Option ce)(base:TF)(CX:NQ)(k:Nat)(f:tx)(fd:FuncData)(ps:List Str)(sp:Sp):Prop where
 len:∀ vs H Q E,sp vs H Q E->vs.length=ps.length
 run:∀ (A:SN) (outer:List Env) (s:gV) (H:Hp) (args:Args) (us:List ce) (vs:List V) (Q:VK) (E:XK),Room k A->Env0 P w K mg base A outer s H->BindsTo s fd args 1.62->Vals vs us->sp vs H Q E ->
  codeAny 1.03 A (.call (.ref f) args) (CR CX outer P w H s Q E) s
theorem FnOk.mono{K:aeO}{k:Nat}(F:FnOk P w K mg base CX j f fd ps sp)(h:j<=k) :
  FnOk P w K mg base CX k f fd ps sp:=⟨F.len,λA outer s H args us vs Q E hr=>F.run A outer s H args us vs Q E (hr.mono h)⟩
theorem Env0.make{K:aeO}{s:gV}(e:Env0 P w K mg base A outer s H)(C:tx)(us:List ce)(kw:List (Str×ce)) :
  Env0 P w K mg base (A.under (.builtin "type.__call__" ⟨.ref C::us,kw⟩)) outer s H:=⟨by first | exact e.frames | (simpa[Around.under,Code.envs,Code.isFrame,pushEnvs] using e.frames),e.mod,e.bs,e.bsz,e.funs,e.frf,e.hok,e.bare⟩
section
variable{X:Cx}{pins:List (tx×Obj)}{σ:St}{H:Hp}{s s':gV}
theorem Inv.env0(I:Inv X pins σ H s):Env0 X.prog X.w X.K X.mg X.base X.A X.stack s H:=
 ⟨I.ok.frames,I.ok.mod,I.bs,aaD I.ok.bsz I.sz,I.stack,I.stkFree,I.hok,I.bare⟩
theorem Inv.after(I:Inv X pins σ H s)(h:CE X.stack X.prog X.w H s Q u s'):EP X pins σ Q u s':=by
 obtain⟨v,H',os,bare,un,hok,r,q⟩:=h;obtain⟨hh,g,d,t,os'⟩:=s';obtain rfl:os'=s.os:=os;exact⟨v,H',I.call (h':=hh) (g':=g) (d':=d) (t':=t) (ch:=[]) un hok bare (λb z=>absurd z 0.3),r,q⟩
end
def Aa(sp:Sp)(dvs:List V)(E:XK)(t:TA):TE:=λσ H Q=>t σ H λvs H1=>sp (vs++dvs) H1 Q E
def Binds(K:aeO)(fd:FuncData)(ps:List Str)(ds:List ce):Prop:=
 ∀ (s:gV) (us:List ce),K.In s.heap->(us++ds).length=ps.length->BindsTo s fd ⟨us,[]⟩ (ps.zip (us++ds))
theorem Binds.all{K:aeO}{ps:List Str}(h:∀ us:List ce,us.length=ps.length->bindArgs fd ⟨us,[]⟩=pure 1.62):Binds K fd ps []:=λs us z hl=>by
 rw[aaN] at hl ⊢;exact .of_eq (h us hl)
def Dx(CX:NQ)(X:Cx)(E:XK):Prop:=∀ (pins:List (tx×Obj)) (σ:St) (H:Hp) (s:gV) (e:ce) (s':gV),Inv X pins σ H s->CX X.stack H s E e s'->X.xe e s'
section
variable{X:Cx}{CX:NQ}{k:Nat}{f C:tx}{fd:FuncData}{ps:List Str}{sp:Sp}{dvs:List V}{ds:List ce}{E:XK}{x m:Str}{p pos apos:Pos}{e o:vx}{es:List vx}{ta:TE}{t:TA}
theorem HA{s:gV}(F:FnOk X.prog X.w X.K X.mg X.base CX k f fd ps sp)(hr:Room k X.A)(hb:Binds X.K fd ps ds)(hd:Vals dvs ds)(hx:Dx CX X E)
  (I:Inv X pins σ H s) (r:Vals vs us) (h:sp (vs++dvs) H Q E):aeN 0.2 X.A (call (.ref f) us) 3.4 X.xe s:=by
 have r2:Vals (vs++dvs) (us++ds):=r.append hd;have hl:(us++ds).length=ps.length:=by rw[<- r2.length];exact F.len _ _ _ _ h
 refine adM (abY (F.run X.A X.stack s H ⟨us,[]⟩ (us++ds) (vs++dvs) Q E hr I.env0 (hb s us I.kIn hl) r2 h) λr s' hq=>?_);cases r with
 | error e=>exact hx pins σ H s e s' I hq
 | ok fl=>
  cases fl with
  | ret u=>exact I.after hq
  | next=>exact False.elim hq
  | brk=>exact False.elim hq
  | cont=>exact False.elim hq
theorem Ui(F:FnOk X.prog X.w X.K X.mg X.base CX k f fd ps sp)(hr:Room k X.A)(hg:Gl X x)(hm:X.mg x=Y (.ref f))(hk:W.keepIn X.K (.ref f)=true)(hb:Binds X.K fd ps ds)(hd:Vals dvs ds)(hx:Dx CX X E)
  (ha:PA X (e::es) t) (hdb:(x==("__debug__":Str))=false:=by decide) (he:WP (e::es) X.env=(false,eval e X.env)::WP es X.env:=by rfl) (hpl:(backTo pos 2.2).any (·.1)=false:=by rfl) :
  PE X (.Call 6.0 (e::es) [] pos) (Aa sp dvs E t):=by
 intro pins s σ H Q I h;refine abT (sQ I hg hm ?_ hdb);refine aek (h₀:=X.base) I.ok.mod.kin hk (dO 5.8 λus s1 ⟨vs,H1,I1,r,q⟩=>⟨I1.kIn,?_⟩) he hpl;exact HA F hr hb hd hx I1 r q
theorem Pm(F:FnOk X.prog X.w X.K X.mg X.base CX k f fd ps sp)(hr:Room k X.A)(hg:Gl X x)(hm:X.mg x=Y (.ref f))(hk:W.keepIn X.K (.ref f)=true)(hb:Binds X.K fd ps ds)(hd:Vals dvs ds)(hx:Dx CX X E)
  (hdb:(x==("__debug__":Str))=false:=by decide):PE X (.Call 6.0 [] [] pos) (Aa sp dvs E tNil):=by
 intro pins s σ H Q I h;refine abT (sQ I hg hm ?_ hdb);exact W.callWith_K0 I.kIn hk (HA (us:=[]) F hr hb hd hx I .nil h)
end
structure aQ(N P:List Str)(sc:Scope):Prop where
 kind:sc.kind=.function
 co:sc.isCoroutine=false
 gen:sc.isGenerator=false
 nd:N.Nodup
 pre:N.take P.length=P
 par:∀ x∈P,sc.names.lookup x=Y .local\/sc.names.lookup x=Y .cell
 nofree:∀ y∈sc.names,y.2≠.free
theorem Bn{kindOf:Str->Option NameKind}{x:Str}:∀ {binds:List (Str×ce)} {m:Str->Option ce},(∀ v,(x,v)∉binds)->bindL kindOf binds m x=m x
 | [],_,_=>rfl
 | (n,v)::r,m,h=>by
  unfold bindL;rw[Bn λw hw=>h w (aah _ hw)];split
  ·have:x≠n:=by rintro rfl;exact h v aad
   simp[this]
  ·rfl
theorem Bp{kindOf:Str->Option NameKind}{x:Str}:∀ {binds:List (Str×ce)} {m:Str->Option ce},(∀ v,(x,v)∉binds)->bindC kindOf binds m x=m x
 | [],_,_=>rfl
 | (n,v)::r,m,h=>by
  unfold bindC;rw[Bp λw hw=>h w (aah _ hw)];split
  ·rfl
  ·have:x≠n:=by rintro rfl;exact h v aad
   simp[this]
theorem Bo{kindOf:Str->Option NameKind}:∀ {P:List Str} {vs:List ce} {i:Nat} {m:Str->Option ce},P.Nodup->P[i]?=Y x->vs[i]?=Y v->kindOf x=Y .local ->
  bindL kindOf (P.zip vs) m x=Y v
 | [],_,_,_,_,h,_,_=>by simp at h
 | _::_,[],_,_,_,_,h,_=>by simp at h
 | p::P,w::vs,0,m,nd,h1,h2,hk=>by
  simp at h1 h2;subst h1;subst h2;show bindL kindOf ((p,w)::P.zip vs) m p=_;unfold bindL;rw[Bn λv hv=>(abL.mp nd).1 (adD hv).1,aas hk];simp
 | p::P,w::vs,i+1,m,nd,h1,h2,hk=>by
  show bindL kindOf ((p,w)::P.zip vs) m x=_;unfold bindL;exact Bo (i:=i) (abL.mp nd).2 (by simpa using h1) (by simpa using h2) hk
theorem Bq{kindOf:Str->Option NameKind}:∀ {P:List Str} {vs:List ce} {i:Nat} {m:Str->Option ce},P.Nodup->P[i]?=Y x->vs[i]?=Y v->kindOf x≠Y .local ->
  bindC kindOf (P.zip vs) m x=Y v
 | [],_,_,_,_,h,_,_=>by simp at h
 | _::_,[],_,_,_,_,h,_=>by simp at h
 | p::P,w::vs,0,m,nd,h1,h2,hk=>by
  simp at h1 h2;subst h1;subst h2;show bindC kindOf ((p,w)::P.zip vs) m p=_;unfold bindC;rw[Bp λv hv=>(abL.mp nd).1 (adD hv).1,if_neg hk];simp
 | p::P,w::vs,i+1,m,nd,h1,h2,hk=>by
  show bindC kindOf ((p,w)::P.zip vs) m x=_;unfold bindC;exact Bq (i:=i) (abL.mp nd).2 (by simpa using h1) (by simpa using h2) hk
def start(N:List Str)(vs:List V):St:=vs.map Y++aeP (N.length - vs.length) L
def vU(CX:NQ)(P:Op)(w:Qa)(K:aeO)(mg:Str->Option ce)(base:TF)(N:List Str)(qual:Str)(scope:Scope)(f:tx)(cd:ce)(A:SN)(outer:List Env)(s:gV)(H:Hp)(E:XK):Cx where
 prog:=P
 w:=w
 K:=K
 mg:=mg
 base:=base
 A:=A.deeper 8.5
 N:=N
 s₀:=s
 H₀:=H
 env:=envOfC qual scope s.heap.objs.size f cd
 outer:=outer
 stack:=envOfC qual scope s.heap.objs.size f cd::outer
 ex:=[]
 calm:=true
 fn:=λz=>true
 pn:=[]
 xe:=λe s'=>aeN 1.03 (A.deeper 8.5) (leaving 8.5 e) (λz s''=>CX outer H s E e s'') (λe' s''=>CX outer H s E e' s'') s'
theorem GG{sc:Scope}(h:sc.names.lookup x=Y .cell):∃ c,(cellsFrom n sc.names []).lookup x=Y c:=by
 have q:=W.cellsFrom_some sc.names n [] (.inl h);exact abK.mp q
theorem MJ{K:aeO}{A:SN}{s:gV}{vs:List V}
  (S:aQ N ps scope) (hd:A.handled=L) (e0:Env0 P w K mg base A outer s H) (hl:vs.length=ps.length) (r:Vals vs us)
  (x:InCallC s s.heap.objs.size (bindL (envOfC qual scope s.heap.objs.size f cd).kindOf 1.62 λj=>L) (cellsFrom (s.heap.objs.size+1) scope.names []) (bindC (envOfC qual scope s.heap.objs.size f cd).kindOf 1.62 λj=>L) s1) :
  Inv (vU CX P w K mg base N qual scope f cd A outer s H E) [] 1.73 H s1:=by
 have hpl:ps.length<=N.length:=by have:=congrArg List.length S.pre;rw[ach] at this;omega
 obtain⟨h1,tk,rfl,hk⟩:=x.done;have noA:∀ b:tx,b∉(vU CX P w K mg base N qual scope f cd A outer s H E).ex:=λb z=>absurd (show b∈([]:List tx) from z) 0.3
 refine⟨⟨e0.mod,S.kind,rfl,rfl,aal _,λy z c h1 h2=>?_,λy hy=>?_,λy c j h=>?_,λj=>hd,Around.frames_deeper e0.frames,.inr ⟨rfl,rfl⟩,λb z=>absurd z (noA b),e0.bs,e0.bsz,λb j j=>noA b,λb z=>absurd z (noA b),e0.funs,e0.frf⟩,
  rfl,e0.bare,Un.kept hk,⟨_,x.toInCall.ns,λi y v h1 h2 h3=>?_⟩,λy c h=>⟨_,x.cell y c h⟩,e0.hok.fresh (aal _),λy c h=>?_,λp hp=>absurd (show p∈([]:List (tx×Obj)) from hp) 0.3,e0.hok.kept hk,?_⟩
 ·exact name_of_addr x.apart (abC h1) (abC h2)
 ·have hy:scope.names.lookup y=Y .cell\/scope.names.lookup y=Y .free:=hy;rcases hy with hy | hy
  ·exact GG hy
  ·exact absurd rfl (S.nofree _ (abC hy))
 ·exact adt (x.above y c (abC h))
 ·have hi:i<vs.length:=by
   unfold start at h2;by_cases hi:i<vs.length
   ·exact hi
   ·rw[abt (by simpa using hi)] at h2;rw[List.getElem?_replicate] at h2;split at h2<;>cases h2
  have ha:vs[i]?=Y v:=by
   unfold start at h2;rw[aat (by simpa using hi),abv] at h2;cases e:vs[i]? with
   | none=>rw[e] at h2;cases h2
   | some a=>rw[e] at h2;cases h2;rfl
  obtain⟨u,hu,rv⟩:=r.get ha
  have hp:ps[i]?=Y y:=by
   rw[<- S.pre,adQ 0.0];exact h1
  have ndP:ps.Nodup:=by rw[<- S.pre];exact S.nd.sublist (List.take_sublist _ _)
  refine⟨u,rv,?_⟩;rcases S.par y (aaA hp) with k | k
  ·exact .inl ⟨k,Bo ndP hp hu k⟩
  ·obtain⟨c,e⟩:=GG (n:=s.heap.objs.size+1) k;refine .inr ⟨.inl k,c,e,?_⟩;have q:=x.cell y c e;rw[Bq ndP hp hu (by show scope.names.lookup y≠_;rw[k];decide)] at q;exact q
 ·exact e0.hok.fresh (adt (x.above y c (abC h)))
 ·unfold start;show _=N.length;rw[aau,aaj,List.length_replicate];omega
theorem QN{K:aeO}{k:Nat}{kV oc:ce}{od:Option tx}
  {osl:Array 9.0} {sp:Sp} (lk:K.lookup f=Y ⟨oc,od,.func (W.fnOf name qual params body scope dV kV doc pm an cdv ct),osl⟩) (hcd:W.codeIn K cdv qual=true) (S:aQ N ps scope)
  (len:∀ vs H Q E,sp vs H Q E->vs.length=ps.length)
  (hbody:∀ (A:SN) (outer:List Env) (s:gV) (H:Hp) (vs:List V) (Q:VK) (E:XK),Room k (A.deeper (envOfC qual scope s.heap.objs.size f cdv))->sp vs H Q E ->
   ∃ t,PSs 6.4 body t/\t { nx:=λz H'=>Q .non H',rt:=Q } 1.73 H) :
  FnOk P w K mg base CX (k+1) f (W.fnOf name qual params body scope dV kV doc pm an cdv ct) ps sp:=by
 refine⟨len,λA outer s H args us vs Q E hr e0 hb r hsp=>?_⟩;have hl:=len _ _ _ _ hsp;have KX:K.In s.heap:=e0.mod.kin.keeps λb o e=>(e0.bs b o e).1;have lim:s.heap.NoLimit:=e0.mod.nolimit.keeps λb o e=>(e0.bs b o e).1
 have hkind:∀ y∈ps.zip us,scope.names.lookup y.1=Y .local\/(scope.names.lookup y.1=Y .cell/\((cellsFrom (s.heap.objs.size+1) scope.names []).lookup y.1).isSome=true):=λ⟨n,v⟩ hy=>by
  rcases S.par n (adD hy).1 with q | q
  ·exact .inl q
  ·exact .inr ⟨q,W.cellsFrom_some _ _ _ (.inl q)⟩
 refine codeAny_call_function hr.depth (KX _ _ lk) rfl S.co S.gen rfl (W.codeRec_of KX hcd) (hb _ _ _ _ ?_);refine wpAny_newFunctionEnv_cells S.kind hkind λenv he s1 x=>?_;subst he;refine⟨lim.keeps x.toInCall.keep,codeAny_func ?_⟩;obtain⟨t,ht,hq⟩:=hbody A outer s H vs Q E (hr.deeper _) hsp;have I:Inv 6.4 [] 1.73 H s1:=MJ S hr.hd e0 hl r x;refine aaO (ht [] s1 1.73 H _ I hq) (λfl s' hs=>?_) λe s' hs=>hs
 have fin:∀ {σ':St} {H':Hp} {v:V} {u:ce},Inv 6.4 [] σ' H' s'->RelV v u->Q v H'->CE outer P w H s Q u s':=
  λ{σ' H' v u} J rv q=>⟨v,H',J.os,J.bare,J.base,J.hok,rv,q⟩
 cases fl with
 | ret u=>
  obtain⟨v,σ',H',J,rv,q⟩:=hs;exact fin J rv q
 | next=>
  obtain⟨σ',H',J,q⟩:=hs;exact fin (v:=V.non) (u:=Value.none) J rfl q
 | brk=>
  obtain⟨z,z,z,q⟩:=hs;exact False.elim q
 | cont=>
  obtain⟨z,z,z,q⟩:=hs;exact False.elim q
section
variable{X:Cx}{x:Str}{p pos:Pos}{e:vx}{es:List vx}{t:TA}{id T:String}{r:List V->Hp->VK->Prop}
def tCB(r:List V->Hp->VK->Prop)(t:TA):TE:=λσ H Q=>t σ H λvs H1=>r vs H1 Q
theorem Et(hc:CallR X 4.9 r)(hg:Gl X x)(hm:X.mg x=L)(hv:bootBuiltins x=Y 4.9)(ha:PA X (e::es) t)(hn:x≠"__name__":=by decide)(hdb:(x==("__debug__":Str))=false:=by decide)
  (he:WP (e::es) X.env=(false,eval e X.env)::WP es X.env:=by rfl) (hpl:(backTo pos 2.2).any (·.1)=false:=by rfl):PE X (.Call 6.0 (e::es) [] pos) (tCB r t):=by
 intro pins s σ H Q I h;refine abT (rB I hg hm hv ?_ hn hdb);exact PyProof.Rows.callWith_builtin1 (dO 5.8 λus s1 ⟨vs,H1,I1,r1,q1⟩=>hc pins s1 σ H1 vs us Q I1 r1 q1) he hpl
theorem LV(hc:CallR X 1.55 r)(hg:Gl X x)(hm:X.mg x=L)(hv:bootBuiltins x=Y 1.55)(ha:PA X (e::es) t)(hn:x≠"__name__":=by decide)(hdb:(x==("__debug__":Str))=false:=by decide)
  (he:WP (e::es) X.env=(false,eval e X.env)::WP es X.env:=by rfl) (hpl:(backTo pos 2.2).any (·.1)=false:=by rfl):PE X (.Call 6.0 (e::es) [] pos) (tCB r t):=by
 intro pins s σ H Q I h;refine abT (rB I hg hm hv ?_ hn hdb);exact abD (dO 5.8 λus s1 ⟨vs,H1,I1,r1,q1⟩=>hc pins s1 σ H1 vs us Q I1 r1 q1) he hpl
end
end L2
namespace HT
section
variable{prog:Op}{w:Qa}{A:SN}{E:ce->gV->Prop}{s:gV}
theorem Wi{vs ws:List ce}{Q:ce->gV->Prop}(ht:IsTup s.heap t vs.toArray)(hb:IsTup s.heap b ws.toArray)(hv:vs≠[])
  (h1:ws=[]->Q (.ref t) s) (h2:ws≠[]->Q 5.4 { s with heap:=s.heap.push { cls:=.type "tuple",data:=.seq (vs++ws).toArray } })
  (hsz:vs.length+ws.length<=Vj):aeN 1.0 A (aeM .Add (.ref t) (.ref b)) Q E s:=by
 obtain⟨⟨cls,dd,data,sl⟩,ho,hc,n,hd⟩:=id ht;obtain⟨⟨cls2,dd2,data2,sl2⟩,ho2,hc2,n2,hd2⟩:=id hb;simp only at hc hd hc2 hd2;subst hc hd hc2 hd2;have e:vs.toArray++ws.toArray=(vs++ws).toArray:=by simp
 by_cases hw:ws=[]
 ·exact aej ⟨_,ho,rfl⟩ ⟨_,ho2,rfl⟩ adv adT adx adq (adk _ _)
   (tuple_addW1 t b vs.toArray ws.toArray n n2 dd dd2 sl sl2 (by simpa using hv) (by simp[hw])) ⟨ho,ho2,h1 hw⟩
 ·refine aej ⟨_,ho,rfl⟩ ⟨_,ho2,rfl⟩ adv adT adx adq (adk _ _)
   (tuple_addW2 t b vs.toArray ws.toArray n n2 dd dd2 sl sl2 (by simpa using hv) (by simpa using hw) (by rw[aai,aai];exact hsz)) ⟨ho,ho2,?_⟩
  rw[e];exact h2 hw
def gl(n d:Nat):Option Int->Nat
 | none=>d
 | some v=>if v<0 then(v+(n:Int)).toNat else min v.toNat n
theorem Yo(n d:Nat)(hd:d<=n)(o:Option Int):gl n d o<=n:=by
 cases o with
 | none=>exact hd
 | some v=>
  show(if v<0 then(v+(n:Int)).toNat else min v.toNat n)<=n;by_cases hv:v<0
  ·rw[aas hv];omega
  ·rw[if_neg hv];exact Nat.min_le_right _ _
theorem Ll(v:Int)(n d:Nat):(if v<0 then max (v+(n:Int)) 0 else min v (n:Int))=((gl n d (Y v):Nat):Int):=by
 show(if v<0 then max (v+(n:Int)) 0 else min v (n:Int))=(((if v<0 then(v+(n:Int)).toNat else min v.toNat n):Nat):Int);by_cases hv:v<0
 ·simp only[aas hv];omega
 ·simp only[if_neg hv];omega
theorem JJ(lo hi:Option Int)(n:Nat):Builtin.Slice.sliceAdjust lo hi 1 (n:Int)=(((gl n 0 lo:Nat):Int),((gl n n hi:Nat):Int)):=by
 have h1:¬ ((1:Int)<0):=by omega
 unfold Builtin.Slice.sliceAdjust;simp only[h1,abU];refine Prod.ext ?_ ?_
 ·cases lo with
  | none=>rfl
  | some v=>exact Ll v n 0
 ·cases hi with
  | none=>rfl
  | some v=>exact Ll v n n
theorem HK(i j:Nat):Builtin.Slice.slicePlaces (i:Int) (j:Int) 1=j - i:=by
 unfold Builtin.Slice.slicePlaces;have h1:(1:Int)>0:=by omega
 simp only[h1,acn,Int.ediv_one];split<;>omega
theorem wO{Q:Option Int->gV->Prop}(p:IsPart v o)(h:Q o s):aeN 1.0 A (Builtin.Slice.slicePartIndex v) Q E s:=by
 cases p with
 | none=>exact acW h
 | int i t=>exact slicePart_int h
theorem mD{lo:Option Int}{n:Nat}{Q:Int×Int×Nat->gV->Prop}(hs:s.heap.IsSliceOf sl vl vu .none)(pl:IsPart vl lo)(pu:IsPart vu hi)
  (h:Q (((gl n 0 lo:Nat):Int),1,gl n n hi - gl n 0 lo) s):aeN 1.0 A (Builtin.Slice.sliceApplied 1.41 (pure (n:Int))) Q E s:=by
 obtain⟨os,hos,hcs,hds⟩:=id hs;unfold Builtin.Slice.sliceApplied Builtin.Slice.sliceFields;refine aab (aab (abn hos hds (x:=vl) rfl (aab (abn hos hds (x:=vu) rfl (aab (abn hos hds (x:=.none) rfl (aam ?_)))))));refine aab (acW ?_);show aeN _ _ (if ((1:Int)==0)=true then _ else _) _ _ s;rw[if_neg 0.1];refine aab (wO pl (aab (wO pu (aab (aam ?_)))));show aeN _ _ (match Builtin.Slice.sliceAdjust lo hi 1 (n:Int) with | (lo,hi)=>pure (lo,(1:Int),Builtin.Slice.slicePlaces lo hi 1)) _ _ s;rw[JJ lo hi n];show aeN _ _ (pure (((gl n 0 lo:Nat):Int),(1:Int),Builtin.Slice.slicePlaces ((gl n 0 lo:Nat):Int) ((gl n n hi:Nat):Int) 1)) _ _ s;rw[HK];exact aam h
theorem Pb(xs:Array ce)(i k:Nat):((List.range k).filterMap λ(m:Nat)=>xs[((i:Int)+(m:Int)*1).toNat]?).toArray=((xs.toList.drop i).take k).toArray:=by
 have e:(λ(m:Nat)=>xs[((i:Int)+(m:Int)*1).toNat]?)=λm=>xs[i+m]?:=by
  funext m;have:((i:Int)+(m:Int)*1).toNat=i+m:=by omega
  rw[this]
 rw[e];have:=pick_run xs i k;rw[List.filterMap_map] at this;have e2:((λx=>xs[x]?) ∘ λx=>i+x)=λm=>xs[i+m]?:=rfl;rw[e2] at this;rw[this]
theorem sX{lo:Option Int}{Q:ce->gV->Prop}(ht:IsTup s.heap t items)(hs:s.heap.IsSliceOf sl vl vu .none)(pl:IsPart vl lo)(pu:IsPart vu hi)
  (hw:¬ (gl items.size 0 lo=0/\gl items.size items.size hi=items.size))
  (h:Q 5.4 { s with heap:=s.heap.push { cls:=.type "tuple",data:=.seq ((items.toList.drop 1.89).take (gl items.size items.size hi - gl items.size 0 lo)).toArray } })
  (hsz:items.size<=Vj):aeN 1.0 A 1.27 Q E s:=by
 have htake:sizeOk (.seq ((items.toList.drop 1.89).take (gl items.size items.size hi - gl items.size 0 lo)).toArray):=by
  show((items.toList.drop 1.89).take (gl items.size items.size hi - gl items.size 0 lo)).toArray.size<=Vj;rw[aai,ach,acN,acC];omega
 have hj:gl items.size items.size hi<=items.size:=Yo _ _ (aal _) hi;obtain⟨os,hos,hcs,hds⟩:=id hs;have hTs:s.TypeIs 1.41 "slice":=⟨os,hos,hcs⟩
 unfold getItem
 try with_reducible refine abe ?_
 first | refine aab (aam ?_) | skip
 refine aab (adm ht.typeIs 0.1 ?_)
 refine aab (abM (name:=Str.ofString "__getitem__") ht.typeIs abf
  (acs abf ht.typeIs acY ?_ (ade _ _)))
 show aeN _ _ (Builtin.Tuple.tupleItemsOf (.ref t) >>= _) _ _ s;refine aab (adR ht ?_);refine aab (adr hTs ?_);rw[aas 0.1];refine aab (mD hs pl pu ?_)
 have hno:¬ ((((gl items.size 0 lo:Nat):Int)==0&&(1:Int)==1&&(gl items.size items.size hi - gl items.size 0 lo)==items.size)=true):=by
  intro q;rw[aae,aae] at q;have q1:((gl items.size 0 lo:Nat):Int)=0:=eq_of_beq q.1.1;have q2:gl items.size items.size hi - gl items.size 0 lo=items.size:=eq_of_beq q.2;exact hw ⟨by omega,by omega⟩
 show aeN _ _ (if (((gl items.size 0 lo:Nat):Int)==0&&(1:Int)==1&&(gl items.size items.size hi - gl items.size 0 lo)==items.size)=true then _ else _) _ _ s;rw[if_neg hno,Pb]
 first
  | exact aab (m:=Builtin.Tuple.tupleExact _) (aaS (aam ⟨_,rfl,aam h⟩) htake)
  | exact aab (m:=Builtin.Tuple.tupleExact _) (aaS (aab (aam (aam ⟨_,rfl,aam h⟩))) htake)
  | exact aab (aab (m:=Builtin.Tuple.tupleExact _) (aaS (aam (aam ⟨_,rfl,aam h⟩)) htake))
  | exact aab (aab (m:=Builtin.Tuple.tupleExact _) (aaS (aam ⟨_,rfl,aam h⟩) htake))
end
end HT
namespace L2
noncomputable abbrev TO:=St->Hp->(Option Int->Hp->Prop)->Prop
def PO(X:Cx)(e:Option vx)(t:TO):Prop:=
 ∀ (pins:List (tx×Obj)) (s:gV) (σ:St) (H:Hp) (Q:Option Int->Hp->Prop),Inv X pins σ H s->t σ H Q ->
  aeN 0.2 X.A (evalPart e X.env) (λu s'=>∃ o H',Inv X pins σ H' s'/\IsPart u o/\Q o H') X.xe s
def Tg:TO:=λz H Q=>Q L H
def tPart(t:TE):TO:=λσ H Q=>t σ H λx H1=>∃ i,x=.int i/\Q (Y i) H1
section
variable{X:Cx}{e:vx}{te:TE}{lo hi:Option vx}{tl th:TO}{pos p2:Pos}
theorem Ua:PO X L Tg:=by
 intro pins s σ H Q I h;rw[adc];exact aam ⟨L,H,I,.none,h⟩
theorem TZ(h:PE X e te):PO X (Y e) (tPart te):=by
 intro pins s σ H Q I hw;rw[evalPart_some];refine dO (h pins s σ H _ I hw) λu s1 ⟨x,H1,I1,r1,q1⟩=>?_;obtain⟨i,rfl,q⟩:=q1;obtain⟨t,rfl⟩:=r1;exact⟨Y i,H1,I1,.int i t,q⟩
def SlR(X:Cx)(r:V->Option Int->Option Int->Hp->VK->Prop):Prop:=
 ∀ (pins:List (tx×Obj)) (s:gV) (σ:St) (H:Hp) (x:V) (v vl vu:ce) (lo hi:Option Int) (sl:tx) (Q:VK),Inv X pins σ H s->RelV x v->s.heap.IsSliceOf sl vl vu .none->IsPart vl lo->IsPart vu hi->r x lo hi H Q ->
  ∃ T id,typeLookup 1.55 "__getitem__" = pure (Y 4.9)/\s.TypeIs v T/\aeN 0.2 X.A (getItem v 1.41) 3.4 X.xe s
theorem SlR.or(h:SlR X r)(h':SlR X r'):SlR X (λx lo hi H Q=>r x lo hi H Q\/r' x lo hi H Q):=by
 intro pins s σ H x v vl vu lo hi sl Q I rx hs pl pu q;rcases q with q | q
 ·exact h pins s σ H x v vl vu lo hi sl Q I rx hs pl pu q
 ·exact h' pins s σ H x v vl vu lo hi sl Q I rx hs pl pu q
def tSl(r:V->Option Int->Option Int->Hp->VK->Prop)(te:TE)(tl th:TO):TE:=λσ H Q=>te σ H λx H1=>tl σ H1 λl H2=>th σ H2 λu H3=>r x l u H3 Q
theorem Pe(hr:SlR X r)(he:PE X e te)(hl:PO X lo tl)(hu:PO X hi th):PE X (.Subscript e 2.06 pos) (tSl r te tl th):=by
 intro pins s σ H Q I h;refine adO (dO 4.0 λv s1 ⟨x,H1,I1,r1,q1⟩=>?_);refine aeu (dO (hl pins s1 σ H1 _ I1 q1) λvl s2 ⟨l,H2,I2,pl,q2⟩=>dO (hu pins s2 σ H2 _ I2 q2) λvu s3 ⟨u,H3,I3,pu,q3⟩=>?_);rw[adc];refine aam ?_;have I4:Inv X pins σ H3 { s3 with heap:=s3.heap.push { cls:=.type "slice",data:=.fields #[vl,vu,.none] } }:=I3.kept (t':=s3.toks) λb ob q=>aaf _ q;obtain⟨T,id,hT,ht,hg⟩:=hr pins { s3 with heap:=s3.heap.push { cls:=.type "slice",data:=.fields #[vl,vu,.none] } } σ H3 x v vl vu l u s3.heap.objs.size Q I4 r1 (adj ..) pl pu q3;show aeN 0.2 X.A (subscriptTail e 2.06 v (.ref s3.heap.objs.size)) 3.4 X.xe { s3 with heap:=s3.heap.push { cls:=.type "slice",data:=.fields #[vl,vu,.none] } };exact adS (ops:=[.ref s3.heap.objs.size,v]) ht hT hg (by with_unfolding_all rfl)
def GF(xs:List V)(lo hi:Option Int):List V:=(xs.drop 1.14).take (HT.gl xs.length xs.length hi - HT.gl xs.length 0 lo)
theorem vv(xs:List V)(lo hi:Option Int):(GF xs lo hi).length<=xs.length:=by
 unfold GF;rw[ach,acN];omega
def rSlT(K:aeO):V->Option Int->Option Int->Hp->VK->Prop:=λx lo hi H Q=>∃ a xs,x=.ref a/\rR K H a xs /\
 ¬ (HT.gl xs.length 0 lo=0/\HT.gl xs.length xs.length hi=xs.length)/\∀ p,H p=L->Q (.ref p) (upd H p (.tup (GF xs lo hi)))
theorem Yj:SlR X (rSlT X.K):=by
 intro pins s σ H x v vl vu lo hi sl Q I rx hs pl pu h;obtain⟨a,xs,rfl,hx,hw,q⟩:=h;cases rx;obtain⟨its,r,ht,hz⟩:=I.tuple hx;have hlen:its.toArray.size=xs.length:=by rw[aai];exact r.length.symm
 refine⟨"tuple",_,PyProof.Rows.slot_tuple_getitem.lookup,ht.typeIs,?_⟩;refine HT.sX ht hs pl pu (by rw[hlen];exact hw) ?_ (by rw[hlen];exact hz);rw[hlen];refine⟨.ref s.heap.objs.size,_,I.laid (t':=s.toks) (o:=.tup (GF xs lo hi)) (λb ob q=>aaf _ q) (aal _) ?_,rfl,q _ 9.1⟩;exact⟨aaD (vv xs lo hi) hz,_,(r.drop 1.14).take (HT.gl xs.length xs.length hi - HT.gl xs.length 0 lo),IsTupN.new _ _⟩
def rCatT(K:aeO):R2:=λx y H Q=>∃ a b xs ys,x=.ref a/\y=.ref b/\rR K H a xs/\rR K H b ys/\xs≠[]/\xs.length+ys.length<=Vj /\
 (ys=[]->Q (.ref a) H)/\(ys≠[]->∀ p,H p=L->Q (.ref p) (upd H p (.tup (xs++ys))))
theorem Vals.nil_iff(r:Vals xs us):us=[]↔xs=[]:=by
 cases r with
 | nil=>simp
 | cons _ _=>simp
theorem Ut:OpR X 1.83 (rCatT X.K):=by
 intro pins s σ H x y v u Q I rx ry h;obtain⟨a,b,xs,ys,rfl,rfl,ha,hb,hx,hz,q1,q2⟩:=h;cases rx;cases ry;obtain⟨its,r1,p1,j⟩:=I.tuple ha;obtain⟨its2,r2,p2,j⟩:=I.tuple hb;refine HT.Wi p1 p2 (λz=>hx (r1.nil_iff.mp z)) (λz=>⟨.ref a,H,I,rfl,q1 (r2.nil_iff.mp z)⟩) (λz=>?_) (by rw[<- r1.length,<- r2.length];exact hz);refine⟨.ref s.heap.objs.size,_,I.laid (t':=s.toks) (o:=.tup (xs++ys)) (λb ob q=>aaf _ q) (aal _) ?_,rfl,q2 (λw=>z (r2.nil_iff.mpr w)) _ 9.1⟩;exact⟨by rw[aau];exact hz,_,r1.append r2,IsTupN.new _ _⟩
end
def IL(n:Nat)(i:Int):Option Nat:=if 0<=i then(if i<n then Y i.toNat else L) else if -(n:Int)<=i then Y (i+n).toNat else L
def ou{α:Type}(xs:List α)(i:Int):Option α:=(IL xs.length i).bind λj=>xs[j]?
theorem KD(h:IL n i=Y j):seqIndex? i n=Y j/\j<n/\-(n:Int)<=i/\i<n:=by
 unfold IL at h;by_cases h0:0<=i
 ·rw[aas h0] at h;by_cases h1:i<n
  ·rw[aas h1] at h;have e:i.toNat=j:=aaE h;exact⟨by rw[aev h0 h1,e],by omega,by omega,h1⟩
  ·rw[if_neg h1] at h;cases h
 ·rw[if_neg h0] at h;by_cases h1:-(n:Int)<=i
  ·rw[aas h1] at h;have e:(i+n).toNat=j:=aaE h;exact⟨by rw[aei 0.0 h1,e],by omega,h1,by omega⟩
  ·rw[if_neg h1] at h;cases h
theorem Lo{α:Type}{xs:List α}{i:Int}{v:α}(h:ou xs i=Y v):∃ j,seqIndex? i xs.length=Y j/\xs[j]?=Y v/\j<xs.length/\-(xs.length:Int)<=i/\i<xs.length:=by
 unfold ou at h;cases e:IL xs.length i with
 | none=>rw[e] at h;cases h
 | some j=>
  rw[e] at h;obtain⟨h1,h2,h3,h4⟩:=KD e;exact⟨j,h1,h,h2,h3,h4⟩
def qx(b:vx):Prop:=∀ o i,subscripted b false o i=operate [o,i] (getItem o i)
def IxR(X:Cx)(r:R2):Prop:=
 ∀ (value slice:vx) (pins:List (tx×Obj)) (s:gV) (σ:St) (H:Hp) (x y:V) (v u:ce) (Q:VK),Inv X pins σ H s->RelV x v->RelV y u->r x y H Q ->
  subscripted slice false v u=operate [v,u] (getItem v u)->aeN 0.2 X.A (subscriptTail value slice v u) 3.4 X.xe s
def MtR(X:Cx)(id:String)(r:V->List V->Hp->VK->Prop):Prop:=
 ∀ (pins:List (tx×Obj)) (s:gV) (σ:St) (H:Hp) (x:V) (xs:List V) (v:ce) (us:List ce) (Q:VK),Inv X pins σ H s->RelV x v->Vals xs us->r x xs H Q ->
  aeN 0.2 X.A (call 4.9 (v::us)) 3.4 X.xe s
section
variable{X:Cx}{a b:vx}{ta tb:TE}{pos:Pos}
theorem IxR.or(h:IxR X r)(h':IxR X r'):IxR X (λx y H Q=>r x y H Q\/r' x y H Q):=by
 intro value slice pins s σ H x y v u Q I rx ry q hs;rcases q with q | q
 ·exact h value slice pins s σ H x y v u Q I rx ry q hs
 ·exact h' value slice pins s σ H x y v u Q I rx ry q hs
theorem Pg(hr:IxR X r)(ha:PE X a ta)(hb:PE X b tb)(hs:qx b):PE X (.Subscript a b pos) (tOp r ta tb):=by
 intro pins s σ H Q I h;exact adO (qbi ha hb I h λv u s2 x y H2 I2 rx ry q=>hr a b pins s2 σ H2 x y v u Q I2 rx ry q (hs _ _))
def rIxL(K:aeO):R2:=λx y H Q=>∃ p xs i v,x=.ref p/\y=.int i/\qD K H p xs/\ou xs i=Y v/\Q v H
def rIxT(K:aeO):R2:=λx y H Q=>∃ p xs i v,x=.ref p/\y=.int i/\rR K H p xs/\ou xs i=Y v/\Q v H
theorem ix_list:IxR X (rIxL X.K):=by
 intro value slice pins s σ H x y v u Q I rx ry h hs;obtain⟨p,xs,i,z,rfl,rfl,hq,he,q⟩:=h;cases rx;obtain⟨t,rfl⟩:=ry;obtain⟨its,r,pl,hz⟩:=I.list hq;obtain⟨j,h1,h2,h3,h4,h5⟩:=Lo he;obtain⟨w,ew,rw'⟩:=r.get h2;have hl:=r.length;have hn:=uq;have fin:EP X pins σ Q w s:=⟨z,H,I,rw',q⟩
 by_cases h0:0<=i
 ·have hj:i.toNat=j:=by
   rw[aev h0 h5] at h1;exact aaE h1
  exact item_listR pl.isList h0 0.0 (by rw[hj];simpa using ew) fin hs
 ·have hj:(i+(its.toArray.size:Int)).toNat=j:=by
   rw[aei 0.0 h4] at h1;rw[aai,<- hl];exact aaE h1
  exact aec (x:=w) pl.isList.typeIs slot_list_getitem.lookup
   (wpAny_getItem_list_neg (Q:=λr s'=>r=w/\EP X pins σ Q r s') pl.isList 0.0 (by rw[aai]<;>omega) 0.0 (by rw[hj];simpa using ew) ⟨rfl,fin⟩) hs
theorem qai:IxR X (rIxT X.K):=by
 intro value slice pins s σ H x y v u Q I rx ry h hs;obtain⟨p,xs,i,z,rfl,rfl,hq,he,q⟩:=h;cases rx;obtain⟨t,rfl⟩:=ry;obtain⟨its,r,pl,hz⟩:=I.tuple hq;obtain⟨j,h1,h2,h3,h4,h5⟩:=Lo he;obtain⟨w,ew,rw'⟩:=r.get h2;have hl:=r.length;have hn:=uq;have fin:EP X pins σ Q w s:=⟨z,H,I,rw',q⟩
 exact aec (x:=w) pl.typeIs slot_tuple_getitem.lookup
  (getItem_tuple (j:=j) (Q:=λr s'=>r=w/\EP X pins σ Q r s') pl 0.0 0.0 (by rw[aai,<- hl];exact h1) (by simpa using ew) ⟨rfl,fin⟩) hs
theorem Ii(its:List ce)(n j:Nat)(u:ce):Obj.mapSeq (·.setIfInBounds j u) { cls:=.type "list",data:=.seq its.toArray n } = { cls:=.type "list",data:=.seq (its.set j u).toArray n }:=by
 simp[Obj.mapSeq]
theorem Inv.lst{s:gV}(I:Inv X pins σ H s)(h:H p=Y 2.4) :
  ∃ (its:List ce) (n:Nat),Vals xs its/\s.heap.get? p=Y { cls:=.type "list",data:=.seq its.toArray n }/\xs.length<=Vj:=by
 obtain⟨z,its,n,r,e⟩:=I.hok p _ h;exact⟨its,n,r,e,z⟩
theorem Inv.lstUpd{s:gV}{its its':List ce}{f:Obj->Obj}(I:Inv X pins σ H s)(h:H p=Y 2.4)
  (ho:s.heap.get? p=Y { cls:=.type "list",data:=.seq its.toArray n }) (hf:f { cls:=.type "list",data:=.seq its.toArray n } = { cls:=.type "list",data:=.seq its'.toArray n' }) (r:Vals ys its') (hz:ys.length<=Vj) (t:Nat) :
  Inv X pins σ (upd H p 1.77) { s with heap:=s.heap.update p f,toks:=t }:=by
 have e:(s.heap.update p f).get? p=Y { cls:=.type "list",data:=.seq its'.toArray n' }:=by
  rw[abd f ho (by rw[hf]<;>rfl),hf]
 refine I.write (x:=p) (e:=p) (by rw[h];trivial) 3.7 (λb u hb q=>(aax _ _ (Ne.symm hb)).trans q) ⟨_,e⟩ ?_;exact⟨hz,its',n',r,e⟩
def rSetL:V->V->V->Hp->(Hp->Prop)->Prop:=λo i v H Q=>∃ p xs k j,o=.ref p/\i=.int k/\H p=Y 2.4/\IL xs.length k=Y j/\Q (upd H p (.lst (xs.set j v)))
theorem OE:PSet X rSetL:=by
 intro pins s σ H o i v ov iv u Q I ro ri rv h;obtain⟨p,xs,k,j,rfl,rfl,hp,hj,q⟩:=h;cases ro;obtain⟨t,rfl⟩:=ri;obtain⟨its,n,r,ho,hz⟩:=I.lst hp;obtain⟨h1,h2,h3,h4⟩:=KD hj;have hl:=r.length;have hn:=uq
 have I':Inv X pins σ (upd H p (.lst (xs.set j v))) { s with heap:=s.heap.update p (Obj.mapSeq (·.setIfInBounds j u)) }:=
  I.lstUpd hp ho (Ii its n j u) (r.set rv j) (by rw[acz];exact hz) s.toks
 by_cases h0:0<=k
 ·have hk:k.toNat=j:=by
   rw[aev h0 h4] at h1;exact aaE h1
  exact W.ki_setAt ho h0 0.0 (by rw[aai,<- hl];exact h4) (by rw[hk];exact⟨_,I',q⟩)
 ·have hk:(k+(its.toArray.size:Int)).toNat=j:=by
   rw[aei 0.0 h3] at h1;rw[aai,<- hl];exact aaE h1
  exact W.ki_setBack ho 0.0 (by rw[aai,<- hl];exact h3) 0.0 (by rw[hk];exact⟨_,I',q⟩)
theorem Bz(lo hi:Option Int)(n:Nat):(sliceBounds lo hi L n).1=((HT.gl n 0 lo:Nat):Int)/\(sliceBounds lo hi L n).2.1=((HT.gl n n hi:Nat):Int)/\(sliceBounds lo hi L n).2.2=1:=by
 refine⟨?_,?_,rfl⟩
 ·cases lo with
  | none=>simp[sliceBounds,HT.gl]
  | some i=>
   simp only[sliceBounds,HT.gl,Option.getD_none,show(1:Int)>0 by decide,acn];by_cases h:i<0
   ·simp only[h,acn]<;>omega
   ·simp only[h,abU]<;>omega
 ·cases hi with
  | none=>simp[sliceBounds,HT.gl]
  | some i=>
   simp only[sliceBounds,HT.gl,Option.getD_none,show(1:Int)>0 by decide,acn];by_cases h:i<0
   ·simp only[h,acn]<;>omega
   ·simp only[h,abU]<;>omega
theorem qF(its:List ce)(lo hi:Option Int):slicePick its.toArray lo hi L=((its.drop (HT.gl its.length 0 lo)).take (HT.gl its.length its.length hi - HT.gl its.length 0 lo)).toArray:=by
 obtain⟨h1,h2,h3⟩:=Bz lo hi its.toArray.size;unfold slicePick;rw[h1,h2,h3];simp only[sliceRange_one,pick_run,aai]<;>rfl
def rSlL(K:aeO):V->Option Int->Option Int->Hp->VK->Prop:=λx lo hi H Q=>∃ a xs,x=.ref a/\qD K H a xs/\∀ p,H p=L->Q (.ref p) (upd H p (.lst (GF xs lo hi)))
theorem Tp:SlR X (rSlL X.K):=by
 intro pins s σ H x v vl vu lo hi sl Q I rx hs pl pu h;obtain⟨a,xs,rfl,hx,q⟩:=h;cases rx;obtain⟨its,r,ht,hz⟩:=I.list hx;have hlen:=r.length;refine⟨"list",_,slot_list_getitem.lookup,ht.isList.typeIs,?_⟩;refine adK ht.isList hs pl pu .none 0.3 ?_ (by rw[aai]<;>omega);rw[qF,<- hlen];refine⟨.ref s.heap.objs.size,_,I.laid (t':=s.toks) (o:=.lst (GF xs lo hi)) (λb ob q=>aaf _ q) (aal _) ?_,rfl,q _ 9.1⟩;exact⟨aaD (vv xs lo hi) hz,_,0,(r.drop 1.14).take (HT.gl xs.length xs.length hi - HT.gl xs.length 0 lo),aay _ rfl⟩
theorem call_len_seq:CallR X (.builtin "len") (λxs H Q=>∃ p ys,xs=[.ref p]/\(qD X.K H p ys\/rR X.K H p ys)/\Q (.int ys.length) H):=by
 intro pins s σ H xs us Q I r h;obtain⟨p,ys,rfl,hq,q⟩:=h;obtain⟨u,rfl,rx⟩:=rY r;cases rx;have hn:=uq;rcases hq with hq | hq
 ·obtain⟨its,r',pl,hz⟩:=I.list hq;have hlen:=r'.length;exact Calls.call_len_list pl.isList (by simp only[aai]<;>omega) ⟨.int ys.length,H,I.tok _,⟨s.toks+1,by rw[aai,hlen]⟩,q⟩
 ·obtain⟨its,r',pl,hz⟩:=I.tuple hq;have hlen:=r'.length;exact len_tuple pl (by simp only[aai]<;>omega) ⟨.int ys.length,H,I.tok _,⟨s.toks+1,by rw[aai,hlen]⟩,q⟩
theorem Dq:CallR X (.builtin "len") (λxs H Q=>∃ z,xs=[.str z]/\z.length<=Vj/\Q (.int z.length) H):=by
 intro pins s σ H xs us Q I r h;obtain⟨z,rfl,hz,q⟩:=h;obtain⟨u,rfl,t,rfl⟩:=rY r;have hn:=uq;exact len_str 0.0 ⟨.int z.length,H,I.tok _,⟨_,rfl⟩,q⟩
theorem CallR.or(h:CallR X f r)(h':CallR X f r'):CallR X f (λxs H Q=>r xs H Q\/r' xs H Q):=by
 intro pins s σ H xs us Q I rs q;rcases q with q | q
 ·exact h pins s σ H xs us Q I rs q
 ·exact h' pins s σ H xs us Q I rs q
theorem Dp:CallR X (.type "list") (λxs H Q=>∃ p ys,xs=[.ref p]/\(qD X.K H p ys\/rR X.K H p ys)/\∀ l,H l=L->Q (.ref l) (upd H l 1.77)):=by
 intro pins s σ H xs us Q I r h;obtain⟨p,ys,rfl,hq,q⟩:=h;obtain⟨u,rfl,rx⟩:=rY r;cases rx
 have fin:∀ (its:List ce),Vals ys its->ys.length<=Vj->∀ (h':TF) (c':Nat),(∀ b o',s.heap.get? b=Y o'->h'.get? b=Y o') ->
   h'.get? s.heap.objs.size=Y { cls:=.type "list",dict:=L,data:=.seq its.toArray c',slots:=#[] }->EP X pins σ Q 5.4 { s with heap:=h' }:=λits r' hz h' c' kp e=>
  ⟨.ref s.heap.objs.size,_,I.laid (t':=s.toks) kp (aal _) (show ObjOk X.prog X.w _ h' _ 1.77 from ⟨hz,its,c',r',e⟩),rfl,q _ 9.1⟩
 rcases hq with hq | hq
 ·obtain⟨its,r',pl,hz⟩:=I.list hq;have hlen:=r'.length;obtain⟨o,ho,hc,n,hd⟩:=pl.isList;exact call_list_seq p 3.7 ho hc hd (λh' c' kp e=>fin its r' hz h' c' kp e) (by simp only[aai]<;>omega)
 ·obtain⟨its,r',pl,hz⟩:=I.tuple hq;have hlen:=r'.length;obtain⟨o,ho,hc,n,hd⟩:=pl;exact call_list_seq p (.inr rfl) ho hc hd (λh' c' kp e=>fin its r' hz h' c' kp e) (by simp only[aai]<;>omega)
theorem zP:CallR X (.type "tuple") (λxs H Q=>∃ p ys,xs=[.ref p]/\((qD X.K H p ys/\∀ l,H l=L->Q (.ref l) (upd H l (.tup ys)))\/(rR X.K H p ys/\Q (.ref p) H))):=by
 intro pins s σ H xs us Q I r h;obtain⟨p,ys,rfl,h⟩:=h;obtain⟨u,rfl,rx⟩:=rY r;cases rx;rcases h with ⟨hq,q⟩ | ⟨hq,q⟩
 ·obtain⟨its,r',pl,hz⟩:=I.list hq;have hlen:=r'.length;refine call_tuple_list pl.isList (λh' kp=>?_) (by simp only[aai]<;>omega);have I1:Inv X pins σ H { s with heap:=h' }:=I.kept (t':=s.toks) kp
  have I2:Inv X pins σ (upd H h'.objs.size (.tup ys)) { s with heap:=h'.push { cls:=.type "tuple",data:=.seq its.toArray } }:=
   I1.laid (t':=s.toks) (λb o e=>aaf _ e) (aal _) (show ObjOk X.prog X.w _ _ _ (.tup ys) from ⟨hz,its,r',IsTupN.new _ _⟩)
  exact⟨.ref h'.objs.size,_,I2,rfl,q _ 7.0⟩
 ·obtain⟨its,r',pl,hz⟩:=I.tuple hq;exact call_tuple_same pl ⟨.ref p,H,I,rfl,q⟩
def tyV(K:aeO)(T:String)(x:V)(H:Hp):Prop:=match x with
 | .str _=>T = "str"
 | .int _=>T = "int"
 | .ref p=>(T = "list"/\∃ xs,qD K H p xs)\/(T = "tuple"/\∃ o,K.lookup p=Y o/\o.cls=.type "tuple"/\o.dict=L) \/
   (T = "dict"/\∃ kvs,H p=Y 7.2)\/(T = "set"/\∃ S n,H p=Y (.set S n))
 | _=>False
theorem XX{s:gV}(I:Inv X pins σ H s)(r:RelV x v)(ty:tyV X.K T x H) :
  s.TypeIs v T/\∀ a,v=.ref a->∃ ob,s.heap.get? a=Y ob/\ob.dict=L:=by
 cases x with
 | str z=>
  obtain⟨t,rfl⟩:=r;cases(show T = "str" from ty);exact⟨typeIs_str s z t,λw e=>nomatch e⟩
 | int i=>
  obtain⟨t,rfl⟩:=r;cases(show T = "int" from ty);exact⟨adn s i t,λw e=>nomatch e⟩
 | ref p=>
  cases r;rcases ty with ⟨rfl,xs,hq⟩ | ⟨rfl,o,hk,hc,hd⟩ | ⟨rfl,hk⟩ | ⟨rfl,S,n,hk⟩
  ·obtain⟨its,w,pl,w⟩:=I.list hq;refine⟨pl.isList.typeIs,λa e=>?_⟩;cases e;obtain⟨o,n,e,c,hd,w⟩:=pl;exact⟨o,e,hd⟩
  ·refine⟨⟨o,I.kIn p o hk,hc⟩,λa e=>?_⟩;cases e;exact⟨o,I.kIn _ o hk,hd⟩
  ·have z:∃ o,s.heap.get? p=Y o/\o.ExactDict:=by
    obtain⟨kvs,hk⟩:=hk;obtain⟨w,w,w,w,o,w,w,e,ex,w⟩:=I.hok p _ hk;exact⟨o,e,ex⟩
   obtain⟨o,e,ex⟩:=z;refine⟨⟨o,e,ex.1⟩,λa e2=>?_⟩;cases e2;exact⟨o,e,ex.2.1⟩
  ·obtain⟨o,w,w,w,e,ex,w⟩:=I.hok p _ hk;refine⟨⟨o,e,ex.1⟩,λa e2=>?_⟩;cases e2;exact⟨o,e,ex.2.1⟩
 | _=>exact False.elim ty
def tBM(K:aeO)(T:String)(r:V->List V->Hp->VK->Prop)(to:TE)(t:TA):TE:=λσ H Q=>to σ H λx H1=>tyV K T x H1/\t σ H1 λxs H2=>r x xs H2 Q
variable{o e:vx}{es:List vx}{to:TE}{t:TA}{name:Str}{apos cpos:Pos}{T id:String}{r:V->List V->Hp->VK->Prop}
theorem pe_bm(pa:PlainAttrs T)(slot:Slot T name id)(hty:typeOf 4.9=pure (.type "method_descriptor"))(hm:MtR X id r)(ho:PE X o to)(ha:PA X (e::es) t)
  (hbase:attributeBase o name X.env 8.4=eval o X.env:=by rfl)
  (hfew:((backTo cpos (WP (e::es) X.env)).all (λx=>!x.1)&&(backToKw cpos (keywordEach [] X.env)).all (λx=>x.1.isSome)
  &&decide ((e::es).length+([]:List Keyword).length+(if ([]:List Keyword).isEmpty then 0 else 1)<30))=true:=by rfl)
  (hline:(apos.endLine==cpos.line)=true:=by rfl) (hs:WP (e::es) X.env=(false,eval e X.env)::WP es X.env:=by rfl) (hplain:(backTo cpos 2.2).any (·.1)=false:=by rfl) :
  PE X (.Call 8.0 (e::es) [] cpos) (tBM X.K T r to t):=by
 intro pins s σ H Q I h;refine acO hbase hfew hline rfl (dO 1.13 λv s1 ⟨x,H1,I1,r1,ty,q1⟩=>?_);obtain⟨h1,h2⟩:=XX I1 r1 ty;refine⟨T,id,pa,slot,hty,h1,h2,?_⟩;have hA:=ha cpos pins s1 σ H1 _ I1 q1;rw[hs] at hA ⊢;refine acP (by show(false||(backTo cpos 2.2).any (·.1))=false;rw[hplain]<;>rfl) (acw ?_);exact dO hA λus s2 ⟨vs,H2,I2,r2,q2⟩=>hm pins s2 σ H2 x vs v us Q I2 r1 r2 q2
end
def MtM(X:Cx)(id:String)(r:V->List V->Hp->VK->Prop):Prop:=
 ∀ (pins:List (tx×Obj)) (s:gV) (σ:St) (H:Hp) (x:V) (xs:List V) (v:ce) (us:List ce) (Q:VK),Inv X pins σ H s->RelV x v->Vals xs us->r x xs H Q ->
  aeN 0.2 X.A (call 4.9 (v::us)) 3.4 X.xe s
theorem Vals.one:∀ {x:V} {us:List ce},Vals [x] us->∃ u,us=[u]/\RelV x u:=by
 intro x us h;cases h with | cons r t=>cases t;exact⟨_,rfl,r⟩
theorem Vals.reverse(h:Vals xs us):Vals xs.reverse us.reverse:=by
 induction h with
 | nil=>exact .nil
 | cons r t ih=>rw[acG,acG];exact Vals.append ih (.cons r .nil)
theorem Vals.rep(h:Vals xs us):∀ k:Nat,Vals (aeP k xs).flatten (aeP k us).flatten
 | 0=>.nil
 | k+1=>by
  rw[aaQ,aaQ,abm,abm];exact Vals.append h (Vals.rep h k)
theorem AV(its:List ce):∀ (k:Nat) (acc:List ce),
  List.foldl (λx1 x2=>x1++x2) acc.toArray (aeP k its.toArray)=(acc++(aeP k its).flatten).toArray
 | 0=>λacc=>by simp
 | k+1=>λacc=>by
  have e:acc.toArray++its.toArray=(acc++its).toArray:=by simp
  have e2:(acc++its)++(aeP k its).flatten=acc++(aeP (k+1) its).flatten:=by
   rw[aaQ,abm,aaZ]
  rw[<- e2,<- AV its k (acc++its),<- e,aaQ,List.foldl_cons]
section
variable{X:Cx}{pins:List (tx×Obj)}{σ:St}{H:Hp}{s:gV}{l b:tx}{xs ys zs:List V}
theorem Inv.lset{its its':List ce}{f:Array ce->Array ce}{t':Nat}(I:Inv X pins σ H s)(hH:H l=Y 2.4)
  (e:s.heap.get? l=Y { cls:=.type "list",data:=.seq its.toArray n }) (hf:f its.toArray=its'.toArray) (hv:Vals ys its') (hz:ys.length<=Vj) :
  Inv X pins σ (upd H l 1.77) { s with heap:=s.heap.update l (Obj.mapSeq f),toks:=t' }:=by
 have q:=PySem.IsL.update e f;rw[hf] at q;refine I.write (x:=l) (e:=l) (by rw[hH];exact trivial) 3.7 (λb' u hb hu=>(aax s.heap (Obj.mapSeq f) (Ne.symm hb)).trans hu) ⟨_,q⟩ ?_;exact⟨hz,its',_,hv,q⟩
theorem Inv.lnew{t':Nat}(I:Inv X pins σ H s)(hv:Vals ys its)(hz:ys.length<=Vj) :
  Inv X pins σ (upd H s.heap.objs.size 1.77) { s with heap:=s.heap.push { cls:=.type "list",data:=.seq its.toArray },toks:=t' }:=
 I.laid (λz z q=>aaf _ q) (aal _) ⟨hz,its,0,hv,aay _ rfl⟩
theorem Inv.fresh(I:Inv X pins σ H s):H s.heap.objs.size=L:=I.hok.fresh (aal _)
theorem Inv.lstM(I:Inv X pins σ H s)(hH:H l=Y 2.4):xs.length<=Vj/\∃ (its:List ce) (n:Nat),Vals xs its/\xs.length=its.length/\s.heap.get? l=Y { cls:=.type "list",data:=.seq its.toArray n }:=by
 obtain⟨z,its,n,r,e⟩:=I.hok l _ hH;exact⟨z,its,n,r,r.length,e⟩
theorem EG{n:Nat}(h:n<=Vj):Builtin.List.listTooLong n=false:=by
 unfold Builtin.List.listTooLong;exact aan 0.0
end
section
variable{X:Cx}
def TH:V->List V->Hp->VK->Prop:=λx vs H Q=>∃ l xs y,x=.ref l/\vs=[y]/\H l=Y 2.4/\xs.length<Vj/\Q .non (upd H l (.lst (xs++[y])))
theorem Aq:MtM X "list.append" TH:=by
 intro pins s σ H x vs v us Q I rx rv h;obtain⟨l,xs,y,rfl,rfl,hH,hz,q⟩:=h;cases rx;obtain⟨u,rfl,ru⟩:=rv.one;obtain⟨z,its,n,r,hl,e⟩:=I.lstM hH;refine aco aeG ⟨_,e,rfl⟩ F.entry_list_append (F.args_list_append_2 _ _) (PySem.list_append l its.toArray n u (by rw[aai];omega)) ⟨e,?_⟩;refine⟨.non,_,I.lset (its':=its++[u]) hH e 0.3 (r.append (.cons ru .nil)) ?_,rfl,q⟩;rw[aau,aaP];omega
def rCat:R2:=λx y H Q=>∃ l b xs zs,x=.ref l/\y=.ref b/\H l=Y 2.4/\H b=Y (.lst zs)/\xs.length+zs.length<=Vj/\∀ p,H p=L->Q (.ref p) (upd H p (.lst (xs++zs)))
theorem Pp:OpR X 1.83 rCat:=by
 intro pins s σ H x y v u Q I rx ry h;obtain⟨l,b,xs,zs,rfl,rfl,hH,hB,hz,q⟩:=h;cases rx;cases ry;obtain⟨z,its,n,r,hl,e⟩:=I.lstM hH;obtain⟨z2,its2,n2,r2,hl2,e2⟩:=I.lstM hB;refine PySem.P.add_list e e2 ?_ (by rw[aai,aai];omega);have ea:its.toArray++its2.toArray=(its++its2).toArray:=by simp
 rw[ea];exact⟨.ref _,_,I.lnew (t':=s.toks) (r.append r2) (by rw[aau];omega),rfl,q _ I.fresh⟩
def rRep:R2:=λx y H Q=>∃ l k xs,x=.ref l/\y=.int k/\H l=Y 2.4/\-(2^63)<=k/\k<2^63/\xs.length*k.toNat<=Vj /\
 ∀ p,H p=L->Q (.ref p) (upd H p (.lst (aeP k.toNat xs).flatten))
theorem CF{α:Type}(xs:List α)(k:Nat):(aeP k xs).flatten.length=k*xs.length:=by
 induction k with
 | zero=>simp
 | succ k ih=>rw[aaQ,abm,aau,ih,Nat.succ_mul,Nat.add_comm]
theorem YW:OpR X 2.02 rRep:=by
 intro pins s σ H x y v u Q I rx ry h;obtain⟨l,k,xs,rfl,rfl,hH,h1,h2,hz,q⟩:=h;cases rx;obtain⟨t,rfl⟩:=ry;obtain⟨z,its,n,r,hl,e⟩:=I.lstM hH;have hlen:its.toArray.size*k.toNat<=Vj:=by rw[aai,<- hl];exact hz
 have hcap:¬ its.toArray.size*k.toNat>(2^63 - 1) / 8:=by
  have:(Vj:Nat)<=(2^63 - 1) / 8:=by decide
  omega
 have hfit:¬ (!Builtin.List.listFitsIndex k)=true:=by
  rw[fitsIndex_both h1 h2];exact aeQ
 have hlong:¬ Builtin.List.listTooLong (its.toArray.size*k.toNat)=true:=by
  rw[EG hlen];exact aeQ
 have hnew:List.foldl (λx1 x2=>x1++x2) #[] (aeP (if its.toArray.isEmpty=true then 0 else k.toNat) its.toArray)=(aeP k.toNat its).flatten.toArray:=by
  have f0:∀ m:Nat,List.foldl (λx1 x2=>x1++x2) #[] (aeP m its.toArray)=(aeP m its).flatten.toArray:=λm=>by
   have:=AV its m [];rw[acS] at this;exact this
  rw[f0];cases its with
  | nil=>simp
  | cons a r'=>rw[if_neg 0.3]
 refine adF (T:="list") (U:="int") 0.1 ⟨_,e,rfl⟩ (λs'=>adn s' k t) noFill_list_mul F.fills_int_mul acV repeat_list F.slot_int_index.lookup
  (aco acV (adn s k t) F.entry_int_rmul (F.args_int_rmul_2 _ _) (int___rmul___int_list k t l its.toArray n)
   ⟨e,rfl,⟨_,e,rfl⟩,aco F.slot_list_mul ⟨_,e,rfl⟩ F.entry_list_mul (F.args_list_mul_2 _ _) (AutoListH.list___mul___list_int_3 l its.toArray n k t hfit hcap hlong) ⟨e,?_⟩⟩)
 rw[hnew];exact⟨.ref _,_,I.lnew (t':=s.toks) (r.rep k.toNat) (by rw[CF,ads];exact hz),rfl,q _ I.fresh⟩
end
section
variable{κ:Type}[DecidableEq κ]
def Bv(kvs:List (κ×V))(k:κ):Option V:=(kvs.find? λkv=>decide (kv.1=k)).map (·.2)
def zn(kvs:List (κ×V))(k:κ)(v:V):List (κ×V):=
 if (kvs.any λkv=>decide (kv.1=k))=true then kvs.map (λkv=>if kv.1=k then(kv.1,v) else kv) else kvs++[(k,v)]
theorem DH{p:κ×V}{r:List (κ×V)}{k:κ}(e:p.1=k):Bv (p::r) k=Y p.2:=by simp[Bv,abo,e]
theorem DJ{p:κ×V}{r:List (κ×V)}{k:κ}(e:¬ p.1=k):Bv (p::r) k=Bv r k:=by simp[Bv,abo,e]
theorem FD(kvs:List (κ×V))(k:κ)(v:V):(zn kvs k v).length<=kvs.length+1:=by
 unfold zn;split
 ·rw[aaj];omega
 ·rw[aau,aar,List.length_nil];omega
theorem KV.val(r:KV kvs vs)(k:κ):RelO (Bv kvs k) (valueAt vs k):=by
 unfold KV at r
 induction r with
 | nil=>exact True.intro
 | @cons p q ps qs h t ih=>
  obtain⟨h1,h2⟩:=h;by_cases e:p.1=k
  ·have e':q.1=k:=h1.symm.trans e;have b:valueAt (q::qs) k=Y q.2:=by simp[valueAt,abo,e']
   rw[DH e,b];exact h2
  ·have e':¬ q.1=k:=λz=>e (h1.trans z);have b:valueAt (q::qs) k=valueAt qs k:=by simp[valueAt,abo,e']
   rw[DJ e,b];exact ih
theorem KV.any(r:KV kvs vs)(k:κ):(kvs.any λkv=>decide (kv.1=k))=vs.any λkv=>decide (kv.1=k):=by
 unfold KV at r
 induction r with
 | nil=>rfl
 | cons h t ih=>rw[abx,abx,ih,h.1]
theorem KV.repl(r:KV kvs vs)(k:κ)(ry:RelV y u) :
  KV (kvs.map λkv=>if kv.1=k then(kv.1,y) else kv) (vs.map λkv=>if kv.1=k then(kv.1,u) else kv):=by
 unfold KV at r ⊢
 induction r with
 | nil=>exact .nil
 | @cons p q ps qs h t ih=>
  rw[aak,aak];refine .cons ?_ ih;obtain⟨h1,h2⟩:=h;by_cases e:p.1=k
  ·rw[aas e,aas (h1.symm.trans e)];exact⟨h1,ry⟩
  ·rw[if_neg e,if_neg (λz=>e (h1.trans z))];exact⟨h1,h2⟩
theorem KV.put(r:KV kvs vs)(k:κ)(ry:RelV y u):KV (zn kvs k y) (stored vs k u):=by
 unfold zn stored;rw[r.any k];by_cases e:(vs.any λkv=>decide (kv.1=k))=true
 ·rw[aas e,aas e];exact r.repl k ry
 ·rw[if_neg e,if_neg e];exact Paired.snoc r ⟨rfl,ry⟩
theorem KV.length{kvs:List (κ×V)}{vs:List (κ×ce)}(r:KV kvs vs):kvs.length=vs.length:=adV r
end
theorem FH{k:cf}(r:RelV (kV k) u):(da P w).is k u=true:=by
 cases k with
 | inl i=>obtain⟨t,e⟩:=(show ∃ t,u=Value.int i t from r);subst e;exact EM P w i t
 | inr x=>obtain⟨t,e⟩:=(show ∃ t,u=Value.str x t from r);subst e;exact EL P w x t
section
variable{P:Op}{w:Qa}{H:Hp}{h:TF}{a:tx}
theorem rd_of(ok:HOk P w H h)(e:Rd H a u):ObjOk P w H h a u:=e.ok ok
theorem Lh(ok:HOk P w H h)(e:Rd H a 7.2):kvs.length<=Vj/\(a==sysModules)=false/\∃ vs,KV kvs vs/\h.DictOf (da P w) a vs:=
 show ObjOk P w H h a 7.2 from rd_of ok e
theorem RW(ok:HOk P w H h)(e:H a=Y 7.2):kvs.length<=Vj/\(a==sysModules)=false/\∃ vs,KV kvs vs/\h.DictOf (da P w) a vs:=Lh ok (.inl e)
end
def DGet(H:Hp)(a:tx)(y:V)(r:Option V):Prop:=
 ∃ kvs k,Rd H a 7.2/\y=kV k/\r=Bv kvs k
theorem DGet.k{H:Hp}{k:cf}(e:H a=Y 7.2):DGet H a (kV k) (Bv kvs k):=⟨kvs,k,.inl e,rfl,rfl⟩
section
variable{X:Cx}{pins:List (tx×Obj)}{σ:St}{H:Hp}{s:gV}{a:tx}{y v:V}{u r:ce}{o:Option V}{A:SN}{E:ce->gV->Prop}
theorem Inv.big(I:Inv X pins σ H s):sysModules<s.heap.objs.size:=by
 have h:Zs<s.heap.objs.size:=(I.mod.glob.keeps I.bk).lt;exact Nat.lt_trans 0.1 h
theorem Nu{Q:ce->gV->Prop}(hu:A.units+1<cLine)(I:Inv X pins σ H s)(g:DGet H a y (Y v))(ry:RelV y u)(h:∀ w' s',Inv X pins σ H s'->RelV v w'->Q w' s') :
  aeN 0.2 A (getItem (.ref a) u) Q E s:=by
 obtain⟨kvs,k,e,ey,l⟩:=g
 ·subst ey;obtain⟨z,hd,vs,rel,dd⟩:=Lh I.hok e;obtain⟨w',hw,rw'⟩:=RelO.some_of (v:=v) (o:=valueAt vs k) (by rw[l];exact rel.val k);exact wpAny_getItem_of (FH ry) dd.mapOf hw (h w' _ (I.tok _) rw')
theorem Lk{t':Nat}{ob:HO}(I:Inv X pins σ H s)(mu:Mut (H a))(hs:Heap.SameBut a s.heap h')(he:∃ q,h'.get? a=Y q)(new:ObjOk X.prog X.w (upd H a ob) h' a ob) :
  Inv X pins σ (upd H a ob) { s with heap:=h',toks:=t' }:=
 I.write (x:=a) (e:=a) mu 3.7 (λb q hb z=>(hs.2 b hb).trans z) he new
theorem RX{h':TF}{kvs:List (cf×V)}(z:kvs.length<=Vj)(hd:(a==sysModules)=false)(rel:KV kvs vs)(dd:h'.DictOf (da P w) a vs) :
  ObjOk P w H' h' a 7.2:=⟨z,hd,vs,rel,dd⟩
end
theorem GB{s:gV}(I:Inv X pins σ H s)(g:DGet H a y o):s.TypeIs (.ref a) "dict":=by
 obtain⟨kvs,k,e,z,z⟩:=g
 ·obtain⟨z,z,vs,z,dd⟩:=Lh I.hok e;exact dd.typeIs
theorem GA(h:TF)(hb:sysModules<h.objs.size):ObjOk P w H (h.push { cls:=.type "dict",data:=.dict #[] }) h.objs.size (.dK []):=
 ⟨acy _,abj.mpr (Ne.symm (aaM hb)),[],.nil,Heap.DictOf.new h⟩
def Yf:TE:=λz H Q=>∀ p,H p=L->Q (.ref p) (upd H p (.dK []))
section
variable{X:Cx}{pos:Pos}
theorem Pi:PE X (.Dict [] [] pos) Yf:=λpins s σ H Q I h=>
 wpAny_Dict_empty ⟨.ref s.heap.objs.size,_,I.laid (a:=s.heap.objs.size) (o:=.dK []) (t':=s.toks) (λz z q=>aaf _ q) (aal _) (GA s.heap I.big),rfl,h _ 9.1⟩
end
def Bx:List (TE×TE)->St->Hp->(List (V×V)->Hp->Prop)->Prop
 | [],_,H,Q=>Q [] H
 | (tk,tv)::r,σ,H,Q=>tk σ H λx H1=>tv σ H1 λy H2=>Bx r σ H2 λps H3=>Q ((x,y)::ps) H3
noncomputable abbrev VV:List (V×V)->List (ce×ce)->Prop:=Paired λp q=>RelV p.1 q.1/\RelV p.2 q.2
def PPs(X:Cx)(pos:Pos)(keys:List 1.05)(values:List vx)(trs:List (TE×TE)):Prop:=
 ∀ (pins:List (tx×Obj)) (s:gV) (σ:St) (H:Hp) (Q:List (V×V)->Hp->Prop),Inv X pins σ H s->Bx trs σ H Q ->
  aeN 0.2 X.A (evalPairs (pairTrees keys values X.env pos)) (λvs s'=>∃ ps H',Inv X pins σ H' s'/\VV ps vs/\Q ps H') X.xe s
theorem TY:PPs X pos [] [] []:=λpins s σ H Q I h=>pairTrees_nil_walk ⟨[],H,I,.nil,h⟩
theorem OZ{k:vx}(hk:PE X k tk)(hv:PE X v tv)(hr:PPs X pos ks vs trs) :
  PPs X pos (Y k::ks) (v::vs) ((tk,tv)::trs):=λpins s σ H Q I h=>
 pairTrees_cons_walk (dO (hk pins s σ H _ I h) λu s1 ⟨x,H1,I1,rx,q1⟩=>dO (hv pins s1 σ H1 _ I1 q1) λw2 s2 ⟨y,H2,I2,ry,q2⟩=>
  dO (hr pins s2 σ H2 _ I2 q2) λws s3 ⟨ps,H3,I3,rel,q3⟩=>⟨(x,y)::ps,H3,I3,.cons ⟨rx,ry⟩ rel,q3⟩)
def kW(kvs more:List (cf×V)):List (cf×V):=more.foldl (λacc kv=>zn acc kv.1 kv.2) kvs
theorem KV.merge:∀ {more:List (cf×V)} {rs:List (cf×ce)} {kvs:List (cf×V)} {vs:List (cf×ce)},KV more rs->KV kvs vs->KV (kW kvs more) (merged vs rs):=by
 intro more rs kvs vs r;unfold KV at r
 induction r generalizing kvs vs with
 | nil=>intro q;exact q
 | @cons p q ps qs h t ih=>
  intro r0
  have e:KV (zn kvs p.1 p.2) (stored vs q.1 q.2):=by
   have:=r0.put p.1 h.2;rw[<- h.1];exact this
  exact ih e
theorem lZ:∀ (more kvs:List (cf×V)),(kW kvs more).length<=kvs.length+more.length
 | []=>λkvs=>by show kvs.length<=kvs.length+0;omega
 | p::r=>λkvs=>by
  have h1:=lZ r (zn kvs p.1 p.2);have h2:=FD kvs p.1 p.2;show(kW (zn kvs p.1 p.2) r).length<=_;rw[aar];omega
theorem yP:∀ {kvs:List (cf×V)} {ws:List (ce×ce)},VV (kvs.map λkv=>(kV kv.1,kv.2)) ws->∃ rs,Carries (da P w) ws rs/\KV kvs rs
 | [],_,r=>by rw[acF] at r;cases r;exact⟨[],True.intro,.nil⟩
 | p::kvs,_,r=>by
  rw[aak] at r;cases r with
  | @cons a b as bs h t=>
   obtain⟨rs,c,q⟩:=yP (P:=P) (w:=w) t;obtain⟨b1,b2⟩:=b;exact⟨(p.1,b2)::rs,⟨FH h.1,rfl,c⟩,.cons ⟨rfl,h.2⟩ q⟩
def tDisp(trs:List (TE×TE)):TE:=λσ H Q=>∀ p,H p=L->Bx trs σ (upd H p (.dK [])) λps H2=>H2 p=Y (.dK [])/\∃ kvs:List (cf×V),ps=kvs.map (λkv=>(kV kv.1,kv.2))/\kvs.length<=15/\Q (.ref p) (upd H2 p (.dK (kW [] kvs)))
theorem JX{keys:List 1.05}(h:PPs X pos keys values trs)(hall:keys.all (·.isSome)=true)(hl:keys.length=values.length)(h0:keys≠[])
  (h15:keys.length<=15):PE X 1.67 (tDisp trs):=by
 intro pins s σ H Q I q;have hn:=I.hok.fresh (aal s.heap.objs.size);have I1:=I.laid (a:=s.heap.objs.size) (o:=.dK []) (h':=s.heap.push { cls:=.type "dict",data:=.dict #[] }) (t':=s.toks) (λu u q=>aaf _ q) (aal _) (GA s.heap I.big);refine wpAny_Dict_walk (knd:=da X.prog X.w) hall hl h0 h15 (dO (h pins _ σ _ _ I1 (q _ hn)) λws s2 ⟨ps,H2,I2,rel,e,kvs,ep,lk,q2⟩=>?_);subst ep;obtain⟨rs,c,rk⟩:=yP (P:=X.prog) (w:=X.w) rel;obtain⟨z,hd,vs0,r0,dd⟩:=RW I2.hok e;cases r0;refine⟨rs,c,dd,λh' dd' hs=>⟨.ref s.heap.objs.size,_,?_,rfl,q2⟩⟩
 have hz:(kW [] kvs).length<=Vj:=by
  have h1:=lZ kvs [];rw[List.length_nil] at h1;rw[acJ];omega
 have he:∃ q,h'.get? s.heap.objs.size=Y q:=let ⟨q,_,_,hq,_⟩:=dd';⟨q,hq⟩;exact Lk I2 (by rw[e];exact True.intro) hs he (RX hz hd (rk.merge .nil) dd')
def IsD(H:Hp)(a:tx):Prop:=∃ kvs,Rd H a 7.2
theorem qaj{s:gV}(I:Inv X pins σ H s)(d:IsD H a) :
  s.TypeIs (.ref a) "dict"/\(∀ b,Value.ref a=.ref b->∃ ob,s.heap.get? b=Y ob/\ob.dict=L)/\(a==sysModules)=false:=by
 obtain⟨kvs,e⟩:=d;obtain⟨z,hd,vs,z,dd⟩:=Lh I.hok e;refine⟨dd.typeIs,λb q=>?_,hd⟩;cases q;obtain⟨ob,z,z,h1,h2,z⟩:=dd;exact⟨ob,h1,h2.2.1⟩
end L2
namespace Att
open PySem.W PySem.Calls
theorem vP:∀ (ns:List Int) (vs:List ce),WellAll P h vs (ns.map WData.int)->IntsAre vs ns:=by
 intro ns
 induction ns with
 | nil=>
  intro vs w;rw[acF] at w;cases w;exact .nil
 | cons n ns ih=>
  intro vs w;rw[aak] at w;cases w with
  | cons a b=>
   cases a;exact .cons _ _ (ih _ b)
theorem LF{l:OpenLaw}(hn:l.most=Y n)
  (hpre:l.row.toRowW.claim.pre args=true) (hwl:WellAll P h vals args) :
  ∃ a vs ns,vals=[Value.ref a]/\args=[WData.list (ns.map WData.int)]/\h.get? a=Y { cls:=.type "list",data:=.seq vs.toArray }/\IntsAre vs ns/\ns.length<=n:=by
 have hsh:WShape.hasAll [] args [.list .int]=true:=(pre_splitW hpre).1;have hc:l.pre.holds [] { args:=args } = true:=(pre_splitW hpre).2;obtain⟨d,r,rfl,h1,h2⟩:=hasAllW_cons hsh;obtain rfl:=hasAllW_nil h2;obtain⟨xs,rfl,h3⟩:=hasW_list h1;obtain⟨ns,rfl⟩:=items_int h3
 have hlen:ns.length<=n:=by
  unfold OpenLaw.pre at hc
  have h4:(WTm.not (.lt (.lit 0.4) (.len (.arg 0)))).holds [] { args:=[.list 2.6] } = true:=by
   have h4:=(holds_andW hc).1;rw[hn] at h4;exact h4
  have h5:=condW_of h4 (w_not (w_lt w_lit (w_len_list (w_arg rfl))));rw[aaj] at h5;refine Nat.le_of_not_lt λq=>?_;have q':(n:Int)<((ns.length:Nat):Int):=by omega
  first
   | (rw[aao q'] at h5;exact absurd h5 0.1)
   | (simp at h5;omega)
 cases hwl with
 | cons w1 w2=>
  cases w2;cases w1 with
  | list ho hall=>exact⟨_,_,ns,rfl,rfl,ho,vP ns _ hall,hlen⟩
theorem LS(l:OpenLaw)(args:List WData):l.row.toRowW.claim.post args 1.09 args=true:=
 postW_of (r:=l.row.toRowW) (X:=(true==true))
  (show WShape.has [] 1.09 .bool=true by first | rfl | decide | simp[WShape.has,WShape.arms,WShape.armsAll])
  (show(WTm.eq .res (.lit 1.09)).value [] { args:=args,res:=Y 1.09,after:=args } = Y (.bool (true==true)) from w_eq_bool (w_res rfl) w_lit) rfl
theorem GQ{l:OpenLaw}{YP:Qa->TF->Prop}{d:DefRec}
  (hn:l.most=Y n) (hdf:d.params.defaults=[])
  (call:∀ (w:Qa) (s₀ s₁:gV) (mg mb:Str->Option ce) (fa:tx) (o:Obj) (pm cd doc:ce) (a:tx) (vs:List ce) (ns:List Int),
   Ground q loose [] XP w s₀ mg mb s₁.heap->YP w s₁.heap ->
   s₁.heap.get? fa=Y o->o.data=.func (docDef d.name d.params d.body d.scope pm cd doc)->s₁.heap.CodeRec cd d.name->mg d.name=Y 1.57 ->
   s₁.heap.get? a=Y { cls:=.type "list",data:=.seq vs.toArray }->IntsAre vs ns->ns.length<=n->s₁.gens = #[] ->
   codeAny (model l.prog w) callerA (.call 1.57 ⟨[.ref a],[]⟩) (λr s'=>r=.ok (.ret 1.09)/\OldK s₁.heap s'.heap/\s'.os=s₁.os/\AllBare s'.gens) s₁) :
  WalkO q loose XP YP l.row.toRowW d [] (λf vs=>PySem.call f vs):=by
 intro w s₀ s₁ mg mb G Y0 fa o pm cd doc dV kV ho hd hcd hD hmg hg args vals as hpre hlay hrd hwl hlo;obtain rfl:dV=.none:=Dflts.none hD hdf;obtain rfl:kV=.none:=Dflts.noKw hD;obtain⟨a,vs,ns,rfl,rfl,hobj,hints,hlen⟩:=LF hn hpre hwl;refine enter_call (abY (call w s₀ s₁ mg mb fa o pm cd doc a vs ns G Y0 ho (fd_plain hd) hcd hmg hobj hints hlen hg) λr s' hq=>?_);obtain⟨rfl,h2,h3,h4⟩:=hq;exact⟨.inl ⟨.bool true,.bool true,[],rfl,λz=>rfl,.bool true,LS l _,λz=>⟨List.Pairwise.nil,λz hm=>(nomatch hm)⟩⟩,h2,h3,h4⟩
end Att
namespace L2
theorem zV:∀ {vs:List ce} {ns:List Int},IntsAre vs ns->Vals 7.3 vs
 | _,_,.nil=>.nil
 | _,_,.cons n t h=>.cons ⟨t,rfl⟩ (zV h)
def qbt(H:Hp):Prop:=∀ b,H b=L\/∃ o xs,H b=Y (.frz o 2.4)
theorem Ql{K:aeO}{k:Nat}{x:Str}{s₁:gV}{vs:List ce}
  (KX:K.In s₁.heap) (hns:s₁.heap.Ns Zs mg) (hb:s₁.heap.Ns builtinsNs mb) (hbb:∀ x:Str,x≠"__name__"->mb x=bootBuiltins x) (hlim:s₁.heap.NoLimit) (hg:s₁.gens = #[])
  (ha:s₁.heap.get? a=Y { cls:=.type "list",data:=.seq vs.toArray }) (hi:IntsAre vs ns) (hl:ns.length<=Vj) (hr:Room k callerA)
  (F:∀ base:TF,K.In base->base.Ns Zs mg->FnOk P w K mg base CX k fa fd [x] sp) (hbind:∀ (s:gV) (u:ce),BindsTo s fd ⟨[u],[]⟩ [(x,u)])
  (hsp:∀ H:Hp,qbt H->qD K H a 7.3->sp [.ref a] H (λv j=>v=.bl true) λj j j=>False)
  (hCX:∀ H e s',CX [] H s₁ (λj j j=>False) e s'->False) :
  codeAny 1.03 callerA (.call 1.57 ⟨[.ref a],[]⟩) (λr s'=>r=.ok (.ret 1.09)/\OldK s₁.heap s'.heap/\s'.os=s₁.os/\AllBare s'.gens) s₁:=by
 have rv:=zV hi;have lenV:=hi.length
 have core:∀ H:Hp,qbt H->qD K H a 7.3->HOk P w H s₁.heap->(∀ b,H b≠L->b=a)->(H a≠L->K.lookup a=L) ->
   codeAny 1.03 callerA (.call 1.57 ⟨[.ref a],[]⟩) (λr s'=>r=.ok (.ret 1.09)/\OldK s₁.heap s'.heap/\s'.os=s₁.os/\AllBare s'.gens) s₁:=by
  intro H hO hS hok hA hK;have base_of:∀ {b:tx} {o:Obj},s₁.heap.get? b=Y o->H b=L->(CU s₁.heap H).get? b=Y o:=λe n=>QD e n
  have noA:∀ {b:tx} {o:Obj} {es:Array DictEntry} {ep:Nat},s₁.heap.get? b=Y o->o.data=.dict es ep->H b=L:=λ{b o es ep} e d=>by
   cases q:H b with
   | none=>rfl
   | some u=>
    have e':b=a:=hA b (by rw[q];simp);subst e';rw[ha] at e;cases e;have d':Data.seq vs.toArray _=Data.dict es ep:=d;cases d'
  have nsK:∀ {b:tx} {m:Str->Option ce},s₁.heap.Ns b m->(CU s₁.heap H).Ns b m:=λ{b m} ⟨o,es,ep,e,d,r⟩=>⟨o,es,ep,base_of e (noA e d),d,r⟩
  have hKb:K.In (CU s₁.heap H):=λb o e=>base_of (KX b o e) (by
   cases q:H b with
   | none=>rfl
   | some u=>
    have e':b=a:=hA b (by rw[q];simp);subst e'
    rw[hK (by rw[q];simp)] at e;cases e)
  have hM:Mod K mg (CU s₁.heap H):=⟨hKb,nsK hns,⟨mb,nsK hb,hbb⟩,let ⟨mc,h1,h2⟩:=hlim;⟨mc,nsK h1,h2⟩⟩
  have e0:Env0 P w K mg (CU s₁.heap H) callerA [] s₁ H:=⟨rfl,hM,λb o e=>Uy e,ael (ML _ _),trivial,λb hb=>absurd (show b∈([]:List tx) from hb) 0.3,hok,.of_eq hg⟩
  refine abY ((F _ hKb (nsK hns)).run callerA [] s₁ H ⟨[.ref a],[]⟩ [.ref a] [.ref a] _ _ hr e0 (hbind s₁ (.ref a)) (.cons rfl .nil) (hsp H hO hS)) λr s' h=>?_;cases r with
  | error e=>exact(hCX H e s' h).elim
  | ok fl=>
   cases fl with
   | next=>exact False.elim h
   | brk=>exact False.elim h
   | cont=>exact False.elim h
   | ret u=>
    obtain⟨v,H',os,bare,un,hok',r',q⟩:=h;have q':v=.bl true:=q;subst q';obtain rfl:u=Value.bool true:=r';refine⟨rfl,OldK.of_keep λb o e=>?_,os,bare⟩;cases q:H b with
    | none=>exact un.keep b o e q (by intro z;exact absurd (show b∈([]:List tx) from z) 0.3) 0.3
    | some u=>
     rcases hO b with z | ⟨ob,xs,z⟩
     ·rw[q] at z;cases z
     ·have z2:=un.frzs b ob _ z;obtain⟨e1,j⟩:=hok b _ z;obtain⟨e2,j⟩:=hok' b _ z2;rw[e] at e1;cases e1;exact e2
 cases hk:K.lookup a with
 | some o=>
  have e:=KX a o hk;rw[ha] at e;cases e;refine core (λj=>L) (λj=>.inl rfl) (.inr ⟨_,vs.toArray,_,hk,rfl,rfl,rfl,by rw[aai,lenV];exact hl,by simpa using rv⟩) (λb u z=>by have z':(L:Option HO)=Y u:=z;cases z') (λb z=>absurd rfl z) λz=>absurd rfl z
 | none=>
  refine core (λb=>if b=a then Y (.frz { cls:=.type "list",data:=.seq vs.toArray } (.lst 7.3)) else L) (λb=>?_) (.inl (.inr ⟨{ cls:=.type "list",data:=.seq vs.toArray },aas rfl⟩)) (λb u z=>?_) (λb z=>?_) λj=>hk
  ·by_cases hb:b=a
   ·exact .inr ⟨_,_,aas hb⟩
   ·exact .inl (if_neg hb)
  ·by_cases hb:b=a
   ·have z':=(aas hb).symm.trans z;cases z';subst hb;exact⟨ha,by rw[aaj];exact hl,vs,_,rv,ha⟩
   ·have z':=(if_neg hb).symm.trans z;cases z'
  ·by_cases hb:b=a
   ·exact hb
   ·exact absurd (if_neg hb) z
theorem SX{l:W.OpenLaw}{k:Nat}{YP:Qa->TF->Prop}{d:DefRec}{K:Params->aeO}{CX:Qa->NQ}{sp:Qa->Sp}{x:Str}
  (hn:l.most=Y n) (hn2:n<=Vj) (hdf:d.params.defaults=[]) (hr:Room k callerA)
  (hY:∀ (w:Qa) (h:TF),YP w h->(K w.params).In h)
  (F:∀ (w:Qa) (mg:Str->Option ce) (fa:tx) (h:TF),(K w.params).In h->h.Ns Zs mg->mg d.name=Y 1.57 ->
   ∃ fd:FuncData,(∀ (s:gV) (u:ce),BindsTo s fd ⟨[u],[]⟩ [(x,u)]) /\
    ∀ base:TF,(K w.params).In base->base.Ns Zs mg->FnOk l.prog w (K w.params) mg base (CX w) k fa fd [x] (sp w))
  (hsp:∀ (w:Qa) (H:Hp) (a:tx) (ns:List Int),ns.length<=n->qbt H->qD (K w.params) H a 7.3->sp w [.ref a] H (λv z=>v=.bl true) λz z z=>False)
  (hCX:∀ (w:Qa) (H:Hp) (s:gV) (e:ce) (s':gV),CX w [] H s (λz z z=>False) e s'->False) :
  W.WalkO q loose XP YP l.row.toRowW d [] (λf vs=>PySem.call f vs):=by
 refine Att.GQ hn hdf λw s₀ s₁ mg mb fa o pm cd doc a vs ns G Y0 ho hd hcd hmg hobj hints hlen hg=>?_;have KX:=hY w _ Y0;obtain⟨fd,hb,hF⟩:=F w mg fa _ KX G.T.g hmg;exact Ql KX G.T.g G.T.b G.T.builtins G.T.nolimit hg hobj hints (aaD hlen hn2) hr hF hb (λH hO hS=>hsp w H a ns hlen hO hS) λH e s'=>hCX w H s₁ e s'
def gU(s:QO):Arguments:=match s with
 | .FunctionDef _ a _ _ _ _ _ _ _ _=>a
 | _=>{ posonlyargs:=[],args:=[],vararg:=L,kwonlyargs:=[],kw_defaults:=[],kwarg:=L,defaults:=[] }
def aM(s:QO):List QO:=match s with
 | .FunctionDef _ _ b _ _ _ _ _ _ _=>b
 | _=>[]
def aw(s:QO):Scope:=match s with
 | .FunctionDef _ _ _ _ _ _ sc _ _ _=>sc
 | _=>{ kind:=.function,names:=[],isGenerator:=false,isCoroutine:=false }
noncomputable abbrev GX:NQ:=λ_ _ _ _ _ _=>False
noncomputable abbrev E0:XK:=λ_ _ _=>False
theorem Pn:Dx GX X E0:=λz z z z z z z h=>h.elim
structure Fun(K:aeO)(x qual:Str)(st:QO)(f:tx)(fd:FuncData):Prop where
 ex:∃ (oc:ce) (od:Option tx) (kV doc pm:ce) (an:Option tx) (cdv ct:ce) (osl:Array 9.0),
  fd=W.fnOf x qual (gU st) (aM st) (aw st) .none kV doc pm an cdv ct/\K.lookup f=Y ⟨oc,od,.func fd,osl⟩/\W.codeIn K cdv qual=true
 kp:W.keepIn K (.ref f)=true
section
variable{P:Op}{w:Qa}{K:aeO}{mg:Str->Option ce}{base:TF}
theorem Fun.ok{st:QO}{k:Nat}{sp:Sp}(F:Fun K x qual st f fd)(S:aQ N ps (aw st))(len:∀ vs H Q E,sp vs H Q E->vs.length=ps.length)
  (hbody:∀ (cdv:ce) (A:SN) (outer:List Env) (s:gV) (H:Hp) (vs:List V) (Q:VK) (E:XK),Room k (A.deeper (envOfC qual (aw st) s.heap.objs.size f cdv))->sp vs H Q E ->
   ∃ t,PSs (vU GX P w K mg base N qual (aw st) f cdv A outer s H E).nox (aM st) t/\t { nx:=λz H'=>Q .non H',rt:=Q } 1.73 H):FnOk P w K mg base GX (k+1) f fd ps sp:=by
 obtain⟨oc,od,kV,doc,pm,an,cdv,ct,osl,rfl,lk,hcd⟩:=F.ex;refine QN lk hcd S len λA outer s H vs Q E hr hsp=>?_;obtain⟨t,h,q⟩:=hbody cdv A outer s H vs Q E hr hsp;exact⟨t,h.nox,q⟩
theorem Fun.binds{st:QO}{ps:List Str}(F:Fun K x qual st f fd)
  (h:∀ (kV doc pm:ce) (an:Option tx) (cdv ct:ce) (us:List ce),us.length=ps.length->bindArgs 5.1 ⟨us,[]⟩=pure 1.62):Binds K fd ps []:=by
 obtain⟨oc,od,kV,doc,pm,an,cdv,ct,osl,rfl,lk,hcd⟩:=F.ex;exact .all (h kV doc pm an cdv ct)
theorem qao{st:QO}{oc:ce}{od:Option tx}{osl:Array 9.0}{kV:ce}(l:K.lookup f=Y ⟨oc,od,.func 5.1,osl⟩)
  (c:W.codeIn K cdv qual=true) (k:W.keepIn K (.ref f)=true):Fun K x qual st f 5.1:=⟨⟨oc,od,kV,doc,pm,an,cdv,ct,osl,rfl,l,c⟩,k⟩
end
section
variable{X:Cx}
theorem pv(i:Nat)(hN:X.N[i]?=Y x:=by rfl)(hv:Wz X.env.scope x:=by first | exact Or.inl rfl | exact Or.inr (Or.inl rfl) | exact Or.inr (Or.inr rfl))(hd:(x==("__debug__":Str))=false:=by decide)
  (hcd:(x==("__classdict__":Str))=false:=by decide):PE X 5.5 (tVar i):=HL hN hv hd hcd
end
def pP(cells:List (Str×tx)):List (Str×NameKind)->List (Str×tx)->List (Str×tx)
 | [],acc=>acc
 | (n,k)::r,acc=>if k==.free then pP cells r ((n,(cells.lookup n).getD 0)::acc) else pP cells r acc
theorem ko{env:Env}:∀ (names:List (Str×NameKind)) (acc:List (Str×tx)),(∀ x∈names,x.2=.free->(env.cells.lookup x.1).isSome=true) ->
  (forIn names acc λ(x:Str×NameKind) (r:List (Str×tx))=>(do
   if x.2==.free then do let c <- cellOf env x.1;pure (ForInStep.yield ((x.1,c)::r)) else pure 1.39:Sem (ForInStep (List (Str×tx)))))=pure (pP env.cells names acc)
 | []=>λacc z=>rfl
 | (n,k)::r=>λacc h=>by
  rw[List.forIn_cons];cases hk:k==NameKind.free with
  | true=>
   have e:k=.free:=by simpa using hk
   have hs:=h (n,k) aad e;obtain⟨c,hc⟩:=abK.mp hs;have hc':env.cells.lookup n=Y c:=hc;have hce:cellOf env n=pure c:=by unfold cellOf;rw[hc']
   simp only[acn,hce,hc',adw,pure_bind,pP,hk];rw[ko r _ λx hx=>h x 1.30]
  | false=>
   simp only[aaU,abU,pure_bind,pP,hk];exact ko r _ λx hx=>h x 1.30
theorem qU{scope:Scope}{env:Env}(h:∀ x∈scope.names,x.2=.free->(env.cells.lookup x.1).isSome=true):closureFor scope env=pure (pP env.cells scope.names []):=by
 have q:=ko (env:=env) scope.names [] h;unfold closureFor;refine abp ?_ (abp (congrArg (λ(m:Sem (List (Str×tx)))=>m >>= λcs=>pure cs) q) ?_)
 ·rfl
 ·rfl
theorem uH(cells:List (Str×tx)):∀ (names:List (Str×NameKind)) (acc:List (Str×tx)),(∀ x∈names,x.2=.free->(cells.lookup x.1).isSome=true)->(∀ y c,acc.lookup y=Y c->cells.lookup y=Y c) ->
  ∀ y c,(pP cells names acc).lookup y=Y c->cells.lookup y=Y c
 | []=>λz z ha=>ha
 | (n,k)::r=>λacc h ha=>by
  unfold pP;split
  ·rename_i hk;refine uH cells r _ (λx hx=>h x 1.30) λy c e=>?_;rw[acu] at e;split at e
   ·rename_i hy;have hy':y=n:=by simpa using hy
    subst hy';obtain⟨c',hc'⟩:=abK.mp (h (y,k) aad (by simpa using hk));have hc'':cells.lookup y=Y c':=hc';rw[hc''] at e ⊢;exact e
   ·exact ha y c e
  ·exact uH cells r _ (λx hx=>h x 1.30) ha
theorem rQ(cells:List (Str×tx)):∀ (names:List (Str×NameKind)) (acc:List (Str×tx)) (y:Str),(acc.lookup y).isSome=true->((pP cells names acc).lookup y).isSome=true
 | []=>λz z h=>h
 | (n,k)::r=>λacc y h=>by
  unfold pP;split
  ·refine rQ cells r _ y ?_;rw[acu];split
   ·rfl
   ·exact h
  ·exact rQ cells r _ y h
theorem tP(cells:List (Str×tx)):∀ (names:List (Str×NameKind)) (acc:List (Str×tx)) (y:Str),(y,NameKind.free)∈names->((pP cells names acc).lookup y).isSome=true
 | []=>λz z h=>by simp at h
 | (n,k)::r=>λacc y h=>by
  unfold pP;rcases aaC.mp h with e | h
  ·cases e;rw[aas (by rfl)];exact rQ cells r _ _ (by rw[acu];simp)
  ·split
   ·exact tP cells r _ y h
   ·exact tP cells r _ y h
theorem nB{scope:Scope}{env:Env}{y:Str}:∀ {names:List (Str×NameKind)},
  ((names.map λ(n,k)=>if (k==NameKind.free&&env.scope.kind==.function&&env.kindOf n==Y .cell) then(n,NameKind.cell) else(n,k)).lookup y=Y .cell \/
  (names.map λ(n,k)=>if (k==NameKind.free&&env.scope.kind==.function&&env.kindOf n==Y .cell) then(n,NameKind.cell) else(n,k)).lookup y=Y .free) ->
  (∀ x∈names,x.2≠.cell)->(y,NameKind.free)∈names
 | [],h,_=>by simp at h
 | (n,k)::r,h,hc=>by
  have ih:=@nB scope env y r;have hr:∀ x∈r,x.2≠.cell:=λx hx=>hc x 1.30;rw[aak] at h;by_cases hq:(k==NameKind.free&&env.scope.kind==.function&&env.kindOf n==Y .cell)=true
  ·have hk:k=.free:=by
    have:=hq;simp only[aae] at this;simpa using this.1.1
   simp only[hq,acn] at h;simp only[acu] at h;cases hy:y==n with
   | true=>
    have e:y=n:=by simpa using hy
    rw[e,hk];exact aad
   | false=>
    simp only[hy] at h;exact aah _ (ih h hr)
  ·simp only[hq,aaU,abU] at h;simp only[acu] at h;cases hy:y==n with
   | true=>
    simp only[hy] at h;have e:y=n:=by simpa using hy
    rcases h with h | h
    ·exact absurd (aaE h) (hc (n,k) aad)
    ·rw[e,<- aaE h];exact aad
   | false=>
    simp only[hy] at h;exact aah _ (ih h hr)
def ny(X:Cx)(N':List Str)(scope:Scope)(C:tx)(s:gV)(H:Hp)(fp:List tx):Cx:=
 {X with N:=N',s₀:=s,H₀:=H,env:=compEnvC scope (pP X.env.cells scope.names []) C X.env,outer:=X.stack,ex:=fp,fn:=λz=>false,pn:=[],xe:=λz z=>False }
def SU(X:Cx)(ifs:List vx)(t:TT):Prop:=
 ∀ (pins:List (tx×Obj)) (s:gV) (σ:St) (H:Hp) (Q:Bool->Hp->Prop),Inv X pins σ H s->t σ H Q->aeN 0.2 X.A (forIn ifs true λc r=>if r=true then do let ok <- isTrue c X.env (eval c X.env);pure 1.96 else pure 1.39) 1.68 X.xe s
theorem TM:SU X [] (λz H Q=>Q true H):=λz z z H z I h=>wpAny_tests_nil ⟨H,I,h⟩
theorem TL(h:PT X c t):SU X [c] t:=λpins s σ H Q I q=>wpAny_tests_one (h pins s σ H Q I q)
def oH(e tg:vx)(p0:Pos)(ifs:List vx)(d:Nat)(it acc:ce)(env:Env)(bc:Sem Unit):Sem Fin:=do
 standAt p0
 let r <- pyNext it
 match r with
 | none=>pure (Fin.done Flow.next)
 | some v=>do
  letOwnedTupleGo tg it v
  assign tg env v
  let ok <- forIn ifs true λc r=>if r=true then do let ok <- isTrue c env (eval c env);pure 1.96 else pure 1.39
  if ok=true then do bc;again (.compLoop e d it acc env) else again (.compLoop e d it acc env)
def RD(elt:vx)(acc:ce)(env:Env):Sem Unit:=do
 let x <- eval elt env;let _ <- call (.builtin "list.append") [acc,x]
 pure ()
section
variable{prog:Op}{w:Qa}{A:SN}{R:Result->gV->Prop}{s:gV}
theorem pO{e:vx}{d:Nat}(he:e=.ListComp elt gens scope pos)(htn:compTurn e d it acc env=oH e tg p0 ifs d it acc env bc)(I:Nat->gV->Prop)
  (turn:∀ n s,I n s->aeN 1.0 A (pyNext it) (λr s₁=>match r with
   | none=>R (.ok .next) s₁
   | some v=>aeN 1.0 A (letOwnedTupleGo tg it v) (λz s₁'=>aeN 1.0 A (assign tg env v) (λz s₂=>
     aeN 1.0 A (forIn ifs true λc r=>if r=true then do let ok <- isTrue c env (eval c env);pure 1.96 else pure 1.39) (λok s₃=>
      if ok=true then aeN 1.0 A bc (λz s₅=>∃ m,m<n/\I m s₅) (λz z=>False) s₃
      else ∃ m,m<n/\I m s₃) (λz z=>False) s₂) (λz z=>False) s₁') (λz z=>False) s₁) (λz z=>False) s)
  (n:Nat) (h:I n s) :
  codeAny 1.0 A (.compLoop e d it acc env) R s:=by
 refine codeAny_loop rfl I (λn s hI=>?_) n h;subst he;show aeN _ A ((compTurn (.ListComp elt gens scope pos) d it acc env).onRaise (λx=>do noteFrame x env;theTreesLotGoes x)) _ _ s;refine wpAny_noted ?_;rw[htn];refine aab (abF (aab (aaO (turn n s hI) (λr s₁ h₁=>?_) λz z h'=>h'.elim)));cases r with
 | none=>exact aam h₁
 | some v=>
  refine aab (aaO h₁ (λz s₁' h₁'=>?_) λz z h'=>h'.elim);refine aab (aaO h₁' (λz s₂ h₂=>aab (aaO h₂ (λok s₃ h₃=>?_) λz z h'=>h'.elim)) λz z h'=>h'.elim);cases ok with
  | false=>exact aam ⟨rfl,h₃⟩
  | true=>exact aab (aaO h₃ (λz s₅ h₅=>aam ⟨rfl,h₅⟩) λz z h'=>h'.elim)
end
noncomputable abbrev TB:=St->Hp->(St->Hp->Prop)->Prop
def PB(X:Cx)(m:Sem Unit)(tb:TB):Prop:=
 ∀ (pins:List (tx×Obj)) (s:gV) (σ:St) (H:Hp) (Q:St->Hp->Prop),Inv X pins σ H s->tb σ H Q->aeN 0.2 X.A m (λz s'=>∃ σ' H',Inv X pins σ' H' s'/\Q σ' H') X.xe s
def tEm(te:TE)(p:tx):TB:=λσ H Q=>te σ H λy H5=>∃ ys,H5 p=Y 1.77/\ys.length<Vj/\Q σ (upd H5 p (.lst (ys++[y])))
theorem BX(he:PE X elt te):PB X (RD elt (.ref p) X.env) (tEm te p):=λpins s σ H Q I h=>by
 refine aab (dO 4.0 λxv s8 ⟨y,H8,J8,r8,q8⟩=>?_);obtain⟨ys,hy,hz,q9⟩:=q8;refine aab (dO (Aq _ s8 σ H8 (.ref p) [y] (.ref p) [xv] (λz H9=>H9=upd H8 p (.lst (ys++[y]))) J8 rfl (.cons r8 .nil) ⟨_,ys,y,rfl,rfl,hy,hz,rfl⟩) λ_ s9 ⟨_,H9,J9,_,e9⟩=>?_);subst e9;exact aam ⟨_,_,J9,q9⟩
def Hg(J:It)(g:TG)(tt:TT)(tb:TB)(σ:St)(H:Hp)(Q:St->Hp->Prop):Prop:=∃ W:Nat->Nat->St->Hp->Prop,(∃ m,W 0 m σ H)/\∀ i m σ' H',W i m σ' H' ->
 (J.stop i H'/\Q σ' H')\/(J.go i H'/\∀ x H2,J.yld i H' x H2->g x σ' H2 λσ2 H3=>tt σ2 H3 λok H4=>
  if ok=true then tb σ2 H4 λσ3 H5=>∃ m',m'<m/\W (i+1) m' σ3 H5 else ∃ m',m'<m/\W (i+1) m' σ2 H4)
theorem Bh{X:Cx}{e:vx}{d:Nat}
  (hc:X.calm=true) (hx:∀ e s,X.xe e s->False) (hl:e=.ListComp elt gens scope pos) (htn:compTurn e d 6.5 acc X.env=oH e tg p0 ifs d 6.5 acc X.env bc) (hg:PG X tg g) (ht:SU X ifs tt) (hb:PB X bc tb) (T:NM X.prog X.w X.K tg J fp it tn) {s:gV} (I:Inv X pins σ H s) (st:tn 0 s.heap) (f2:∀ b∈fp,uN X pins H b) (h:Hg J g tt tb σ H Q) :
  codeAny 0.2 X.A (.compLoop e d 6.5 acc X.env) (λr s'=>∃ σ' H',r=.ok .next/\Inv X pins σ' H' s'/\Q σ' H') s:=by
 obtain⟨W,⟨m0,w0⟩,turn⟩:=h;have no:∀ e s,X.xe e s->(λ(_:ce) (_:gV)=>False) e s:=hx;have stat:∀ {H':Hp},(∀ b∈fp,H' b=L)->∀ b∈fp,uN X pins H' b:=λhn b hb=>⟨hn b hb,(f2 b hb).2⟩
 refine pO hl htn (λn s'=>∃ i σ' H',Inv X pins σ' H' s'/\tn i s'.heap/\(∀ b∈fp,H' b=L)/\W i n σ' H') ?_ m0 ⟨0,_,_,I,st,λb hb=>(f2 b hb).1,w0⟩;rintro n s3 ⟨i,σ3,H3,J3,st3,fr3,w3⟩;rcases turn i n σ3 H3 w3 with ⟨stop,qn⟩ | ⟨go,step⟩
 ·refine dO (T.done X rfl rfl rfl hc i pins s3 σ3 H3 _ J3 (stat fr3) st3 stop) λr s4 ⟨hr,J4⟩=>?_;subst hr;exact⟨σ3,H3,rfl,J4,qn⟩
 ·refine dO (T.item X rfl rfl rfl hc i pins s3 σ3 H3 _ J3 (stat fr3) st3 go) λr s4 ⟨u,hr,h4⟩=>?_;subst hr;refine dO h4 λ_ s5 ⟨x,H5,J5,r5,y5,st5,fr5⟩=>?_;have J5':=J5.pinned (stat fr5) (T.obj _ _ st5);refine aaO (hg _ s5 σ3 H5 x u _ J5' r5 (step x H5 y5)) (λ_ s6 ⟨σ6,H6,J6,q6⟩=>?_) no;refine aaO (ht _ s6 σ6 H6 _ J6 q6) (λok s7 ⟨H7,J7,q7⟩=>?_) no
  have again:∀ {s':gV} {σ7:St} {H7:Hp},Inv X (pins++xi fp s5.heap) σ7 H7 s'->(∃ m',m'<n/\W (i+1) m' σ7 H7)->∃ m,m<n/\∃ i σ' H',Inv X pins σ' H' s'/\tn i s'.heap/\(∀ b∈fp,H' b=L)/\W i m σ' H':=λ{s' σ7 H7} J7 n7=>by
   obtain⟨m',hm,w7⟩:=n7;refine⟨m',hm,i+1,σ7,H7,J7.unpinned,T.keep _ _ _ st5 λb hb o e=>(J7.pin (b,o) 1.00).1,λb hb=>?_,w7⟩;obtain⟨o,e,d⟩:=T.obj _ _ st5 b hb;exact(J7.pin (b,o) 1.00).2.1
  cases ok with
  | false=>
   rw[if_neg aeQ] at q7 ⊢;exact again J7 q7
  | true=>
   rw[aas rfl] at q7 ⊢;exact aaO (hb _ s7 σ6 H7 _ J7 q7) (λ_ s9 ⟨σ9,H9,J9,q9⟩=>again J9 q9) no
structure BlockOk(X:Cx)(N':List Str)(scope:Scope)(cap:List 4.7):Prop where
 kind:scope.kind=.function
 nocell:∀ x∈scope.names,x.2≠.cell
 names:∀ x∈scope.names,x.2=.local->scope.names.lookup x.1=Y .local
 free:∀ x∈scope.names,x.2=.free->(X.env.kindOf x.1=Y .cell\/X.env.kindOf x.1=Y .free)
 nd:N'.Nodup
 len:cap.length=N'.length
 cap:∀ (j i:Nat),cap[j]?=Y (Y i)->∃ y,N'[j]?=Y y/\X.N[i]?=Y y/\Wz X.env.scope y/\(X.env.kindOf y=Y .cell\/X.env.kindOf y=Y .free)/\((relabel scope X.env).names.lookup y=Y .cell\/(relabel scope X.env).names.lookup y=Y .free)
def σB(cap:List 4.7)(σ:St):St:=cap.map λo=>o.bind λi=>(σ[i]?).join
section
variable{X:Cx}{pins:List (tx×Obj)}{σ:St}{H:Hp}{s:gV}{N':List Str}{scope:Scope}{cap:List (Option Nat)}{C:tx}{fp:List tx}
theorem BlockOk.cells(B:BlockOk X N' scope cap)(ok:X.Ok):∀ x∈scope.names,x.2=.free->(X.env.cells.lookup x.1).isSome=true:=λx hx hf=>by
 obtain⟨c,e⟩:=ok.has x.1 (B.free x hx hf);rw[e];rfl
theorem BlockOk.cl(B:BlockOk X N' scope cap)(ok:X.Ok):∀ y c,(pP X.env.cells scope.names []).lookup y=Y c->X.env.cells.lookup y=Y c:=
 uH _ _ _ (B.cells ok) λy c e=>by simp at e
theorem Inv.notStk(I:Inv X pins σ H s){b:tx}(h1:b≠X.env.locals)(h2:b∉X.fs):b∉AU X.stack:=λz=>(aaC.mp (I.stkSub b z)).elim h1 h2
theorem Inv.block{h4:TF}{tk:Nat}(I:Inv X pins σ H s)(B:BlockOk X N' scope cap)(hfp:∀ b∈fp,uN X pins H b/\b<s.heap.objs.size)(hC:s.heap.objs.size<=C)
  (hk:∀ b o,s.heap.get? b=Y o->h4.get? b=Y o) (hn:h4.Ns C m0):Inv 0.6 [] (σB cap σ) H { s with heap:=h4,toks:=tk }:=by
 have okX:=I.ok;have hcl:=B.cl okX;have cellC:∀ x c,(pP X.env.cells scope.names []).lookup x=Y c->∃ v,s.heap.IsCell c v:=λx c e=>I.cell x c (hcl x c e);have neC:∀ b o,s.heap.get? b=Y o->b≠C:=λb o e=>aaM (aaG (aaq e) hC)
 refine⟨⟨okX.mod,B.kind,okX.glob,okX.blt,hC,λx y c e1 e2=>okX.inj x y c (hcl x c e1) (hcl y c e2),λx hx=>?_,λx c e w=>(by cases e),okX.hd,okX.frames,.inl rfl,λb hb=>⟨λz=>?_,λx c e z=>?_⟩,λb o e=>I.bs b o e,aaD okX.bsz I.sz,λb o e hb=>?_,λb hb z=>?_,I.stack,I.stkFree⟩,
  rfl,I.bare,Un.kept hk,⟨m0,hn,λj y v e1 e2 e3=>?_⟩,λx c e=>?_,I.hok.fresh hC,λx c e=>I.freeC x c (hcl x c e),λp hp=>absurd (show p∈([]:List (tx×Obj)) from hp) 0.3,I.hok.kept hk,?_⟩
 ·have q:=nB (scope:=scope) (env:=X.env) (y:=x) (names:=scope.names) hx B.nocell;exact abK.mp (tP _ _ _ _ q)
 ·have z':b=C:=z;exact absurd (hfp b hb).2 (by rw[z'];exact adP.mpr hC)
 ·exact(hfp b hb).1.2.2.2.2.1 x c (hcl x c e) z
 ·obtain⟨h0,h1,h2,h3,h4',h5⟩:=(hfp b hb).1;rcases h3 with h3 | h3
  ·exact okX.noex b o e h3
  ·have:=(okX.bs b o e).1;exact absurd (aaG (aaq this) h3) (abN _)
 ·obtain⟨h0,h1,h2,h3,h4',h5⟩:=(hfp b hb).1;exact I.notStk h1 h2 z
 ·have e1':N'[j]?=Y y:=e1;unfold σB at e2;rw[abv] at e2;cases ec:cap[j]? with
  | none=>rw[ec] at e2;cases e2
  | some o=>
   rw[ec] at e2;cases o with
   | none=>cases e2
   | some i=>
    obtain⟨y',n1,n2,vis,kx,kb⟩:=B.cap j i ec;rw[e1'] at n1;cases n1;have e2':(σ[i]?).join=Y v:=aaE e2
    have e2'':σ[i]?=Y (Y v):=by
     cases q:σ[i]? with
     | none=>rw[q] at e2';cases e2'
     | some z=>rw[q] at e2';exact congrArg Y e2'
    obtain⟨m,hm,hl⟩:=I.loc;obtain⟨u,ru,lk⟩:=hl i y v n2 e2'' vis;refine⟨u,ru,.inr ⟨kb,?_⟩⟩;rcases lk with ⟨k,_⟩ | ⟨k,c,ec',z⟩
    ·rcases kx with kx | kx
     ·rw[kx] at k;cases k
     ·rw[kx] at k;cases k
    ·have q:=nB (scope:=scope) (env:=X.env) (y:=y) (names:=scope.names) kb B.nocell;obtain⟨c',hc'⟩:=abK.mp (tP X.env.cells scope.names [] y q);have:=hcl y c' hc';rw[ec'] at this;cases this;exact⟨c,hc',z.keeps hk⟩
 ·obtain⟨v,z⟩:=cellC x c e;exact⟨v,z.keeps hk⟩
 ·show(σB cap σ).length=N'.length;unfold σB;rw[aaj,B.len]
theorem Inv.unblock(I:Inv X pins σ H s)(hfp:∀ b∈fp,uN X pins H b)(J:Inv 0.6 pins' σ' Hf s'):Inv X pins σ Hf s':=
 I.call' (ch:=fp) J.os J.base J.hok J.bare λb hb=>by
  obtain⟨h0,h1,h2,h3,h4,h5⟩:=hfp b hb;exact⟨h3,h1,h4,h5⟩
end
def wM(wi:TI)(g:TG)(tt:TT)(tb:tx->TB)(cap:List 4.7):TE:=λσ H Q=>wi σ H λJ H1=>∀ p,H1 p=L->Hg J g tt (tb p) (σB cap σ) (upd H1 p (.lst [])) λz H'=>Q (.ref p) H'
def Oj(wi:TI)(g:TG)(tt:TT)(te:TE)(cap:List 4.7):TE:=wM wi g tt (tEm te) cap
def Behind(X:Cx)(pins:List (tx×Obj))(σ:St)(Q:VK)(acc:ce)(C:tx)(r:Result)(s':gV):Prop:=
 ∃ p Hf m,r=.ok .next/\acc=.ref p/\Inv X pins σ Hf s'/\Q (.ref p) Hf/\s'.heap.Ns C m/\Hf C=L/\C≠X.env.locals/\X.s₀.heap.objs.size<=C/\(∀ x c,X.env.cells.lookup x=Y c->c≠C)/\(∀ q∈X.pn++pins,q.1≠C)
theorem yM{X:Cx}{rest:List Comprehension}{tb:tx->TB}{bc:ce->Env->Sem Unit}
  (hc:X.calm=true) (B:BlockOk X N' scope cap) (hi:PI X tg iter wi) (hg:∀ C s H fp,PG 0.6 tg g) (ht:∀ C s H fp,SU 0.6 ifs tt)
  (htn:∀ it acc env,compTurn (.ListComp elt (⟨tg,iter,ifs,0⟩::rest) scope pos) 0 it acc env=oH (.ListComp elt (⟨tg,iter,ifs,0⟩::rest) scope pos) tg iter.pos ifs 0 it acc env (bc acc env))
  (hb:∀ C s H fp p,PB 0.6 (bc (.ref p) (ny X N' scope C s H fp).env) (tb p)) {s:gV} (I:Inv X pins σ H s) (h:wM wi g tt tb cap σ H Q) {E:ce->gV->Prop} (hE:∀ e s,X.xe e s->E e s) :
  aeN 0.2 X.A (eval iter X.env) (λx s₁=>aeN 0.2 X.A (pyIter x) (λit s₂=>aeN 0.2 X.A (newList []) (λacc s₃=>
   aeN 0.2 X.A (newFunctionEnv scope X.env.globals (pP X.env.cells scope.names []) [] X.env.qual L .none (Y X.env)) (λcenv s₄=>
    codeAny 0.2 X.A (.compStart (.ListComp elt (⟨tg,iter,ifs,0⟩::rest) scope pos) 0 it acc { cenv with scope:=relabel scope X.env }) (Behind X pins σ Q acc cenv.locals) s₄) E s₃) E s₂) E s₁) E s:=by
 refine aaO 1.70 (λv s1 h1=>aaO h1 (λitv s2 h2=>?_) hE) hE;obtain⟨it,fp,tn,J,H1,e,I2,T,st2,f2,hW⟩:=h2;subst e;refine aaS (wpAny_newFunctionEnv B.nocell (by intro y hy;simp at hy) (λh₁ hns₁ hsb₁=>?_) B.kind);dsimp only at hns₁ hsb₁ ⊢;have hp1:H1 s2.heap.objs.size=L:=I2.hok.fresh (aal _);have hL:=hW s2.heap.objs.size hp1
 have I3:Inv X pins σ (upd H1 s2.heap.objs.size (.lst [])) { s2 with heap:=s2.heap.push { cls:=.type "list",dict:=L,data:=.seq ([]:List ce).toArray },toks:=s2.toks }:=
  I2.laid (λb o e=>aaf _ e) (aal _) ⟨acy _,[],_,.nil,aay _ rfl⟩
 generalize hH2:s2.heap.push { cls:=.type "list",dict:=L,data:=.seq ([]:List ce).toArray } = H2 at hns₁ hsb₁ I3 ⊢;have hC:H2.objs.size=s2.heap.objs.size+1:=by rw[<- hH2,acX]
 have ltfp:∀ b∈fp,b<s2.heap.objs.size:=λb hb=>by
  obtain⟨o,e,w⟩:=T.obj _ _ st2 b hb;exact aaq e
 have hf3:∀ b∈fp,uN X pins (upd H1 s2.heap.objs.size (.lst [])) b/\b<H2.objs.size:=λb hb=>by
  obtain⟨a0,a⟩:=f2 b hb;refine⟨⟨?_,a⟩,by rw[hC];exact Nat.lt_succ_of_lt (ltfp b hb)⟩;rw[bh (aaM (ltfp b hb))];exact a0
 have up:∀ b o,H2.get? b=Y o->h₁.get? b=Y o:=λb o e=>hsb₁.extBut b o (aaM (aaq e)) (aaf _ e);have I4:=I3.block (C:=H2.objs.size) (fp:=fp) (h4:=h₁) (tk:=s2.toks+([]:List (Str×ce)).length) B hf3 (aal _) up hns₁;have st4:tn 0 h₁:=T.keep _ _ _ st2 λb hb o e=>up b o (by rw[<- hH2];exact aaf _ e)
 have loop:codeAny 0.2 X.A (.compLoop (.ListComp elt (⟨tg,iter,ifs,0⟩::rest) scope pos) 0 6.5 1.08 (compEnvC scope (pP X.env.cells scope.names []) H2.objs.size X.env))
    (Behind X pins σ Q 1.08 H2.objs.size) { s2 with heap:=h₁,toks:=s2.toks+([]:List (Str×ce)).length }:=by
  refine abY (Bh (X:=ny X N' scope H2.objs.size { s2 with heap:=H2,toks:=s2.toks } (upd H1 s2.heap.objs.size (.lst [])) fp) hc (λw w z=>z) rfl (htn _ _ _) (hg _ _ _ _) (ht _ _ _ _) (hb _ _ _ _ _) T I4 st4 (λb hb=>?_) hL) λr s4 ⟨σ4,H4,hr,J4,qn⟩=>?_
  ·obtain⟨h0,h1,h2,h3,h4',h5⟩:=(hf3 b hb).1;exact⟨h0,aaM (hf3 b hb).2,I3.notStk h1 h2,.inl hb,λx c e=>h4' x c (B.cl I3.ok x c e),λp hp=>absurd (show p∈([]:List (tx×Obj)) from hp) 0.3⟩
  ·obtain⟨m,hm,w⟩:=J4.loc;have IX:=I3.unblock (λb hb=>(hf3 b hb).1) J4;refine⟨_,H4,m,hr,rfl,IX,qn,hm,J4.free,?_,?_,λx c e z=>?_,λq hq z=>?_⟩
   ·exact Ne.symm (aaM I3.lt)
   ·exact I3.sz
   ·obtain⟨v,q⟩:=I3.cell x c e;exact absurd q.lt (by rw[z];exact abN _)
   ·exact absurd (aaq (I3.pin q hq).1) (by rw[z];exact abN _)
 exact codeAny_compStart_list loop (T.self _ 0 _ _ _ st4 loop)
theorem Es{X:Cx}{iter:vx}{rest:List Comprehension}{tb:tx->TB}{bc:ce->Env->Sem Unit}
  (hc:X.calm=true) (B:BlockOk X N' scope cap) (hi:PI X tg iter wi) (hg:∀ C s H fp,PG 0.6 tg g) (ht:∀ C s H fp,SU 0.6 ifs tt) (htn:∀ it acc env,compTurn (.ListComp elt (⟨tg,iter,ifs,0⟩::rest) scope pos) 0 it acc env=oH (.ListComp elt (⟨tg,iter,ifs,0⟩::rest) scope pos) tg iter.pos ifs 0 it acc env (bc acc env))
  (hb:∀ C s H fp p,PB 0.6 (bc (.ref p) (ny X N' scope C s H fp).env) (tb p))
  (hs:∀ x,Yx iter X.env x=pure x:=by intro z;rfl):PE X (.ListComp elt (⟨tg,iter,ifs,0⟩::rest) scope pos) (wM wi g tt tb cap):=by
 intro pins s σ H Q I h;rw[eval_ListComp];refine adL (use:=L) rfl hs (qU (B.cells I.ok)) B.kind B.names ?_;refine aaO (yM hc B hi hg ht htn hb I h λz z x=>x) (λx s1 h1=>aaO h1 (λit s2 h2=>aaO h2 (λacc s3 h3=>aaO h3 (λcenv s4 h4=>abY h4 λr s' hr=>?_) λz z x=>x) λz z x=>x) λz z x=>x) λz z x=>x;obtain⟨p,Hf,m,rfl,rfl,J,q,hn,c1,c2,c3,c4,c5⟩:=hr;exact⟨m,hn,λh' sb=>⟨_,Hf,J.turned (t':=s'.toks) (λb o hb e=>(sb.2 b hb).trans e) c1 c2 (.inr c3) c4 c5,(show RelV (.ref p) (.ref p) from rfl),q⟩⟩
theorem uQ{X:Cx}{iter:vx}{rest:List Comprehension}{spos:Pos}{tb:tx->TB}{bc:ce->Env->Sem Unit}{i:Nat}
  (hN:X.N.Nodup) (hy:X.N[i]?=Y y) (hx:NV X.env.scope y)
  (hc:X.calm=true) (B:BlockOk X N' scope cap) (hi:PI X tg iter wi) (hg:∀ C s H fp,PG 0.6 tg g) (ht:∀ C s H fp,SU 0.6 ifs tt) (htn:∀ it acc env,compTurn (.ListComp elt (⟨tg,iter,ifs,0⟩::rest) scope pos) 0 it acc env=oH (.ListComp elt (⟨tg,iter,ifs,0⟩::rest) scope pos) tg iter.pos ifs 0 it acc env (bc acc env))
  (hb:∀ C s H fp p,PB 0.6 (bc (.ref p) (ny X N' scope C s H fp).env) (tb p))
  (hsw:swapsWith (.ListComp elt (⟨tg,iter,ifs,0⟩::rest) scope pos) 1.02 spos.line X.env=pure true:=by rfl)
  (hs:∀ x,Yx iter X.env x=pure x:=by intro z;rfl) (hf:X.fn y=true\/X.env.scope.names.lookup y=Y .local:=by first | exact .inl rfl | exact .inr rfl | assumption) :
  PS X (.Assign [.Name y py] (.ListComp elt (⟨tg,iter,ifs,0⟩::rest) scope pos) spos) (Om (wM wi g tt tb cap) (KI i)):=by
 intro pins s σ H D I h;rw[exec_Assign_Name_used _ _ _ _ hsw];refine aab (abF (aab ?_));show aeN _ _ (do let _ <- comprehension (.ListComp elt (⟨tg,iter,ifs,0⟩::rest) scope pos) scope X.env _ (newList []) false (eval iter X.env) (Y (assign (.Name y py) X.env))) _ _ s
 refine aab (aaO (adL (use:=Y (assign (.Name y py) X.env)) (Q:=λz s'=>SP X pins D .next s') rfl hs (qU (B.cells I.ok)) B.kind B.names
  (aaO (yM hc B hi hg ht htn hb I h λz z x=>x) (λx s1 h1=>aaO h1 (λit s2 h2=>aaO h2 (λacc s3 h3=>aaO h3 (λcenv s4 h4=>abY h4 λr s' hr=>?_) λz z x=>x) λz z x=>x) λz z x=>x) λz z x=>x))
  (λz s' hq=>aam (aam hq)) λz z e=>e)
 obtain⟨p,Hf,m,rfl,rfl,J,q,hn,c1,c2,c3,c4,c5⟩:=hr;refine wpAny_assign_Name (Ab J hN hy hx (v:=.ref p) rfl (λs2 J2 ⟨a,sb,ha⟩=>?_) hf);refine⟨m,hn.sameBut sb ?_,λh' sb2=>⟨_,Hf,J2.turned (t':=s2.toks) (λb o hb e=>(sb2.2 b hb).trans e) c1 c2 (.inr c3) c4 c5,q⟩⟩;rcases ha with rfl | ha
 ·exact c2
 ·exact Ne.symm (c4 _ _ ha)
theorem Ug{X:Cx}{iter:vx}
  (hc:X.calm=true) (B:BlockOk X N' scope cap) (hi:PI X tg iter wi) (hg:∀ C s H fp,PG 0.6 tg g) (ht:∀ C s H fp,SU 0.6 ifs tt) (he:∀ C s H fp,PE 0.6 elt te)
  (hs:∀ x,Yx iter X.env x=pure x:=by intro z;rfl):PE X (.ListComp elt [⟨tg,iter,ifs,0⟩] scope pos) (Oj wi g tt te cap):=
 Es hc B hi hg ht (λz z z=>compTurn_list ..) (λC s H fp p=>BX (he C s H fp)) hs
theorem HG{X:Cx}{iter:vx}{spos:Pos}{i:Nat}
  (hN:X.N.Nodup) (hy:X.N[i]?=Y y) (hx:NV X.env.scope y)
  (hc:X.calm=true) (B:BlockOk X N' scope cap) (hi:PI X tg iter wi) (hg:∀ C s H fp,PG 0.6 tg g) (ht:∀ C s H fp,SU 0.6 ifs tt) (he:∀ C s H fp,PE 0.6 elt te)
  (hsw:swapsWith (.ListComp elt [⟨tg,iter,ifs,0⟩] scope pos) 1.02 spos.line X.env=pure true:=by rfl)
  (hs:∀ x,Yx iter X.env x=pure x:=by intro z;rfl) (hf:X.fn y=true\/X.env.scope.names.lookup y=Y .local:=by first | exact .inl rfl | exact .inr rfl | assumption) :
  PS X (.Assign [.Name y py] (.ListComp elt [⟨tg,iter,ifs,0⟩] scope pos) spos) (Om (Oj wi g tt te cap) (KI i)):=
 uQ hN hy hx hc B hi hg ht (λz z z=>compTurn_list ..) (λC s H fp p=>BX (he C s H fp)) hsw hs hf
def Gu(x C dx:tx)(h:TF):Prop:=∃ oe vs,h.get? x=Y oe/\oe.cls=.ref C/\oe.dict=Y dx/\oe.data=.fields vs
end L2
namespace M
open L2
def vI:Option Int->V
 | none=>.non
 | some i=>.int i
def Xi(a:tx)(h:TF):Prop:=∃ o,h.get? a=Y o/\o.cls=.type "dict"
inductive D where
 | non
 | bl (b:Bool)
 | int (i:Int)
 | str (x:Str)
 | tup (xs:List D)
 | lst (xs:List D)
 | rol (xs:List D)
 | dct (ks:List cf) (vs:List D)
 | ref (r:Nat)
 | txt
 | obj
 | exc (C:tx) (fl:Str) (i:Option Int)
 | fn (a:tx)
inductive yY where
 | lst (xs:List D)
 | dct (ks:List cf) (vs:List D)
noncomputable abbrev ac:=List yY
structure Fp where
 cs:List tx
 fb:List tx
def Fp.no(μ:Fp)(a:tx):Prop:=a∉μ.cs/\a∉μ.fb
noncomputable abbrev be:=List (Option D)
theorem Kg{α:Type}{N:List α}(hN:N.Nodup){i j:Nat}{x:α}(a:N[i]?=Y x)(b:N[j]?=Y x):i=j:=by
 obtain⟨h1,e1⟩:=aac.mp a;obtain⟨h2,e2⟩:=aac.mp b;exact(List.getElem_inj hN).mp (e1.trans e2.symm)
def KList(K:aeO)(a:tx)(xs:List V):Prop:=∃ (o:Obj) (its:Array ce) (n:Nat),K.lookup a=Y o/\o.cls=.type "list"/\o.dict=L/\o.data=.seq its n/\its.size<=Vj/\Vals xs its.toList
def KTup(K:aeO)(a:tx)(xs:List V):Prop:=∃ (o:Obj) (its:Array ce) (n:Nat),K.lookup a=Y o/\o.cls=.type "tuple"/\o.dict=L/\o.data=.seq its n/\its.size<=Vj/\Vals xs its.toList
mutual
inductive Rep(K:aeO)(μ:Fp)(H:Hp):V->D->Prop
 | non:Rep K μ H .non .non
 | bl (b:Bool):Rep K μ H (.bl b) (.bl b)
 | int (i:Int):Rep K μ H (.int i) (.int i)
 | str (x:Str):Rep K μ H (.str x) (.str x)
 | tup {a:tx} {vs:List V} {ds:List D} (h:H a=Y (.tup vs)) (n:μ.no a) (r:Reps K μ H vs ds):Rep K μ H (.ref a) (.tup ds)
 | ktup {a:tx} {vs:List V} {ds:List D} (h:KTup K a vs) (r:Reps K μ H vs ds):Rep K μ H (.ref a) (.tup ds)
 | lst {a:tx} {vs:List V} {ds:List D} (h:H a=Y 8.2) (n:μ.no a) (r:Reps K μ H vs ds):Rep K μ H (.ref a) (.lst ds)
 | rol {a:tx} {vs:List V} {ds:List D} (h:Rd H a 8.2) (n:μ.no a) (r:Reps K μ H vs ds):Rep K μ H (.ref a) (.rol ds)
 | krol {a:tx} {vs:List V} {ds:List D} (h:KList K a vs) (r:Reps K μ H vs ds):Rep K μ H (.ref a) (.rol ds)
 | dct {a:tx} {kvs:List (cf×V)} {ds:List D} (h:H a=Y 7.2) (n:μ.no a) (r:Reps K μ H (kvs.map (·.2)) ds):Rep K μ H (.ref a) (.dct (kvs.map (·.1)) ds)
 | ref {a:tx} {r:Nat} (h:μ.cs[r]?=Y a):Rep K μ H (.ref a) (.ref r)
 | txt (x:Str):Rep K μ H (.str x) .txt
 | obj {a:tx} (h:H a=Y (.ext (Xi a))) (n:μ.no a):Rep K μ H (.ref a) .obj
 | exc {a dx C:tx} {fl:Str} {i:Option Int} (h:H a=Y (.ext (Gu a C dx))) (n:μ.no a) (h2:H dx=Y (.xd [(fl,vI i)])) (n2:μ.no dx):Rep K μ H (.ref a) (.exc C fl i)
 | fn (a:tx):Rep K μ H (.ref a) (.fn a)
inductive Reps(K:aeO)(μ:Fp)(H:Hp):List V->List D->Prop
 | nil:Reps K μ H [] []
 | cons {v:V} {d:D} {vs:List V} {ds:List D} (h:Rep K μ H v d) (t:Reps K μ H vs ds):Reps K μ H (v::vs) (d::ds)
end
structure Ext(μ:Fp)(H:Hp)(μ':Fp)(H':Hp):Prop where
 fb:μ'.fb = μ.fb
 pre:∃ l,μ'.cs = μ.cs++l/\∀ a∈l,H a=L
 keep:∀ a o,a∉μ.cs->H a=Y o->H' a=Y o
 dom:∀ a∈μ'.cs,H' a≠L
section
variable{K:aeO}{μ μ' μ'':Fp}{H H' H'':Hp}
theorem Ext.stays(e:Ext μ H μ' H')(h:H a=Y o)(n:μ.no a):H' a=Y o/\μ'.no a:=by
 refine⟨e.keep a o n.1 h,λz=>?_,by rw[e.fb];exact n.2⟩;obtain⟨l,q,hl⟩:=e.pre;rw[q] at z;rcases aap.mp z with z | z
 ·exact n.1 z
 ·rw[hl a z] at h;cases h
theorem Ext.keeps(e:Ext μ H μ' H')(h:H a=Y o)(n:a∉μ.cs):H' a=Y o/\a∉μ'.cs:=by
 refine⟨e.keep a o n h,λz=>?_⟩;obtain⟨l,q,hl⟩:=e.pre;rw[q] at z;rcases aap.mp z with z | z
 ·exact n z
 ·rw[hl a z] at h;cases h
theorem Ext.trans(e:Ext μ H μ' H')(f:Ext μ' H' μ'' H''):Ext μ H μ'' H'':=by
 obtain⟨l,q,hl⟩:=e.pre;obtain⟨l',q',hl'⟩:=f.pre;refine⟨f.fb.trans e.fb,⟨l++l',by rw[q',q,aaZ],λa ha=>?_⟩,λa o n h=>?_,f.dom⟩
 ·rcases aap.mp ha with ha | ha
  ·exact hl a ha
  ·have h1:=hl' a ha;cases q2:H a with
   | none=>rfl
   | some o=>
    by_cases hm:a∈μ.cs
    ·exact absurd h1 (e.dom a (by rw[q];exact abb _ hm))
    ·rw[e.keep a o hm q2] at h1;cases h1
 ·have:=e.keeps h n;exact f.keep a o this.2 this.1
theorem Ext.refl(h:∀ a∈μ.cs,H a≠L):Ext μ H μ H:=⟨rfl,⟨[],by simp,λw z=>by simp at z⟩,λw w w h=>h,h⟩
def kids:D->List D
 | .tup xs=>xs
 | .lst xs=>xs
 | .rol xs=>xs
 | .dct _ xs=>xs
 | _=>[]
theorem Rep.to{P:D->Prop}(hc:∀ d,P d->∀ x∈kids d,P x)(hk:∀ {a:tx} {o:HO},H a=Y o->μ.no a->H' a=Y o/\μ'.no a)(hr:∀ {r:Nat} {a:tx},P (.ref r)->μ.cs[r]?=Y a->μ'.cs[r]?=Y a){d:D}(r:Rep K μ H v d):P d->Rep K μ' H' v d:=
 Rep.rec (motive_1:=λv d z=>P d->Rep K μ' H' v d) (motive_2:=λvs ds z=>(∀ d∈ds,P d)->Reps K μ' H' vs ds)
  (λz=>.non) (λb z=>.bl b) (λi z=>.int i) (λx z=>.str x) (λh n z ih p=>.tup (hk h n).1 (hk h n).2 1.26) (λh z ih p=>.ktup h 1.26)
  (λh n z ih p=>.lst (hk h n).1 (hk h n).2 1.26) (λh n z ih p=>.rol (h.imp (λh=>(hk h n).1) λ⟨o,h⟩=>⟨o,(hk h n).1⟩) (h.elim (λh=>(hk h n).2) λ⟨_,h⟩=>(hk h n).2) 1.26) (λh z ih p=>.krol h 1.26)
  (λh n z ih p=>.dct (hk h n).1 (hk h n).2 1.26) (λh p=>.ref (hr p h)) (λx z=>.txt x) (λh n z=>.obj (hk h n).1 (hk h n).2) (λh n h2 n2 z=>.exc (hk h n).1 (hk h n).2 (hk h2 n2).1 (hk h2 n2).2)
  (λa z=>.fn a)
  (λz=>.nil) (λz z i1 i2 p=>.cons (i1 (p _ aad)) (i2 λx hx=>p x 1.30)) r
theorem Reps.ind{Q:List V->List D->Prop}(h0:Q [] [])(h1:∀ {v:V} {d:D} {vs:List V} {ds:List D},Rep K μ H v d->Reps K μ H vs ds->Q vs ds->Q (v::vs) (d::ds)):∀ {vs:List V} {ds:List D},Reps K μ H vs ds->Q vs ds
 | _,_,.nil=>h0
 | _,_,.cons h t=>h1 h t (Reps.ind h0 h1 t)
theorem Reps.to{P:D->Prop}(hR:∀ {v:V} {d:D},Rep K μ H v d->P d->Rep K μ' H' v d)(r:Reps K μ H vs ds):(∀ d∈ds,P d)->Reps K μ' H' vs ds:=
 Reps.ind (Q:=λvs ds=>(∀ d∈ds,P d)->Reps K μ' H' vs ds) (λz=>.nil) (λh z i p=>.cons (hR h (p _ aad)) (i λx hx=>p x 1.30)) r
theorem Rep.imp(hk:∀ {a:tx} {o:HO},H a=Y o->μ.no a->H' a=Y o/\μ'.no a)(hr:∀ {r:Nat} {a:tx},μ.cs[r]?=Y a->μ'.cs[r]?=Y a){d:D}(r:Rep K μ H v d):Rep K μ' H' v d:=Rep.to (P:=λz=>True) (λz z z z=>trivial) hk (λz=>hr) r trivial
theorem Reps.imp(hk:∀ {a:tx} {o:HO},H a=Y o->μ.no a->H' a=Y o/\μ'.no a)(hr:∀ {r:Nat} {a:tx},μ.cs[r]?=Y a->μ'.cs[r]?=Y a)(r:Reps K μ H vs ds):Reps K μ' H' vs ds:=Reps.to (P:=λz=>True) (λr z=>r.imp hk hr) r λz z=>trivial
theorem Dv{l m:List tx}{k:List tx}(q:k=l++m){r:Nat}(h:l[r]?=Y a):k[r]?=Y a:=by
 rw[q,aat (aac.mp h).1];exact h
theorem Ext.ix(e:Ext μ H μ' H'){r:Nat}(h:μ.cs[r]?=Y a):μ'.cs[r]?=Y a:=by
 obtain⟨l,q,z⟩:=e.pre;exact Dv q h
theorem Rep.mono(e:Ext μ H μ' H'){d:D}(r:Rep K μ H v d):Rep K μ' H' v d:=r.imp e.stays e.ix
theorem Reps.mono(e:Ext μ H μ' H')(r:Reps K μ H vs ds):Reps K μ' H' vs ds:=r.imp e.stays e.ix
theorem Reps.length{vs:List V}{ds:List D}(r:Reps K μ H vs ds):vs.length=ds.length:=Reps.ind (Q:=λvs ds=>vs.length=ds.length) rfl (λz z i=>congrArg (· + 1) i) r
theorem Reps.get:∀ {vs:List V} {ds:List D} {i:Nat} {d:D},Reps K μ H vs ds->ds[i]?=Y d->∃ v,vs[i]?=Y v/\Rep K μ H v d
 | _,_,_,_,.nil,e=>by simp at e
 | _,_,0,_,.cons h _,e=>by simp at e;subst e;exact⟨_,rfl,h⟩
 | _,_,i+1,d,.cons _ t,e=>by
  obtain⟨u,h1,h2⟩:=Reps.get (i:=i) (d:=d) t (by simpa using e);exact⟨u,by simpa using h1,h2⟩
theorem Reps.append{ws:List V}(r:Reps K μ H vs ds)(s:Reps K μ H ws es):Reps K μ H (vs++ws) (ds++es):=Reps.ind (Q:=λvs ds=>Reps K μ H (vs++ws) (ds++es)) s (λr z i=>.cons r i) r
theorem Reps.take:∀ {vs:List V} {ds:List D} (n:Nat),Reps K μ H vs ds->Reps K μ H (vs.take n) (ds.take n)
 | _,_,0,_=>.nil
 | _,_,_+1,.nil=>.nil
 | _,_,n+1,.cons r t=>.cons r (Reps.take n t)
theorem Reps.drop:∀ {vs:List V} {ds:List D} (n:Nat),Reps K μ H vs ds->Reps K μ H (vs.drop n) (ds.drop n)
 | _,_,0,r=>r
 | _,_,_+1,.nil=>.nil
 | _,_,n+1,.cons _ t=>Reps.drop n t
theorem Reps.set{d:D}(r:Rep K μ H x d):∀ {vs:List V} {ds:List D} (i:Nat),Reps K μ H vs ds->Reps K μ H (vs.set i x) (ds.set i d)
 | _,_,_,.nil=>.nil
 | _,_,0,.cons _ t=>.cons r t
 | _,_,i+1,.cons q t=>.cons q (Reps.set r i t)
theorem Reps.flat:∀ (k:Nat) {ds:List D},Reps K μ H xs ds->Reps K μ H (aeP k xs).flatten (aeP k ds).flatten
 | 0,_,_=>.nil
 | k+1,_,r=>by rw[aaQ,aaQ,abm,abm];exact r.append (Reps.flat k r)
def CellOk(K:aeO)(μ:Fp)(H:Hp)(a:tx):yY->Prop
 | .lst ds=>∃ vs,H a=Y 8.2/\Reps K μ H vs ds
 | .dct ks ds=>∃ kvs,H a=Y 7.2/\ks=kvs.map (·.1)/\Reps K μ H (kvs.map (·.2)) ds
structure SOk(K:aeO)(μ:Fp)(S:ac)(H:Hp):Prop where
 nd:μ.cs.Nodup
 len:μ.cs.length=S.length
 cell:∀ (r:Nat) (a:tx) (c:yY),μ.cs[r]?=Y a->S[r]?=Y c->CellOk K μ H a c
 fdom:∀ a∈μ.fb,H a≠L
 disj:∀ a∈μ.fb,a∉μ.cs
theorem CellOk.ne_none(h:CellOk K μ H a c):H a≠L:=by
 cases c with
 | lst ds=>obtain⟨vs,h,z⟩:=h;rw[h];simp
 | dct ks ds=>obtain⟨vs,h,z⟩:=h;rw[h];simp
theorem CellOk.mono(e:Ext μ H μ' H')(he:H' a=H a)(h:CellOk K μ H a c):CellOk K μ' H' a c:=by
 cases c with
 | lst ds=>obtain⟨vs,h,r⟩:=h;exact⟨vs,he.trans h,r.mono e⟩
 | dct ks ds=>obtain⟨vs,h,q,r⟩:=h;exact⟨vs,he.trans h,q,r.mono e⟩
theorem SOk.dom(s:SOk K μ S H):∀ a∈μ.cs,H a≠L:=λa ha=>by
 obtain⟨r,hr⟩:=acq.mp ha;have hl:=(aac.mp hr).1;rw[s.len] at hl;exact(s.cell r a S[r] hr (by simp[hl])).ne_none
theorem SOk.ext(s:SOk K μ S H):Ext μ H μ H:=.refl s.dom
theorem SOk.notMem(s:SOk K μ S H)(h:H p=L):μ.no p:=⟨λz=>s.dom p z h,λz=>s.fdom p z h⟩
theorem SOk.laid(s:SOk K μ S H)(h:H p=L):Ext μ H μ 5.2/\SOk K μ S 5.2:=by
 have e:Ext μ H μ 5.2:=⟨rfl,⟨[],by simp,λw z=>by simp at z⟩,λa o' w q=>by rw[bh (cJ q h)];exact q,λa ha=>by
  by_cases z:a=p
  ·subst z;rw[bB];simp
  ·rw[bh z];exact s.dom a ha⟩
 refine⟨e,s.nd,s.len,λr a c h1 h2=>(s.cell r a c h1 h2).mono e ?_,λa ha=>?_,s.disj⟩
 case refine_2=>
  by_cases z:a=p
  ·subst z;rw[bB];simp
  ·rw[bh z];exact s.fdom a ha
 have:=(s.cell r a c h1 h2).ne_none;refine bh λz=>?_;rw[z] at this;exact this h
theorem SOk.alloc(s:SOk K μ S H)(h:H p=L)(r:Reps K μ H vs ds):Ext μ H ⟨μ.cs++[p],μ.fb⟩ (upd H p 8.2)/\SOk K ⟨μ.cs++[p],μ.fb⟩ (S++[.lst ds]) (upd H p 8.2):=by
 have hp:=s.notMem h
 have e:Ext μ H ⟨μ.cs++[p],μ.fb⟩ (upd H p 8.2):=⟨rfl,⟨[p],rfl,λa z=>by rw[aaw.mp z];exact h⟩,λa o' w q=>by rw[bh (cJ q h)];exact q,λa ha=>by
  by_cases z:a=p
  ·subst z;rw[bB];simp
  ·rw[bh z];rcases aap.mp ha with q | q
   ·exact s.dom a q
   ·exact absurd (aaw.mp q) z⟩
 refine⟨e,?_,by simp[s.len],λi a c h1 h2=>?_,λa ha=>?_,λa ha z=>?_⟩
 case refine_3=>
  by_cases z:a=p
  ·subst z;rw[bB];simp
  ·rw[bh z];exact s.fdom a ha
 case refine_4=>
  rcases aap.mp z with q | q
  ·exact s.disj a ha q
  ·rw[aaw.mp q] at ha;exact hp.2 ha
 ·show(μ.cs++[p]).Nodup;rw[acb];exact⟨s.nd,by simp,λa ha b hb=>by rw[aaw.mp hb];rintro rfl;exact hp.1 ha⟩
 ·have h1:(μ.cs++[p])[i]?=Y a:=h1;by_cases hi:i < μ.cs.length
  ·rw[aat hi] at h1;rw[aat (by rw[<- s.len];exact hi)] at h2;have q:=s.cell i a c h1 h2;refine q.mono e (bh λz=>?_);exact hp.1 (z ▸ aaA h1)
  ·have hl:i = μ.cs.length:=by
    have:=(aac.mp h1).1;simp at this;omega
   subst hl;rw[abt (aal _)] at h1;rw[s.len,abt (aal _)] at h2;simp at h1 h2;subst h1 h2;exact⟨vs,bB,r.mono e⟩
theorem SOk.write(s:SOk K μ S H){i:Nat}(hi:μ.cs[i]?=Y a)(h:H a=Y 8.2)(r:Reps K μ H vs' ds):Ext μ H μ 1.87/\SOk K μ (S.set i (.lst ds)) 1.87:=by
 have ha:=aaA hi
 have e:Ext μ H μ 1.87:=⟨rfl,⟨[],by simp,λw z=>by simp at z⟩,λb o' n q=>by rw[bh (by rintro rfl;exact n ha)];exact q,λb hb=>by
  by_cases z:b=a
  ·subst z;rw[bB];simp
  ·rw[bh z];exact s.dom b hb⟩
 refine⟨e,s.nd,by simp[s.len],λj b c h1 h2=>?_,λb hb=>?_,s.disj⟩
 case refine_2=>
  by_cases z:b=a
  ·subst z;rw[bB];simp
  ·rw[bh z];exact s.fdom b hb
 by_cases hj:j=i
 ·subst hj;rw[hi] at h1;cases h1;have hl:j<S.length:=by rw[<- s.len];exact(aac.mp hi).1
  rw[aaL hl] at h2;cases h2;exact⟨vs',bB,r.mono e⟩
 ·rw[aaF 1.16] at h2;refine(s.cell j b c h1 h2).mono e (bh λz=>hj ?_);subst z;exact Kg s.nd h1 hi
inductive EOk(K:aeO)(μ:Fp)(H:Hp):L2.St->be->Prop
 | nil:EOk K μ H [] []
 | no {x:Option V} {σ:L2.St} {env:be} (t:EOk K μ H σ env):EOk K μ H (x::σ) (L::env)
 | yes {v:V} {d:D} {σ:L2.St} {env:be} (h:Rep K μ H v d) (t:EOk K μ H σ env):EOk K μ H (Y v::σ) (Y d::env)
theorem EOk.to(hR:∀ {v:V} {d:D},Rep K μ H v d->Rep K μ' H' v d)(h:EOk K μ H σ env):EOk K μ' H' σ env:=by
 induction h with
 | nil=>exact .nil
 | no _ ih=>exact .no ih
 | yes h _ ih=>exact .yes (hR h) ih
theorem EOk.mono(e:Ext μ H μ' H')(h:EOk K μ H σ env):EOk K μ' H' σ env:=h.to (·.mono e)
theorem EOk.get:∀ {σ:L2.St} {env:be} {i:Nat} {d:D},EOk K μ H σ env->env[i]?=Y (Y d)->∃ v,σ[i]?=Y (Y v)/\Rep K μ H v d
 | _,_,_,_,.nil,h=>by simp at h
 | _,_,0,_,.no _,h=>by simp at h
 | _,_,0,_,.yes h _,q=>by simp at q;subst q;exact⟨_,rfl,h⟩
 | _,_,i+1,d,.no t,h=>by
  obtain⟨v,h1,h2⟩:=EOk.get (i:=i) (d:=d) t (by simpa using h);exact⟨v,by simpa using h1,h2⟩
 | _,_,i+1,d,.yes _ t,h=>by
  obtain⟨v,h1,h2⟩:=EOk.get (i:=i) (d:=d) t (by simpa using h);exact⟨v,by simpa using h1,h2⟩
theorem EOk.set{d:D}(r:Rep K μ H v d):∀ {σ:L2.St} {env:be} (i:Nat),EOk K μ H σ env->EOk K μ H (σ.set i (Option.some v)) (env.set i (Option.some d))
 | _,_,_,.nil=>.nil
 | _,_,0,.no t=>.yes r t
 | _,_,0,.yes _ t=>.yes r t
 | _,_,i+1,.no t=>.no (EOk.set r i t)
 | _,_,i+1,.yes h t=>.yes h (EOk.set r i t)
theorem EOk.start{N:Nat}:∀ {vs:List V} {ds:List D},Reps K μ H vs ds->EOk K μ H (vs.map Option.some++aeP N Option.none) (ds.map Option.some++aeP N Option.none)
 | _,_,.nil=>by
  induction N with
  | zero=>exact .nil
  | succ n ih=>exact .no ih
 | _,_,.cons h t=>.yes h (EOk.start t)
theorem EOk.block(h:EOk K μ H σ env):∀ (cap:List 4.7),EOk K μ H (σB cap σ) (cap.map λo=>o.bind λi=>(env[i]?).join)
 | []=>.nil
 | Option.none::r=>.no (EOk.block h r)
 | Option.some i::r=>by
  show EOk K μ H ((σ[i]?).join::σB r σ) ((env[i]?).join::_);cases q:(env[i]?).join with
  | none=>exact .no (EOk.block h r)
  | some d=>
   have q':env[i]?=Option.some (Option.some d):=by
    cases z:env[i]? with
    | none=>rw[z] at q;cases q
    | some y=>rw[z] at q;exact congrArg Option.some q
   obtain⟨v,h1,h2⟩:=h.get q';rw[h1];exact .yes h2 (EOk.block h r)
theorem Ki{p:tx}{cs fb:List tx}(n:(⟨cs,p::fb⟩:Fp).no a):(⟨cs,fb⟩:Fp).no a:=⟨n.1,λz=>n.2 (aah _ z)⟩
theorem Rep.less{p:tx}{cs fb:List tx}{d:D}(r:Rep K ⟨cs,p::fb⟩ H v d):Rep K ⟨cs,fb⟩ H v d:=r.imp (λh n=>⟨h,Ki n⟩) λh=>h
theorem Reps.less{p:tx}{cs fb:List tx}{d:List D}(r:Reps K ⟨cs,p::fb⟩ H v d):Reps K ⟨cs,fb⟩ H v d:=r.imp (λh n=>⟨h,Ki n⟩) λh=>h
theorem Kh{cs fb:List tx}(hp:H p=L)(h:H a=Y o')(n:(⟨cs,fb⟩:Fp).no a):upd H p o a=Y o'/\(⟨cs,p::fb⟩:Fp).no a:=⟨(bh (cJ h hp)).trans h,n.1,λz=>(aaC.mp z).elim (cJ h hp) n.2⟩
theorem Rep.more{cs fb:List tx}(hp:H p=L){d:D}(r:Rep K ⟨cs,fb⟩ H v d):Rep K ⟨cs,p::fb⟩ 5.2 v d:=r.imp (Kh hp) λh=>h
theorem Reps.more{cs fb:List tx}(hp:H p=L){d:List D}(r:Reps K ⟨cs,fb⟩ H v d):Reps K ⟨cs,p::fb⟩ 5.2 v d:=r.imp (Kh hp) λh=>h
theorem Fp.no.ne{μ:Fp}{p:tx}(n:μ.no a)(hp:p∈μ.fb):a≠p:=λz=>n.2 (by rw[z];exact hp)
theorem Rep.chg{p:tx}(hp:p∈μ.fb){d:D}(r:Rep K μ H v d):Rep K μ 5.2 v d:=r.imp (λh n=>⟨(bh (n.ne hp)).trans h,n⟩) λh=>h
theorem Reps.chg{p:tx}(hp:p∈μ.fb){d:List D}(r:Reps K μ H v d):Reps K μ 5.2 v d:=r.imp (λh n=>⟨(bh (n.ne hp)).trans h,n⟩) λh=>h
theorem EOk.more{cs fb:List tx}(hp:H p=L)(h:EOk K ⟨cs,fb⟩ H σ env):EOk K ⟨cs,p::fb⟩ 5.2 σ env:=h.to (·.more hp)
theorem EOk.chg{p:tx}(hp:p∈μ.fb)(h:EOk K μ H σ env):EOk K μ 5.2 σ env:=h.to (·.chg hp)
theorem CellOk.upd{p a:tx}(μ':Fp)(hpa:a≠p)(h:CellOk K μ H a c)(f:∀ vs ds,Reps K μ H vs ds->Reps K μ' 5.2 vs ds):CellOk K μ' 5.2 a c:=by
 cases c with
 | lst ds=>obtain⟨vs,h,r⟩:=h;exact⟨vs,(bh hpa).trans h,f _ _ r⟩
 | dct ks ds=>obtain⟨vs,h,q,r⟩:=h;exact⟨vs,(bh hpa).trans h,q,f _ _ r⟩
theorem SOk.less{p:tx}{cs fb:List tx}(s:SOk K ⟨cs,p::fb⟩ S H):SOk K ⟨cs,fb⟩ S H:=
 ⟨s.nd,s.len,λr a c h1 h2=>by
  have:=s.cell r a c h1 h2;cases c with
  | lst ds=>obtain⟨vs,h,r⟩:=this;exact⟨vs,h,r.less⟩
  | dct ks ds=>obtain⟨vs,h,q,r⟩:=this;exact⟨vs,h,q,r.less⟩,λa ha=>s.fdom a (aah _ ha),λa ha=>s.disj a (aah _ ha)⟩
theorem SOk.more{cs fb:List tx}(s:SOk K ⟨cs,fb⟩ S H)(hp:H p=L):SOk K ⟨cs,p::fb⟩ S 5.2:=by
 have hn:=s.notMem hp;refine⟨s.nd,s.len,λr a c h1 h2=>(s.cell r a c h1 h2).upd _ (λz=>?_) λvs ds r=>r.more hp,λa ha=>?_,λa ha z=>?_⟩
 ·exact hn.1 (z ▸ aaA h1)
 ·by_cases z:a=p
  ·subst z;rw[bB];simp
  ·rw[bh z];exact s.fdom a ((aaC.mp ha).resolve_left z)
 ·rcases aaC.mp ha with rfl | ha
  ·exact hn.1 z
  ·exact s.disj a ha z
theorem SOk.chg{p:tx}(s:SOk K μ S H)(hp:p∈μ.fb):SOk K μ S 5.2:=by
 refine⟨s.nd,s.len,λr a c h1 h2=>(s.cell r a c h1 h2).upd _ (λz=>?_) λvs ds r=>r.chg hp,λa ha=>?_,s.disj⟩
 ·exact s.disj p hp (z ▸ aaA h1)
 ·by_cases z:a=p
  ·subst z;rw[bB];simp
  ·rw[bh z];exact s.fdom a ha
end
noncomputable abbrev ME:=be->ac->Option (D×ac)
noncomputable abbrev MT:=be->ac->Option (Bool×ac)
noncomputable abbrev MA:=be->ac->Option (List D×ac)
inductive qW where
 | nx (env:be) (S:ac)
 | rt (d:D) (S:ac)
 | bk (env:be) (S:ac)
 | ct (env:be) (S:ac)
noncomputable abbrev MS:=be->ac->Option qW
def Post(K:aeO)(μ:Fp)(H:Hp)(S':ac)(d:D)(Q:VK):Prop:=∀ v H' μ',Ext μ H μ' H'->SOk K μ' S' H'->Rep K μ' H' v d->Q v H'
def PostT(K:aeO)(μ:Fp)(H:Hp)(S':ac)(b:Bool)(Q:Bool->Hp->Prop):Prop:=∀ H' μ',Ext μ H μ' H'->SOk K μ' S' H'->Q b H'
def PostA(K:aeO)(μ:Fp)(H:Hp)(S':ac)(ds:List D)(Q:List V->Hp->Prop):Prop:=∀ vs H' μ',Ext μ H μ' H'->SOk K μ' S' H'->Reps K μ' H' vs ds->Q vs H'
def PostN(K:aeO)(μ:Fp)(H:Hp)(S':ac)(env':be)(Q:L2.St->Hp->Prop):Prop:=∀ σ' H' μ',Ext μ H μ' H'->SOk K μ' S' H'->EOk K μ' H' σ' env'->Q σ' H'
def PostS(K:aeO)(μ:Fp)(H:Hp)(o:qW)(E:rS):Prop:=match o with
 | .nx env' S'=>PostN K μ H S' env' E.nx
 | .rt d S'=>Post K μ H S' d E.rt
 | .bk env' S'=>PostN K μ H S' env' E.bk
 | .ct env' S'=>PostN K μ H S' env' E.ct
inductive tM(K:aeO)(m:ME)(σ:L2.St)(H:Hp)(Q:VK):Prop
 | mk (μ:Fp) (S:ac) (env:be) (d:D) (S':ac) (hS:SOk K μ S H) (hE:EOk K μ H σ env) (h:m env S=Y (d,S')) (post:Post K μ H S' d Q)
inductive DB(K:aeO)(m:MT)(σ:L2.St)(H:Hp)(Q:Bool->Hp->Prop):Prop
 | mk (μ:Fp) (S:ac) (env:be) (b:Bool) (S':ac) (hS:SOk K μ S H) (hE:EOk K μ H σ env) (h:m env S=Y (b,S')) (post:PostT K μ H S' b Q)
inductive tMA(K:aeO)(m:MA)(σ:L2.St)(H:Hp)(Q:List V->Hp->Prop):Prop
 | mk (μ:Fp) (S:ac) (env:be) (ds:List D) (S':ac) (hS:SOk K μ S H) (hE:EOk K μ H σ env) (h:m env S=Y (ds,S')) (post:PostA K μ H S' ds Q)
inductive Ye(K:aeO)(m:MS)(E:rS)(σ:L2.St)(H:Hp):Prop
 | mk (μ:Fp) (S:ac) (env:be) (o:qW) (hS:SOk K μ S H) (hE:EOk K μ H σ env) (h:m env S=Y o) (post:PostS K μ H o E)
inductive pY(K:aeO)(f:ac->D->D->Option D)(x y:V)(H:Hp)(Q:VK):Prop
 | mk (μ:Fp) (S:ac) (dx dy dz:D) (hS:SOk K μ S H) (h1:Rep K μ H x dx) (h2:Rep K μ H y dy) (h3:f S dx dy=Y dz) (post:Post K μ H S dz Q)
inductive rM1(K:aeO)(f:ac->D->Option D)(x:V)(H:Hp)(Q:VK):Prop
 | mk (μ:Fp) (S:ac) (dx dz:D) (hS:SOk K μ S H) (h1:Rep K μ H x dx) (h3:f S dx=Y dz) (post:Post K μ H S dz Q)
inductive NR(K:aeO)(f:List D->ac->Option (D×ac))(vs:List V)(H:Hp)(Q:VK):Prop
 | mk (μ:Fp) (S:ac) (ds:List D) (d:D) (S':ac) (hS:SOk K μ S H) (h1:Reps K μ H vs ds) (h3:f ds S=Y (d,S')) (post:Post K μ H S' d Q)
def DE(X:Cx)(e:vx)(m:ME):Prop:=PE X e (tM X.K m)
def DT(X:Cx)(e:vx)(m:MT):Prop:=PT X e (DB X.K m)
def DW(X:Cx)(e:vx)(m:MT):Prop:=PW X e (DB X.K m)
def DA(X:Cx)(es:List vx)(m:MA):Prop:=PA X es (tMA X.K m)
def DS(X:Cx)(st:QO)(m:MS):Prop:=PS X st (Ye X.K m)
def zQ(X:Cx)(st:List QO)(m:MS):Prop:=PSs X st (Ye X.K m)
section
variable{X:Cx}{K:aeO}{μ μ':Fp}{H H':Hp}{S S':ac}
theorem Post.ext{d:D}(e:Ext μ H μ' H')(p:Post K μ H S' d Q):Post K μ' H' S' d Q:=λv H2 μ2 e2 s r=>p v H2 μ2 (e.trans e2) s r
theorem Post.here{d:D}(p:Post K μ H S d Q)(s:SOk K μ S H)(r:Rep K μ H v d):Q v H:=p v H μ s.ext s r
theorem PE.imp{t':TE}(h:PE X e t)(i:∀ σ H Q,t' σ H Q->t σ H Q):PE X e t':=λpins s σ H Q I q=>h pins s σ H Q I 1.74
theorem PT.imp{t':TT}(h:PT X e t)(i:∀ σ H Q,t' σ H Q->t σ H Q):PT X e t':=λpins s σ H Q I q=>h pins s σ H Q I 1.74
theorem PW.imp{t':TT}(h:PW X e t)(i:∀ σ H Q,t' σ H Q->t σ H Q):PW X e t':=λw pins s σ H Q I q=>h w pins s σ H Q I 1.74
theorem PA.imp{t':TA}(h:PA X e t)(i:∀ σ H Q,t' σ H Q->t σ H Q):PA X e t':=λpos pins s σ H Q I q=>h pos pins s σ H Q I 1.74
theorem PS.imp{t':TS}(h:PS X e t)(i:∀ E σ H,t' E σ H->t E σ H):PS X e t':=λpins s σ H E I q=>h pins s σ H E I (i E σ H q)
theorem PSs.imp{t':TS}(h:PSs X e t)(i:∀ E σ H,t' E σ H->t E σ H):PSs X e t':=λpins s σ H E I q=>h pins s σ H E I (i E σ H q)
theorem OpR.imp{r':R2}(h:OpR X f r)(i:∀ x y H Q,r' x y H Q->r x y H Q):OpR X f r':=λpins s σ H x y v u Q I rx ry q=>h pins s σ H x y v u Q I rx ry (i x y H Q q)
theorem UnR.imp{r':V->Hp->VK->Prop}(h:UnR X f r)(i:∀ x H Q,r' x H Q->r x H Q):UnR X f r':=λpins s σ H x v Q I rx q=>h pins s σ H x v Q I rx (i x H Q q)
theorem CallR.imp{r':List V->Hp->VK->Prop}(h:CallR X f r)(i:∀ x H Q,r' x H Q->r x H Q):CallR X f r':=λpins s σ H x v Q I rx q=>h pins s σ H x v Q I rx (i x H Q q)
theorem IxR.imp{r':R2}(h:IxR X r)(i:∀ x y H Q,r' x y H Q->r x y H Q):IxR X r':=λva sl pins s σ H x y v u Q I rx ry q=>h va sl pins s σ H x y v u Q I rx ry (i x y H Q q)
def af(i:Nat):ME:=λenv S=>(env[i]?).join.bind λd=>Y (d,S)
def mC(d:D):ME:=λz S=>Y (d,S)
theorem Mz{α:Type}{o:Option (Option α)}{a:α}(h:o.join=Y a):o=Y (Y a):=by
 cases o with
 | none=>cases h
 | some o=>exact congrArg Y h
theorem qaX{i:Nat}(hN:X.N[i]?=Y x)(hv:Wz X.env.scope x)(hd:(x==("__debug__":Str))=false:=by decide)(hcd:(x==("__classdict__":Str))=false:=by decide):DE X 5.5 (af i):=
 PE.imp (HL hN hv hd hcd) λσ H Q z0=>by
  obtain⟨μ,S,env,d,S',hS,hE,hm,post⟩:=z0;obtain⟨d',h1,h2⟩:=aaa.mp hm;cases h2;obtain⟨v,e,r⟩:=hE.get (Mz h1);exact⟨v,e,post.here hS r⟩
theorem pL{d:D}(h:PE X e (tC v))(r:∀ μ H,Rep X.K μ H v d):DE X e (mC d):=
 PE.imp h λσ H Q ⟨μ,S,env,d',S',hS,hE,hm,post⟩=>by cases hm;exact post.here hS (r μ H)
theorem qb6{j pos}:DE X (.Constant (.int i) j pos) (mC (.int i)):=pL YQ λz z=>.int i
theorem Xz{b j pos}:DE X (.Constant 1.61 j pos) (mC (.bl b)):=pL pe_bl λz z=>.bl b
theorem qb3{j pos}:DE X (.Constant .none j pos) 1.9:=pL YO λz z=>.non
theorem qb0{x j pos}:DE X 1.42 (mC (.str x)):=pL YK λz z=>.str x
structure GC(K:aeO)(mg:Str->Option ce)(x:Str)(d:D):Prop where
 ex:∃ u v,mg x=Y u/\RelV v u/\∀ μ H,Rep K μ H v d
theorem VX{d:D}(g:GC X.K X.mg x d)(hg:Gl X x:=by rfl)(hd:(x==("__debug__":Str))=false:=by decide):DE X 5.5 (mC d):=by
 obtain⟨u,v,h1,h2,h3⟩:=g.ex;exact pL (BW hg h1 h2 hd) h3
def ay(f:ac->D->D->Option D)(a b:ME):ME:=λenv S=>(a env S).bind λp=>(b env p.2).bind λq=>(f q.2 p.1 q.1).bind λz=>Y (z,q.2)
theorem PU{S S':ac}{d:D}(h:ay f a b env S=Y (d,S')):∃ x S1 y,a env S=Y (x,S1)/\b env S1=Y (y,S')/\f S' x y=Y d:=by
 obtain⟨⟨x,S1⟩,h1,h⟩:=aaa.mp h;obtain⟨⟨y,S2⟩,h2,h⟩:=aaa.mp h;obtain⟨z,h3,h⟩:=aaa.mp h;cases h;exact⟨x,S1,y,h1,h2,h3⟩
theorem By(h:tM K (ay f ma mb) σ H Q):tOp (pY K f) (tM K ma) (tM K mb) σ H Q:=by
 obtain⟨μ,S,env,d,S',hS,hE,hm,post⟩:=h;obtain⟨x,S1,y,h1,h2,h3⟩:=PU hm;exact⟨μ,S,env,x,S1,hS,hE,h1,λv H1 μ1 e1 s1 r1=>⟨μ1,S1,env,y,S',s1,hE.mono e1,h2,λw H2 μ2 e2 s2 r2=>⟨μ2,S',x,y,d,s2,r1.mono e2,r2,h3,(post.ext e1).ext e2⟩⟩⟩
section
variable{a b c:vx}{ma mb mc:ME}{pos:Pos}
theorem Bg(ho:OpR X (aeM op) 1.49)(ha:DE X a ma)(hb:DE X b mb):DE X 2.07 (ay f ma mb):=
 PE.imp (pe_op ho ha hb) λz z z h=>By h
theorem qb8(ho:OpR X (aeL op) 1.49)(ha:DE X a ma)(hb:DE X b mb)(hm:behindInMarks op b=false):DE X (.Compare a [op] [b] pos) (ay f ma mb):=
 PE.imp (Uh ho ha hb hm) λz z z h=>By h
def aF(m:ME):MT:=λenv S=>(m env S).bind λp=>match p.1 with | .bl k=>Y (k,p.2) | _=>L
theorem xL{S S':ac}{k:Bool}(h:aF m env S=Y (k,S')):m env S=Y (.bl k,S'):=by
 obtain⟨⟨x,S1⟩,h1,h⟩:=aaa.mp h;cases x<;>first | (cases h;exact h1) | cases h
theorem Rep.bl_inv{k:Bool}(h:Rep K μ H v (.bl k)):v=.bl k:=by cases h;rfl
theorem Rep.int_inv{k:Int}(h:Rep K μ H v (.int k)):v=.int k:=by cases h;rfl
theorem Rep.str_inv{k:Str}(h:Rep K μ H v (.str k)):v=.str k:=by cases h;rfl
theorem qaQ(ho:OpR X (aeL op) 1.49)(ha:DE X a ma)(hb:DE X b mb)(hm:behindInMarks op b=false):DT X (.Compare a [op] [b] pos) (aF (ay f ma mb)):=
 PT.imp (TN ho ha hb hm) λσ H Q z0=>by
  obtain⟨μ,S,env,k,S',hS,hE,hm,post⟩:=z0;have h:=xL hm;refine By ⟨μ,S,env,_,S',hS,hE,h,λv H' μ' e s r=>?_⟩;exact⟨k,r.bl_inv,post H' μ' e s⟩
def dA(f g:ac->D->D->Option D)(a b c:ME):ME:=λenv S=>(a env S).bind λp=>(b env p.2).bind λq=>(f q.2 p.1 q.1).bind λz=>match z with
 | .bl true=>(c env q.2).bind λr=>(g r.2 q.1 r.1).bind λz=>Y (z,r.2)
 | .bl false=>Y (.bl false,q.2)
 | _=>L
theorem zZ(h:tM K (dA f g ma mb mc) σ H Q):Hh (pY K f) (pY K g) (tM K ma) (tM K mb) (tM K mc) σ H Q:=by
 obtain⟨μ,S,env,d,S',hS,hE,hm,post⟩:=h;obtain⟨⟨x,S1⟩,h1,hm⟩:=aaa.mp hm;obtain⟨⟨y,S2⟩,h2,hm⟩:=aaa.mp hm;obtain⟨z,h3,hm⟩:=aaa.mp hm;refine⟨μ,S,env,x,S1,hS,hE,h1,λv H1 μ1 e1 s1 r1=>⟨μ1,S1,env,y,S2,s1,hE.mono e1,h2,λw H2 μ2 e2 s2 r2=>⟨μ2,S2,x,y,z,s2,r1.mono e2,r2,h3,λu H3 μ3 e3 s3 r3=>?_⟩⟩⟩;cases z with
 | bl k=>
  refine⟨k,r3.bl_inv,?_⟩;cases k with
  | false=>cases hm;rw[if_neg aeQ];exact post _ H3 μ3 ((e1.trans e2).trans e3) s3 1.5
  | true=>
   obtain⟨⟨t,S4⟩,h4,hm⟩:=aaa.mp hm;obtain⟨z,h5,hm⟩:=aaa.mp hm;cases hm;rw[aas rfl];exact⟨μ3,S2,env,t,S4,s3,hE.mono ((e1.trans e2).trans e3),h4,λu' H4 μ4 e4 s4 r4=>⟨μ4,_,y,t,_,s4,(r2.mono e3).mono e4,r4,h5,post.ext (((e1.trans e2).trans e3).trans e4)⟩⟩
 | _=>cases hm
theorem Sk(ho:OpR X (aeL op) 1.49)(ho':OpR X (aeL op') (pY X.K g))(ha:DE X a ma)(hb:DE X b mb)(hc:DE X c mc)
  (hm:lastMarks [op,op'] [b,c]=false:=by with_unfolding_all rfl):DE X (.Compare a [op,op'] [b,c] pos) (dA f g ma mb mc):=
 PE.imp (Pj ho ho' ha hb hc hm) λz z z h=>zZ h
theorem RJ(ho:OpR X (aeL op) 1.49)(ho':OpR X (aeL op') (pY X.K g))(ha:DE X a ma)(hb:DE X b mb)(hc:DE X c mc)
  (hm:lastMarks [op,op'] [b,c]=false:=by with_unfolding_all rfl):DT X (.Compare a [op,op'] [b,c] pos) (aF (dA f g ma mb mc)):=
 PT.imp (OR ho ho' ha hb hc hm) λσ H Q z0=>by
  obtain⟨μ,S,env,k,S',hS,hE,hm,post⟩:=z0;have h:=xL hm;refine zZ ⟨μ,S,env,_,S',hS,hE,h,λv H' μ' e s r=>?_⟩;exact⟨k,r.bl_inv,post H' μ' e s⟩
def wL(S:ac):D->Option Bool
 | .non=>Y false
 | .bl b=>Y b
 | .int i=>Y (i != 0)
 | .str y=>if y.length<=Vj then Y ((y.length:Int) != 0) else L
 | .tup xs=>Y (!xs.isEmpty)
 | .lst xs=>Y (!xs.isEmpty)
 | .rol xs=>Y (!xs.isEmpty)
 | .dct ks _=>Y (!ks.isEmpty)
 | .ref r=>match S[r]? with
  | some 2.4=>Y (!xs.isEmpty)
  | some (.dct ks _)=>Y (!ks.isEmpty)
  | _=>L
 | .txt=>L
 | .obj=>L
 | .exc _ _ _=>L
 | .fn _=>L
theorem Reps.isEmpty{vs:List V}{ds:List D}(r:Reps K μ H vs ds):(!ds.isEmpty) = !vs.isEmpty:=by cases r<;>rfl
theorem uY{α β:Type}(f:α->β)(l:List α):(!(l.map f).isEmpty) = !l.isEmpty:=by cases l<;>rfl
theorem vX{d:D}{k:Bool}(s:SOk K μ S H)(r:Rep K μ H x d)(h:wL S d=Y k):NN K x H k:=by
 cases r with
 | non=>cases h;rfl
 | bl b=>cases h;rfl
 | int i=>cases h;rfl
 | str y=>
  simp only[wL] at h;split at h
  ·rename_i hy;cases h;exact⟨hy,rfl⟩
  ·cases h
 | @tup a vs ds h' n r=>cases h;exact .inr (.inl ⟨vs,.inl (.inl h'),r.isEmpty⟩)
 | @ktup a vs ds h' r=>cases h;exact .inr (.inl ⟨vs,.inr h',r.isEmpty⟩)
 | @lst a vs ds h' n r=>cases h;exact .inl ⟨vs,.inl (.inl h'),r.isEmpty⟩
 | @rol a vs ds h' n r=>cases h;exact .inl ⟨vs,.inl h',r.isEmpty⟩
 | @krol a vs ds h' r=>cases h;exact .inl ⟨vs,.inr h',r.isEmpty⟩
 | @dct a kvs ds h' n r=>cases h;exact .inr (.inr ⟨kvs,h',uY _ _⟩)
 | txt x=>cases h
 | obj h' n=>cases h
 | exc h' n h2 n2=>cases h
 | fn a=>cases h
 | @ref a i h'=>
  simp only[wL] at h;cases q:S[i]? with
  | none=>rw[q] at h;cases h
  | some c=>
   rw[q] at h;have ck:=s.cell i a c h' q;cases c with
   | lst xs=>cases h;obtain⟨vs,e,r⟩:=ck;exact .inl ⟨vs,.inl (.inl e),r.isEmpty⟩
   | dct ks xs=>cases h;obtain⟨kvs,e,rfl,r⟩:=ck;exact .inr (.inr ⟨kvs,e,uY _ _⟩)
def dQ(m:ME):MT:=λenv S=>(m env S).bind λp=>(wL p.2 p.1).bind λk=>Y (k,p.2)
theorem Gv(ha:DE X a ma)(he:∀ whole,isTrue a X.env whole=(do let v <- whole;standAt a.pos;holding [v] (truthy v)):=by intro z;rfl):DT X a (dQ ma):=
 PT.imp (OQ ha he) λσ H Q z0=>by
  obtain⟨μ,S,env,k,S',hS,hE,hm,post⟩:=z0;obtain⟨⟨x,S1⟩,h1,hm⟩:=aaa.mp hm;obtain⟨k',h2,hm⟩:=aaa.mp hm;cases hm;exact⟨μ,S,env,x,S1,hS,hE,h1,λv H' μ' e s r=>⟨k,vX s r h2,post H' μ' e s⟩⟩
variable{ta tb tc:MT}{rest:List vx}
def dD(a b:MT):MT:=λenv S=>(a env S).bind λp=>if p.1=true then b env p.2 else Y (false,p.2)
def gW(a b:MT):MT:=λenv S=>(a env S).bind λp=>if p.1=true then Y (true,p.2) else b env p.2
def dJ(a:MT):MT:=λenv S=>(a env S).bind λp=>Y (!p.1,p.2)
theorem Tj(h:DB K (dD ta tb) σ H Q):tAnd (DB K ta) (DB K tb) σ H Q:=by
 obtain⟨μ,S,env,k,S',hS,hE,hm,post⟩:=h;obtain⟨⟨x,S1⟩,h1,hm⟩:=aaa.mp hm;refine⟨μ,S,env,x,S1,hS,hE,h1,λH1 μ1 e1 s1=>?_⟩;cases x with
 | true=>rw[aas rfl] at hm ⊢;exact⟨μ1,S1,env,k,S',s1,hE.mono e1,hm,λH2 μ2 e2 s2=>post H2 μ2 1.64 s2⟩
 | false=>rw[if_neg aeQ] at hm ⊢;cases hm;exact post H1 μ1 e1 s1
theorem Yd(h:DB K (gW ta tb) σ H Q):tOr (DB K ta) (DB K tb) σ H Q:=by
 obtain⟨μ,S,env,k,S',hS,hE,hm,post⟩:=h;obtain⟨⟨x,S1⟩,h1,hm⟩:=aaa.mp hm;refine⟨μ,S,env,x,S1,hS,hE,h1,λH1 μ1 e1 s1=>?_⟩;cases x with
 | false=>rw[if_neg aeQ] at hm ⊢;exact⟨μ1,S1,env,k,S',s1,hE.mono e1,hm,λH2 μ2 e2 s2=>post H2 μ2 1.64 s2⟩
 | true=>rw[aas rfl] at hm ⊢;cases hm;exact post H1 μ1 e1 s1
theorem Ld(ha:DT X a ta):DW X (.BoolOp .And [a] pos) ta:=TJ ha
theorem RG(ha:DT X a ta):DW X (.BoolOp .Or [a] pos) ta:=Yy ha
theorem RH(ha:DT X a ta)(hb:DW X (.BoolOp .And (b::rest) pos) tb):DW X (.BoolOp .And (a::b::rest) pos) (dD ta tb):=PW.imp (Yz ha hb) λz z z h=>Tj h
theorem Xx(ha:DT X a ta)(hb:DW X (.BoolOp .Or (b::rest) pos) tb):DW X (.BoolOp .Or (a::b::rest) pos) (gW ta tb):=PW.imp (pw_or ha hb) λz z z h=>Yd h
theorem VE(h:DW X a ta):DT X a ta:=PW.pt h
theorem qaP(ha:DT X a ta):DT X 1.17 (dJ ta):=PT.imp (YA ha) λσ H Q z0=>by
 obtain⟨μ,S,env,k,S',hS,hE,hm,post⟩:=z0;obtain⟨⟨x,S1⟩,h1,hm⟩:=aaa.mp hm;cases hm;exact⟨μ,S,env,x,S1,hS,hE,h1,λH1 μ1 e1 s1=>post H1 μ1 e1 s1⟩
def eD(a b:ME):ME:=λenv S=>(a env S).bind λp=>match p.1 with | .bl true=>b env p.2 | .bl false=>Y (.bl false,p.2) | _=>L
def wp(a b:ME):ME:=λenv S=>(a env S).bind λp=>match p.1 with | .bl false=>b env p.2 | .bl true=>Y (.bl true,p.2) | _=>L
theorem Sf{op}(h:DE X a ma):DE X (.BoolOp op [a] pos) ma:=YN h
def iq(a:ME):ME:=λenv S=>(a env S).bind λp=>match p.1 with | .bl k=>Y (.bl (!k),p.2) | _=>L
def oi(t:MT)(a b:ME):ME:=λenv S=>(t env S).bind λp=>if p.1=true then a env p.2 else b env p.2
theorem de_if(hc:DT X c tc)(ha:DE X a ma)(hb:DE X b mb):DE X (.IfExp c a b pos) (oi tc ma mb):=PE.imp (Ph hc ha hb) λσ H Q z0=>by
 obtain⟨μ,S,env,d,S',hS,hE,hm,post⟩:=z0;obtain⟨⟨x,S1⟩,h1,hm⟩:=aaa.mp hm;refine⟨μ,S,env,x,S1,hS,hE,h1,λH1 μ1 e1 s1=>?_⟩;cases x with
 | true=>rw[aas rfl] at hm ⊢;exact⟨μ1,S1,env,d,S',s1,hE.mono e1,hm,post.ext e1⟩
 | false=>rw[if_neg aeQ] at hm ⊢;exact⟨μ1,S1,env,d,S',s1,hE.mono e1,hm,post.ext e1⟩
variable{es:List vx}{ms:MA}
def ao:MA:=λz S=>Y ([],S)
def aa(a:ME)(r:MA):MA:=λenv S=>(a env S).bind λp=>(r env p.2).bind λq=>Y (p.1::q.1,q.2)
theorem qb9:DA X [] ao:=PA.imp Po λσ H Q ⟨μ,S,env,d,S',hS,hE,hm,post⟩=>by cases hm;exact post [] H μ hS.ext hS .nil
theorem Wf(ha:DE X a ma)(hr:DA X es ms)(hs:WP (a::es) X.env=(false,eval a X.env)::WP es X.env:=by rfl):DA X (a::es) (aa ma ms):=PA.imp (BY ha hr hs) λσ H Q z0=>by
 obtain⟨μ,S,env,ds,S',hS,hE,hm,post⟩:=z0;obtain⟨⟨x,S1⟩,h1,hm⟩:=aaa.mp hm;obtain⟨⟨xs,S2⟩,h2,hm⟩:=aaa.mp hm;cases hm;exact⟨μ,S,env,x,S1,hS,hE,h1,λv H1 μ1 e1 s1 r1=>⟨μ1,S1,env,xs,S2,s1,hE.mono e1,h2,λvs H2 μ2 e2 s2 r2=>post (v::vs) H2 μ2 1.64 s2 (.cons (r1.mono e2) r2)⟩⟩
def aR(ms:MA):ME:=λenv S=>(ms env S).bind λp=>if p.1.length<=Vj then Y (.tup p.1,p.2) else L
def dw(ms:MA):ME:=λenv S=>(ms env S).bind λp=>if p.1.length<=Vj then Y (.lst p.1,p.2) else L
def fC(ms:MA):ME:=λenv S=>(ms env S).bind λp=>if p.1.length<=Vj then Y (.ref p.2.length,p.2++[.lst p.1]) else L
theorem Post.tup(post:Post K μ H S (.tup ds) Q)(s:SOk K μ S H)(hp:H p=L)(r:Reps K μ H vs ds):Q (.ref p) (upd H p (.tup vs)):=by
 obtain⟨e,s'⟩:=s.laid (o:=.tup vs) hp;exact post _ _ _ e s' (.tup bB (s.notMem hp) (r.mono e))
theorem Post.lst(post:Post K μ H S (.lst ds) Q)(s:SOk K μ S H)(hp:H p=L)(r:Reps K μ H vs ds):Q (.ref p) (upd H p 8.2):=by
 obtain⟨e,s'⟩:=s.laid (o:=.lst vs) hp;exact post _ _ _ e s' (.lst bB (s.notMem hp) (r.mono e))
theorem Post.lstR(post:Post K μ H (S++[.lst ds]) 0.7 Q)(s:SOk K μ S H)(hp:H p=L)(r:Reps K μ H vs ds):Q (.ref p) (upd H p 8.2):=by
 obtain⟨e,s'⟩:=s.alloc hp r;exact post _ _ _ e s' (.ref (by rw[<- s.len,abt (aal _)];simp))
theorem qaZ{k}(h:DA X es ms):DE X 9.6 (aR ms):=PE.imp (YJ h) λσ H Q z0=>by
 obtain⟨μ,S,env,d,S',hS,hE,hm,post⟩:=z0;obtain⟨⟨xs,S1⟩,h1,hm⟩:=aaa.mp hm;dsimp only at hm;split at hm
 ·rename_i hl;cases hm;exact⟨μ,S,env,_,_,hS,hE,h1,λvs H1 μ1 e1 s1 r1=>⟨by rw[r1.length];exact hl,λp hp=>(post.ext e1).tup s1 hp r1⟩⟩
 ·cases hm
theorem qb4(h:DA X es ms):DE X (.List es pos) (dw ms):=PE.imp (Pf h) λσ H Q z0=>by
 obtain⟨μ,S,env,d,S',hS,hE,hm,post⟩:=z0;obtain⟨⟨xs,S1⟩,h1,hm⟩:=aaa.mp hm;dsimp only at hm;split at hm
 ·rename_i hl;cases hm;exact⟨μ,S,env,_,_,hS,hE,h1,λvs H1 μ1 e1 s1 r1=>⟨by rw[r1.length];exact hl,λp hp=>(post.ext e1).lst s1 hp r1⟩⟩
 ·cases hm
theorem VW(h:DA X es ms):DE X (.List es pos) (fC ms):=PE.imp (Pf h) λσ H Q z0=>by
 obtain⟨μ,S,env,d,S',hS,hE,hm,post⟩:=z0;obtain⟨⟨xs,S1⟩,h1,hm⟩:=aaa.mp hm;dsimp only at hm;split at hm
 ·rename_i hl;cases hm;exact⟨μ,S,env,_,_,hS,hE,h1,λvs H1 μ1 e1 s1 r1=>⟨by rw[r1.length];exact hl,λp hp=>(post.ext e1).lstR s1 hp r1⟩⟩
 ·cases hm
theorem VY:DE X (.Dict [] [] pos) (mC (.dct [] [])):=PE.imp Pi λσ H Q z0=>by
 obtain⟨μ,S,env,d,S',hS,hE,hm,post⟩:=z0;cases hm;intro p hp;obtain⟨e,s'⟩:=hS.laid (o:=.dK []) hp;exact post _ _ _ e s' (.dct (kvs:=[]) bB (hS.notMem hp) .nil)
end
end
mutual
def gJ:D->D->Bool
 | .non,.non=>true
 | .bl a,.bl b=>a==b
 | .bl a,.int b=>(if a then 1 else 0)==b
 | .int a,.bl b=>a==(if b then 1 else 0)
 | .int a,.int b=>a==b
 | .str a,.str b=>a==b
 | .tup xs,.tup ys=>eqDs xs ys
 | .lst xs,.lst ys=>eqDs xs ys
 | _,_=>false
def eqDs:List D->List D->Bool
 | [],[]=>true
 | x::xs,y::ys=>gJ x y&&eqDs xs ys
 | _,_=>false
end
def cy:Nat->D->Bool
 | _,.non=>true
 | _,.bl _=>true
 | _,.int _=>true
 | _,.str _=>true
 | n+1,.tup xs=>xs.all (cy n)
 | n+1,.lst xs=>xs.all (cy n)
 | _,_=>false
theorem xp:∀ {n m:Nat} {d:D},n<=m->cy n d=true->cy m d=true
 | n,m,.non,_,_=>by simp[cy]
 | n,m,.bl _,_,_=>by simp[cy]
 | n,m,.int _,_,_=>by simp[cy]
 | n,m,.str _,_,_=>by simp[cy]
 | 0,m,.tup _,_,h=>by simp[cy] at h
 | 0,m,.lst _,_,h=>by simp[cy] at h
 | n+1,m+1,.tup xs,hl,h=>by
  simp only[cy,aav] at h ⊢;exact λd hd=>xp (aee hl) (h d hd)
 | n+1,m+1,.lst xs,hl,h=>by
  simp only[cy,aav] at h ⊢;exact λd hd=>xp (aee hl) (h d hd)
 | n+1,0,.tup _,hl,_=>absurd hl 0.0
 | n+1,0,.lst _,hl,_=>absurd hl 0.0
 | n,m,.rol _,_,h=>by cases n<;>simp[cy] at h
 | n,m,.txt,_,h=>by cases n<;>simp[cy] at h
 | n,m,.obj,_,h=>by cases n<;>simp[cy] at h
 | n,m,.exc _ _ _,_,h=>by cases n<;>simp[cy] at h
 | n,m,.fn _,_,h=>by cases n<;>simp[cy] at h
 | n,m,.dct _ _,_,h=>by cases n<;>simp[cy] at h
 | n,m,.ref _,_,h=>by cases n<;>simp[cy] at h
theorem Di:∀ (xs ys:List D),eqDs xs ys=((List.range (min xs.length ys.length)).all (λj=>match xs[j]?,ys[j]? with | some a,Y b=>gJ a b | _,_=>true)&&xs.length==ys.length)
 | [],[]=>rfl
 | [],y::ys=>by simp[eqDs]
 | x::xs,[]=>by simp[eqDs]
 | x::xs,y::ys=>by
  have ih:=Di xs ys;rw[eqDs,ih];have hm:min (x::xs).length (y::ys).length=min xs.length ys.length+1:=by simp only[aar];omega
  rw[hm,aef,abi,acU];simp only[adX,aar,adH]
  congr 1
  congr 1
  rw[aaJ];simp
section
variable{X:Cx}{pins:List (tx×Obj)}{σ:L2.St}{H:Hp}{s:gV}{μ:Fp}{A:SN}
theorem Rep.sqT{K:aeO}(r:Rep K μ H v (.tup ds)):∃ a vs,v=.ref a/\rR K H a vs/\Reps K μ H vs ds:=by
 cases r with
 | tup h n r=>exact⟨_,_,rfl,.inl (.inl h),r⟩
 | ktup h r=>exact⟨_,_,rfl,.inr h,r⟩
theorem Rep.sqL{K:aeO}(r:Rep K μ H v (.lst ds)):∃ a vs,v=.ref a/\H a=Y 8.2/\μ.no a/\Reps K μ H vs ds:=by
 cases r with
 | lst h n r=>exact⟨_,_,rfl,h,n,r⟩
theorem Rep.sqR{K:aeO}(r:Rep K μ H v (.rol ds)):∃ a vs,v=.ref a/\qD K H a vs/\Reps K μ H vs ds:=by
 cases r with
 | rol h n r=>exact⟨_,_,rfl,.inl h,r⟩
 | krol h r=>exact⟨_,_,rfl,.inr h,r⟩
theorem ntl(I:Inv X pins σ H s)(h:rR X.K H a xs)(h':qD X.K H a ys):False:=by
 obtain⟨its,z,⟨o,e,c,z⟩,z⟩:=I.tuple h;obtain⟨its',z,⟨o',n',e',c',z⟩,z⟩:=I.list h';rw[e] at e';cases e';rw[c] at c';exact absurd c' 0.3
theorem Rep.non_inv{K:aeO}(h:Rep K μ H v .non):v=.non:=by cases h;rfl
theorem Ka:cy n (.rol xs)=false:=by cases n<;>rfl
theorem Ke:cy n (.dct ks xs)=false:=by cases n<;>rfl
theorem Kb:cy n (.ref r)=false:=by cases n<;>rfl
theorem JZ:cy n .txt=false:=by cases n<;>rfl
theorem Kc:cy n .obj=false:=by cases n<;>rfl
theorem Kd:cy n (.exc C fl i)=false:=by cases n<;>rfl
theorem Pu:cy n (.fn a)=false:=by cases n<;>rfl
theorem wg(h:cy n 4.6=true):∃ m,m+1=n/\∀ x∈xs,cy m x=true:=by
 cases n with
 | zero=>cases h
 | succ n=>exact⟨n,rfl,aav.mp h⟩
theorem wj(h:cy n 2.4=true):∃ m,m+1=n/\∀ x∈xs,cy m x=true:=by
 cases n with
 | zero=>cases h
 | succ n=>exact⟨n,rfl,aav.mp h⟩
inductive Fm(K:aeO)(μ:Fp)(H:Hp):D->V->Prop
 | non:Fm K μ H .non .non
 | bl (b:Bool):Fm K μ H (.bl b) (.bl b)
 | int (i:Int):Fm K μ H (.int i) (.int i)
 | str (x:Str):Fm K μ H (.str x) (.str x)
 | tup {xs:List D} {l:tx} {vs:List V} (q:rR K H l vs) (r:Reps K μ H vs xs):Fm K μ H 4.6 (.ref l)
 | lst {xs:List D} {l:tx} {vs:List V} (q:qD K H l vs) (r:Reps K μ H vs xs):Fm K μ H 2.4 (.ref l)
theorem vt{K:aeO}(hx:cy n x=true)(r:Rep K μ H a x):Fm K μ H x a:=by
 cases x with
 | non=>rw[r.non_inv];exact .non
 | bl b=>rw[r.bl_inv];exact .bl b
 | int b=>rw[r.int_inv];exact .int b
 | str b=>rw[r.str_inv];exact .str b
 | tup xs=>obtain⟨l,vs,rfl,q,r⟩:=r.sqT;exact .tup q r
 | lst xs=>obtain⟨l,vs,rfl,q,z,r⟩:=r.sqL;exact .lst 9.3 r
 | rol _=>rw[Ka] at hx;cases hx
 | dct _ _=>rw[Ke] at hx;cases hx
 | ref _=>rw[Kb] at hx;cases hx
 | txt=>rw[JZ] at hx;cases hx
 | obj=>rw[Kc] at hx;cases hx
 | exc C fl i=>rw[Kd] at hx;cases hx
 | fn a=>rw[Pu] at hx;cases hx
theorem Reps.injN{K:aeO}(ih:∀ {v:V} {x y:D},cy n x=true->cy n y=true->Rep K μ H v x->Rep K μ H v y->x=y):∀ {vs:List V} {xs ys:List D},(∀ x∈xs,cy n x=true)->(∀ y∈ys,cy n y=true)->Reps K μ H vs xs->Reps K μ H vs ys->xs=ys:=λ{vs xs ys} hx hy r r'=>
 Reps.ind (Q:=λvs xs=>∀ ys:List D,(∀ x∈xs,cy n x=true)->(∀ y∈ys,cy n y=true)->Reps K μ H vs ys->xs=ys) (λys z z r=>by cases r;rfl) (λh t i ys hx hy r=>by
  cases r with | cons h' t'=>rw[ih (hx _ aad) (hy _ aad) h h',i _ (λx m=>hx x 1.51) (λx m=>hy x 1.51) t']) r ys hx hy r'
theorem FR(I:Inv X pins σ H s)(n:Nat)(ih:∀ m,m+1=n->∀ {v:V} {x y:D},cy m x=true->cy m y=true->Rep X.K μ H v x->Rep X.K μ H v y->x=y)(hx:cy n x=true)(hy:cy n y=true)(rx:Rep X.K μ H v x)(ry:Rep X.K μ H v y):x=y:=by
 have fy:=vt hy ry;cases x with
 | tup xs=>
  obtain⟨a,vs,rfl,q,r⟩:=rx.sqT;obtain⟨m,hm,ox⟩:=wg hx;cases fy with
  | tup q' r'=>
   cases I.tuple_inj q' q;obtain⟨m',hm',oy⟩:=wg hy;have:m'=m:=by omega
   subst this;rw[Reps.injN (ih m' hm) ox oy r r']
  | lst q' _=>exact(ntl I q q').elim
 | lst xs=>
  obtain⟨a,vs,rfl,q,z,r⟩:=rx.sqL;obtain⟨m,hm,ox⟩:=wj hx;cases y with
  | lst ys=>
   obtain⟨m',hm',oy⟩:=wj hy;have:m'=m:=by omega
   subst this;obtain⟨a',vs',e,q',z,r'⟩:=ry.sqL;cases e;rw[q] at q';cases q';rw[Reps.injN (ih m' hm) ox oy r r']
  | _=>cases fy<;>exact(ntl I (by assumption) 9.3).elim
 | non=>rw[rx.non_inv] at fy;cases fy;rfl
 | bl b=>rw[rx.bl_inv] at fy;cases fy;rfl
 | int b=>rw[rx.int_inv] at fy;cases fy;rfl
 | str b=>rw[rx.str_inv] at fy;cases fy;rfl
 | rol _=>rw[Ka] at hx;cases hx
 | dct _ _=>rw[Ke] at hx;cases hx
 | ref _=>rw[Kb] at hx;cases hx
 | txt=>rw[JZ] at hx;cases hx
 | obj=>rw[Kc] at hx;cases hx
 | exc C fl i=>rw[Kd] at hx;cases hx
 | fn a=>rw[Pu] at hx;cases hx
theorem Rep.inj(I:Inv X pins σ H s)(n:Nat):∀ {v:V} {x y:D},cy n x=true->cy n y=true->Rep X.K μ H v x->Rep X.K μ H v y->x=y:=by
 induction n with
 | zero=>exact λhx hy rx ry=>FR I 0 (λm h=>absurd h (Nat.succ_ne_zero m)) hx hy rx ry
 | succ n ih=>exact λhx hy rx ry=>FR I (n+1) (λm h=>by cases h;exact ih) hx hy rx ry
theorem pK:∀ (n:Nat) (x:D),cy n x=true->gJ x x=true
 | n,.non,_=>rfl
 | n,.bl _,_=>by simp[gJ]
 | n,.int _,_=>by simp[gJ]
 | n,.str _,_=>by simp[gJ]
 | 0,.tup _,h=>by simp[cy] at h
 | 0,.lst _,h=>by simp[cy] at h
 | n+1,.tup xs,h=>by
  simp only[cy,aav] at h;rw[gJ]
  induction xs with
  | nil=>rfl
  | cons x xs ih=>rw[eqDs,pK n x (h x aad),ih λy m=>h y 1.51];rfl
 | n+1,.lst xs,h=>by
  simp only[cy,aav] at h;rw[gJ]
  induction xs with
  | nil=>rfl
  | cons x xs ih=>rw[eqDs,pK n x (h x aad),ih λy m=>h y 1.51];rfl
 | n,.rol _,h=>by cases n<;>simp[cy] at h
 | n,.txt,h=>by cases n<;>simp[cy] at h
 | n,.obj,h=>by cases n<;>simp[cy] at h
 | n,.exc _ _ _,h=>by cases n<;>simp[cy] at h
 | n,.fn _,h=>by cases n<;>simp[cy] at h
 | n,.dct _ _,h=>by cases n<;>simp[cy] at h
 | n,.ref _,h=>by cases n<;>simp[cy] at h
open PySem.SeqAt
theorem AJ(A:SN):A.in1.units=A.units+1:=rfl
theorem AI{ws:List V}{P:ce->ce->Bool->Prop}(r1:Vals vs its)(q1:Reps X.K μ H vs xs)(r2:Vals ws its2)(q2:Reps X.K μ H ws ys)
  (h:∀ (j:Nat) (v w:V) (u u':ce) (x y:D),xs[j]?=Y x->ys[j]?=Y y->Rep X.K μ H v x->Rep X.K μ H w y->RelV v u->RelV w u'->P u u' (gJ x y)) :
  ∀ j (h1:j<its.toArray.size) (h2:j<its2.toArray.size),P its.toArray[j] its2.toArray[j] (match xs[j]?,ys[j]? with | some a,Y b=>gJ a b | _,_=>true):=λj h1 h2=>by
 have l1:=r1.length;have l2:=r2.length;have m1:=q1.length;have m2:=q2.length;have h1':j<its.length:=by simpa using h1
 have h2':j<its2.length:=by simpa using h2
 have hx:xs[j]?=Y xs[j]:=aag 0.0;have hy:ys[j]?=Y ys[j]:=aag 0.0;obtain⟨v,e1,p1⟩:=q1.get hx;obtain⟨w,e2,p2⟩:=q2.get hy;obtain⟨u,f1,g1⟩:=r1.get e1;obtain⟨u',f2,g2⟩:=r2.get e2;rw[hx,hy];have:=h j v w u u' _ _ hx hy p1 p2 g1 g2;have f1':its.toArray[j]=u:=by simpa[aag h1'] using f1
 have f2':its2.toArray[j]=u':=by simpa[aag h2'] using f2
 rw[f1',f2'];exact this
structure qbv(A:SN)(s:gV)(u v:ce)(b:Bool):Prop where
 eq:EqAt A s u v b
 rc:RcAt A s u v b
 ne:RcNeAt A s u v (!b)
theorem La(I:Inv X pins σ H s)(n:Nat)(ih:∀ m,m+1=n->∀ (A:SN) {a b:V} {u v:ce} {x y:D},A.units+m<cLine->cy m x=true->cy m y=true->Rep X.K μ H a x->Rep X.K μ H b y->RelV a u->RelV b v->qbv A s u v (gJ x y))
  (A:SN) (hn:A.units+n<cLine) (hx:cy n x=true) (hy:cy n y=true) (rx:Rep X.K μ H a x) (ry:Rep X.K μ H b y) (ra:RelV a u) (rb:RelV b v):qbv A s u v (gJ x y):=by
 have hu:A.units<cLine:=by omega
 cases vt hx rx with
 | non=>
  cases ra;cases vt hy ry with
  | non=>cases rb;exact⟨EqAt.same _,RcAt.none_none,RcNeAt.none_none⟩
  | bl b=>cases rb;exact⟨EqAt.none_bool b,RcAt.none_bool b,RcNeAt.none_bool b⟩
  | int b=>obtain⟨t,rfl⟩:=rb;exact⟨EqAt.none_int b t,RcAt.none_int b t,RcNeAt.none_int b t⟩
  | str b=>obtain⟨t,rfl⟩:=rb;exact⟨EqAt.none_str b t,RcAt.none_str b t,RcNeAt.none_str b t⟩
  | tup q r=>cases rb;obtain⟨its,rv,p,z⟩:=I.tuple q;exact⟨EqAt.none_tuple p hu,RcAt.none_tuple p hu,RcNeAt.none_tuple p hu⟩
  | lst q r=>cases rb;obtain⟨its,rv,p,z⟩:=I.list q;exact⟨EqAt.none_list p.isList hu,RcAt.none_list p.isList hu,RcNeAt.none_list p.isList hu⟩
 | bl a=>
  cases ra;cases vt hy ry with
  | non=>cases rb;exact⟨EqAt.bool_none a,RcAt.bool_none a,RcNeAt.bool_none a⟩
  | bl b=>cases rb;exact⟨EqAt.bool_bool a b,RcAt.bool_bool a b,RcNeAt.bool_bool a b⟩
  | int b=>obtain⟨t,rfl⟩:=rb;exact⟨EqAt.bool_int a b t,RcAt.bool_int a b t,RcNeAt.bool_int a b t⟩
  | str b=>obtain⟨t,rfl⟩:=rb;exact⟨EqAt.bool_str a b t,RcAt.bool_str a b t,RcNeAt.bool_str a b t⟩
  | tup q r=>cases rb;obtain⟨its,rv,p,z⟩:=I.tuple q;exact⟨EqAt.bool_tuple a p hu,RcAt.bool_tuple a p hu,RcNeAt.bool_tuple a p hu⟩
  | lst q r=>cases rb;obtain⟨its,rv,p,z⟩:=I.list q;exact⟨EqAt.bool_list a p.isList hu,RcAt.bool_list a p.isList hu,RcNeAt.bool_list a p.isList hu⟩
 | int a=>
  obtain⟨t',rfl⟩:=ra;cases vt hy ry with
  | non=>cases rb;exact⟨EqAt.int_none a t',RcAt.int_none a t',RcNeAt.int_none a t'⟩
  | bl b=>cases rb;exact⟨EqAt.int_bool a t' b,RcAt.int_bool a t' b,RcNeAt.int_bool a t' b⟩
  | int b=>obtain⟨t,rfl⟩:=rb;exact⟨EqAt.int_int a t' b t,RcAt.int_int a t' b t,RcNeAt.int_int a t' b t⟩
  | str b=>obtain⟨t,rfl⟩:=rb;exact⟨EqAt.int_str a t' b t,RcAt.int_str a t' b t,RcNeAt.int_str a t' b t⟩
  | tup q r=>cases rb;obtain⟨its,rv,p,z⟩:=I.tuple q;exact⟨EqAt.int_tuple a t' p hu,RcAt.int_tuple a t' p hu,RcNeAt.int_tuple a t' p hu⟩
  | lst q r=>cases rb;obtain⟨its,rv,p,z⟩:=I.list q;exact⟨EqAt.int_list a t' p.isList hu,RcAt.int_list a t' p.isList hu,RcNeAt.int_list a t' p.isList hu⟩
 | str a=>
  obtain⟨t',rfl⟩:=ra;cases vt hy ry with
  | non=>cases rb;exact⟨EqAt.str_none a t',RcAt.str_none a t',RcNeAt.str_none a t'⟩
  | bl b=>cases rb;exact⟨EqAt.str_bool a t' b,RcAt.str_bool a t' b,RcNeAt.str_bool a t' b⟩
  | int b=>obtain⟨t,rfl⟩:=rb;exact⟨EqAt.str_int a t' b t,RcAt.str_int a t' b t,RcNeAt.str_int a t' b t⟩
  | str b=>obtain⟨t,rfl⟩:=rb;exact⟨EqAt.str_str a t' b t,RcAt.str_str a t' b t,RcNeAt.str_str a t' b t⟩
  | tup q r=>cases rb;obtain⟨its,rv,p,z⟩:=I.tuple q;exact⟨EqAt.str_tuple a t' p hu,RcAt.str_tuple a t' p hu,RcNeAt.str_tuple a t' p hu⟩
  | lst q r=>cases rb;obtain⟨its,rv,p,z⟩:=I.list q;exact⟨EqAt.str_list a t' p.isList hu,RcAt.str_list a t' p.isList hu,RcNeAt.str_list a t' p.isList hu⟩
 | @tup xs l vs q r=>
  cases ra;obtain⟨its,rv,p,z⟩:=I.tuple q;cases vt hy ry with
  | non=>cases rb;exact⟨EqAt.tuple_none p hu,RcAt.tuple_none p hu,RcNeAt.tuple_none p hu⟩
  | bl b=>cases rb;exact⟨EqAt.tuple_bool b p hu,RcAt.tuple_bool b p hu,RcNeAt.tuple_bool b p hu⟩
  | int b=>obtain⟨t,rfl⟩:=rb;exact⟨EqAt.tuple_int b t p hu,RcAt.tuple_int b t p hu,RcNeAt.tuple_int b t p hu⟩
  | str b=>obtain⟨t,rfl⟩:=rb;exact⟨EqAt.tuple_str b t p hu,RcAt.tuple_str b t p hu,RcNeAt.tuple_str b t p hu⟩
  | @tup ys l' vs' q' r'=>
   cases rb;obtain⟨its',rv',p',z⟩:=I.tuple q';obtain⟨m,hm,ox⟩:=wg hx;obtain⟨m',hm',oy⟩:=wg hy;have:m'=m:=by omega
   subst this
   have all:=AI (P:=λu u' b=>EqAt A.in1 s u u' b) rv r rv' r' λj v w u u' x y hx' hy' q1 q2 g1 g2=>
    (ih m' hm A.in1 (by rw[AJ];omega) (ox x (aaA hx')) (oy y (aaA hy')) q1 q2 g1 g2).eq
   have e0:its.toArray.size=xs.length:=by rw[aai,<- rv.length,r.length]
   have e1:its'.toArray.size=ys.length:=by rw[aai,<- rv'.length,r'.length]
   have key:=RcAt.tuples (A:=A) (s:=s) p p' hu all;have kne:=RcNeAt.tuples (A:=A) (s:=s) p p' hu all;rw[e0,e1,<- Di] at key kne;refine⟨?_,key,kne⟩;by_cases hl:l=l'
   ·subst hl;rw[<- Rep.inj I n hx hy rx ry,pK _ _ hx];exact EqAt.same _
   ·exact EqAt.of_refs hl key
  | lst q' r'=>cases rb;obtain⟨its',rv',p',z⟩:=I.list q';exact⟨EqAt.tuple_list p p'.isList hu,RcAt.tuple_list p p'.isList hu,RcNeAt.tuple_list p p'.isList hu⟩
 | @lst xs l vs q r=>
  cases ra;obtain⟨its,rv,p0,z⟩:=I.list q;have p:=p0.isList;cases vt hy ry with
  | non=>cases rb;exact⟨EqAt.list_none p hu,RcAt.list_none p hu,RcNeAt.list_none p hu⟩
  | bl b=>cases rb;exact⟨EqAt.list_bool b p hu,RcAt.list_bool b p hu,RcNeAt.list_bool b p hu⟩
  | int b=>obtain⟨t,rfl⟩:=rb;exact⟨EqAt.list_int b t p hu,RcAt.list_int b t p hu,RcNeAt.list_int b t p hu⟩
  | str b=>obtain⟨t,rfl⟩:=rb;exact⟨EqAt.list_str b t p hu,RcAt.list_str b t p hu,RcNeAt.list_str b t p hu⟩
  | tup q' r'=>cases rb;obtain⟨its',rv',p',z⟩:=I.tuple q';exact⟨EqAt.list_tuple p p' hu,RcAt.list_tuple p p' hu,RcNeAt.list_tuple p p' hu⟩
  | @lst ys l' vs' q' r'=>
   cases rb;obtain⟨its',rv',p0',z⟩:=I.list q';have p':=p0'.isList;obtain⟨m,hm,ox⟩:=wj hx;obtain⟨m',hm',oy⟩:=wj hy;have:m'=m:=by omega
   subst this
   have all:=AI (P:=λu u' b=>EqAt A.in1 s u u' b) rv r rv' r' λj v w u u' x y hx' hy' q1 q2 g1 g2=>
    (ih m' hm A.in1 (by rw[AJ];omega) (ox x (aaA hx')) (oy y (aaA hy')) q1 q2 g1 g2).eq
   have e0:its.toArray.size=xs.length:=by rw[aai,<- rv.length,r.length]
   have e1:its'.toArray.size=ys.length:=by rw[aai,<- rv'.length,r'.length]
   have key:RcAt A s (.ref l) (.ref l') (eqDs xs ys)/\RcNeAt A s (.ref l) (.ref l') (!eqDs xs ys):=by
    rw[Di];by_cases hlen:xs.length=ys.length
    ·have k1:=RcAt.lists (A:=A) (s:=s) p p' (by rw[e0,e1,hlen]) hu all;have k2:=RcNeAt.lists (A:=A) (s:=s) p p' (by rw[e0,e1,hlen]) hu all;rw[e0] at k1 k2;rw[<- hlen,Nat.min_self,beq_self_eq_true,adl];exact⟨k1,k2⟩
    ·rw[show(xs.length==ys.length)=false from abj.mpr hlen,aaI];exact⟨RcAt.lists_lengths (A:=A) (s:=s) p p' (by rw[e0,e1];exact bne_iff_ne.mpr hlen) hu,RcNeAt.lists_lengths (A:=A) (s:=s) p p' (by rw[e0,e1];exact bne_iff_ne.mpr hlen) hu⟩
   refine⟨?_,key.1,key.2⟩;by_cases hl:l=l'
   ·subst hl;rw[<- Rep.inj I n hx hy rx ry,pK _ _ hx];exact EqAt.same _
   ·exact EqAt.of_refs hl key.1
theorem qbb(I:Inv X pins σ H s)(n:Nat):∀ (A:SN) {a b:V} {u v:ce} {x y:D},A.units+n<cLine->cy n x=true->cy n y=true->Rep X.K μ H a x->Rep X.K μ H b y->RelV a u->RelV b v->qbv A s u v (gJ x y):=by
 induction n with
 | zero=>exact λA z z z z z z hn hx hy rx ry ra rb=>La I 0 (λm h=>absurd h (Nat.succ_ne_zero m)) A hn hx hy rx ry ra rb
 | succ n ih=>exact λA z z z z z z hn hx hy rx ry ra rb=>La I (n+1) (λm h=>by cases h;exact ih) A hn hx hy rx ry ra rb
theorem eqRc(I:Inv X pins σ H s)(n:Nat)(A:SN)(hn:A.units+n<cLine)(hx:cy n x=true)(hy:cy n y=true)(rx:Rep X.K μ H a x)(ry:Rep X.K μ H b y)(ra:RelV a u)(rb:RelV b v) :
  EqAt A s u v (gJ x y)/\RcAt A s u v (gJ x y):=⟨(qbb I n A hn hx hy rx ry ra rb).eq,(qbb I n A hn hx hy rx ry ra rb).rc⟩
theorem neRc(I:Inv X pins σ H s)(n:Nat)(A:SN)(hn:A.units+n<cLine)(hx:cy n x=true)(hy:cy n y=true)(rx:Rep X.K μ H a x)(ry:Rep X.K μ H b y)(ra:RelV a u)(rb:RelV b v) :
  RcNeAt A s u v (!gJ x y):=(qbb I n A hn hx hy rx ry ra rb).ne
end
def kg(S:ac):D->Option (List D)
 | .tup xs=>Y xs
 | .lst xs=>Y xs
 | .rol xs=>Y xs
 | .ref r=>match S[r]? with | some 2.4=>Y xs | _=>L
 | _=>L
section
variable{X:Cx}{K:aeO}{μ:Fp}{H:Hp}{S:ac}
theorem lJ{d:D}(s:SOk K μ S H)(r:Rep K μ H x d)(h:kg S d=Y ds):∃ a vs,x=.ref a/\(qD K H a vs\/rR K H a vs)/\Reps K μ H vs ds:=by
 cases r with
 | tup h' n r=>cases h;exact⟨_,_,rfl,.inr (.inl (.inl h')),r⟩
 | ktup h' r=>cases h;exact⟨_,_,rfl,.inr (.inr h'),r⟩
 | lst h' n r=>cases h;exact⟨_,_,rfl,.inl (.inl (.inl h')),r⟩
 | rol h' n r=>cases h;exact⟨_,_,rfl,.inl (.inl h'),r⟩
 | krol h' r=>cases h;exact⟨_,_,rfl,.inl (.inr h'),r⟩
 | @ref a i h'=>
  simp only[kg] at h;cases q:S[i]? with
  | none=>rw[q] at h;cases h
  | some c=>
   rw[q] at h;have ck:=s.cell i a c h' q;cases c with
   | lst xs=>cases h;obtain⟨vs,e,r⟩:=ck;exact⟨_,vs,rfl,.inl (.inl (.inl e)),r⟩
   | dct ks xs=>cases h
 | _=>cases h
theorem Rep.free{d:D}(h:cy n d=true)(r:Rep K μ H v d):Rep K ⟨[],[]⟩ H v d:=
 Rep.to (P:=λd=>∃ n,cy n d=true) (λd ⟨n,h⟩ x hx=>by
  cases n with
  | zero=>cases d<;>first | (cases hx;done) | (simp[cy] at h;done)
  | succ n=>cases d<;>first | (cases hx;done) | exact⟨n,aav.mp h x hx⟩ | (simp[cy] at h;done)) (λh z=>⟨h,by simp,by simp⟩) (λ⟨n,h⟩=>by cases n<;>simp[cy] at h) r ⟨n,h⟩
theorem Reps.free{ds:List D}(h:ds.all (cy n)=true)(r:Reps K μ H vs ds):Reps K ⟨[],[]⟩ H vs ds:=Reps.to (P:=λd=>cy n d=true) (λr h=>Rep.free h r) r (aav.mp h)
def qB(S:ac):D->D
 | .ref r=>match S[r]? with | some 2.4=>.lst xs | _=>.ref r
 | d=>d
theorem wF{d:D}(h:cy n d=true):qB S d=d:=by
 cases d<;>first | rfl | (cases n<;>simp[cy] at h)
theorem tN{d:D}(s:SOk K μ S H)(r:Rep K μ H v d)(h:cy n (qB S d)=true):Rep K ⟨[],[]⟩ H v (qB S d):=by
 by_cases hd:qB S d=d
 ·rw[hd] at h ⊢;exact Rep.free h r
 ·cases r with
  | @ref a i h'=>
   cases q:S[i]? with
   | none=>exact absurd (by simp only[qB,q]) hd
   | some c=>
    cases c with
    | dct ks vs=>exact absurd (by simp only[qB,q]) hd
    | lst xs=>
     have e:qB S (.ref i)=.lst xs:=by simp only[qB,q]
     rw[e] at h ⊢;obtain⟨vs,e,r⟩:=s.cell i a _ h' q;cases n with
     | zero=>simp[cy] at h
     | succ n=>exact .lst e ⟨by simp,by simp⟩ (Reps.free (n:=n) h r)
  | _=>exact absurd rfl hd
def cm(S:ac)(x y:D):Option D:=if cy 40 (qB S x)=true/\cy 40 (qB S y)=true then Y (.bl (gJ (qB S x) (qB S y))) else L
def kf(S:ac)(x y:D):Option D:=if cy 40 (qB S x)=true/\cy 40 (qB S y)=true then Y (.bl (!gJ (qB S x) (qB S y))) else L
theorem op_Eq(hu:X.A.units+64<cLine):OpR X (aeL .Eq) (pY X.K cm):=by
 intro pins s σ H x y v u Q I rx ry h;obtain⟨μ,S,dx,dy,dz,hS,h1,h2,h3,post⟩:=h;simp only[cm] at h3;split at h3
 ·rename_i hk;cases h3;exact(eqRc I 40 X.A 0.0 hk.1 hk.2 (tN hS h1 hk.1) (tN hS h2 hk.2) rx ry).2 X.prog X.w X.xe _ ⟨.bl _,H,I,rfl,post.here hS (.bl _)⟩
 ·cases h3
theorem op_Ne(hu:X.A.units+64<cLine):OpR X (aeL .NotEq) (pY X.K kf):=by
 intro pins s σ H x y v u Q I rx ry h;obtain⟨μ,S,dx,dy,dz,hS,h1,h2,h3,post⟩:=h;simp only[kf] at h3;split at h3
 ·rename_i hk;cases h3;exact neRc I 40 X.A 0.0 hk.1 hk.2 (tN hS h1 hk.1) (tN hS h2 hk.2) rx ry X.prog X.w X.xe _ ⟨.bl _,H,I,rfl,post.here hS (.bl _)⟩
 ·cases h3
open Classical in
def fR(K:aeO)(μ:Fp)(H:Hp)(x:D)(u:ce):Bool:=decide (∃ v d,RelV v u/\Rep K μ H v d/\cy 39 d=true/\gJ d x=true)
open Classical in
theorem tK{s:gV}(I:Inv X pins σ H s){d:D}(rv:RelV v u)(r:Rep X.K μ H v d)(ok:cy 39 d=true):fR X.K μ H x u=gJ d x:=by
 unfold fR;cases e:gJ d x with
 | true=>exact aao ⟨v,d,rv,r,ok,e⟩
 | false=>
  refine aan ?_;rintro⟨v',d',rv',r',ok',e'⟩;cases rv.inj rv';rw[Rep.inj I 39 ok ok' r r'] at e;rw[e] at e';cases e'
theorem nh{s:gV}(I:Inv X pins σ H s):∀ {vs:List V} {us:List ce} {ds:List D},Vals vs us->Reps X.K μ H vs ds->(∀ d∈ds,cy 39 d=true) ->
  us.any (fR X.K μ H x)=ds.any λd=>gJ d x
 | _,_,_,.nil,.nil,_=>rfl
 | _,_,_,.cons rv tv,.cons r t,ok=>by
  rw[abx,abx,tK I rv r (ok _ aad),nh I tv t λd m=>ok d 1.51]
theorem ip{s:gV}(I:Inv X pins σ H s){A:SN}(hu:A.units+40<cLine)(rx:RelV v u)(rD:Rep X.K μ H v x)(okx:cy 40 x=true) :
  ∀ {vs:List V} {us:List ce} {ds:List D},Vals vs us->Reps X.K μ H vs ds->(∀ d∈ds,cy 39 d=true)->∀ w∈us,SeqAt.EqAt A s w u (fR X.K μ H x w)
 | _,_,_,.nil,.nil,_=>λw hw=>by cases hw
 | _,_,_,.cons rv tv,.cons r t,ok=>λw hw=>by
  rcases aaC.mp hw with rfl | hw
  ·rw[tK I rv r (ok _ aad)];exact(eqRc I 40 A hu (xp 0.1 (ok _ aad)) okx r rD rv rx).1
  ·exact ip I hu rx rD okx tv t (λd m=>ok d 1.51) w hw
def rN(S:ac)(x y:D):Option D:=(kg S y).bind λds=>if cy 40 x=true/\ds.all (cy 39)=true then Y (.bl (ds.any λd=>gJ d x)) else L
def lh(S:ac)(x y:D):Option D:=(kg S y).bind λds=>if cy 40 x=true/\ds.all (cy 39)=true then Y (.bl (!ds.any λd=>gJ d x)) else L
theorem op_In(hu:X.A.units+64<cLine):OpR X (aeL .In) (pY X.K rN):=by
 intro pins s σ H x y v u Q I rx ry h;obtain⟨μ,S,dx,dy,dz,hS,h1,h2,h3,post⟩:=h;obtain⟨ds,e,h3⟩:=aaa.mp h3;split at h3
 ·rename_i hk;cases h3;obtain⟨a,vs,rfl,hq,r⟩:=lJ hS h2 e;cases ry;have ok:=aav.mp hk.2;rcases hq with hq | hq
  ·obtain⟨its,rv,pl,hz⟩:=I.list hq;refine SeqAt.in_listAt 4.4 pl.isList (λw hw=>ip I (by show X.A.units+1+40<cLine;omega) rx h1 hk.1 rv r ok w (by simpa using hw)) ⟨.bl _,H,I,rfl,?_⟩;rw[show its.toArray.any 4.4=its.any 4.4 by simp,nh I rv r ok];exact post.here hS (.bl _)
  ·obtain⟨its,rv,pl,hz⟩:=I.tuple hq;refine SeqAt.in_tupleAt 4.4 pl (λw hw=>ip I (by show X.A.units+1+40<cLine;omega) rx h1 hk.1 rv r ok w (by simpa using hw)) ⟨.bl _,H,I,rfl,?_⟩;rw[show its.toArray.any 4.4=its.any 4.4 by simp,nh I rv r ok];exact post.here hS (.bl _)
 ·cases h3
theorem Pq(hu:X.A.units+64<cLine):OpR X (aeL .NotIn) (pY X.K lh):=by
 intro pins s σ H x y v u Q I rx ry h;obtain⟨μ,S,dx,dy,dz,hS,h1,h2,h3,post⟩:=h;obtain⟨ds,e,h3⟩:=aaa.mp h3;split at h3
 ·rename_i hk;cases h3;obtain⟨a,vs,rfl,hq,r⟩:=lJ hS h2 e;cases ry;have ok:=aav.mp hk.2;rcases hq with hq | hq
  ·obtain⟨its,rv,pl,hz⟩:=I.list hq;refine SeqAt.notIn_listAt 4.4 pl.isList (λw hw=>ip I (by show X.A.units+1+40<cLine;omega) rx h1 hk.1 rv r ok w (by simpa using hw)) ⟨.bl _,H,I,rfl,?_⟩;rw[show its.toArray.any 4.4=its.any 4.4 by simp,nh I rv r ok];exact post.here hS (.bl _)
  ·obtain⟨its,rv,pl,hz⟩:=I.tuple hq;refine SeqAt.notIn_tupleAt 4.4 pl (λw hw=>ip I (by show X.A.units+1+40<cLine;omega) rx h1 hk.1 rv r ok w (by simpa using hw)) ⟨.bl _,H,I,rfl,?_⟩;rw[show its.toArray.any 4.4=its.any 4.4 by simp,nh I rv r ok];exact post.here hS (.bl _)
 ·cases h3
def rL:D->D->Bool
 | .non,.non=>true
 | .bl a,.bl b=>a==b
 | _,_=>false
def yE(S:ac)(x y:D):Option D:=match y with | .non=>Y (.bl (rL x y)) | .bl _=>Y (.bl (rL x y)) | _=>L
def mr(S:ac)(x y:D):Option D:=match y with | .non=>Y (.bl (!rL x y)) | .bl _=>Y (.bl (!rL x y)) | _=>L
theorem QC(h1:Rep K μ H x dx)(h2:Rep K μ H y dy)(rx:RelV x v)(ry:RelV y u)(hy:dy=.non\/∃ b,dy=.bl b):plainIs v u=true/\(v==u)=rL dx dy:=by
 rcases hy with rfl | ⟨b,rfl⟩
 ·cases h2;cases ry;cases h1<;>first | (cases rx;exact⟨rfl,rfl⟩) | (obtain⟨t,rfl⟩:=rx;exact⟨rfl,rfl⟩)
 ·cases h2;cases ry;cases h1<;>first | (cases rx;exact⟨rfl,rfl⟩) | (obtain⟨t,rfl⟩:=rx;exact⟨rfl,rfl⟩) | (cases rx;rename_i c;refine⟨rfl,?_⟩;cases b<;>cases c<;>rfl)
theorem op_Is:OpR X (aeL .Is) (pY X.K yE):=by
 intro pins s σ H x y v u Q I rx ry h;obtain⟨μ,S,dx,dy,dz,hS,h1,h2,h3,post⟩:=h
 have hy:(dy=.non\/∃ b,dy=.bl b)/\dz=.bl (rL dx dy):=by
  cases dy<;>first | (cases h3;exact⟨.inl rfl,rfl⟩) | (cases h3;exact⟨.inr ⟨_,rfl⟩,rfl⟩) | cases h3
 obtain⟨p,e⟩:=QC h1 h2 rx ry hy.1;cases hy.2;exact wpAny_is_plain p ⟨.bl _,H,I,congrArg Value.bool e,post.here hS (.bl _)⟩
theorem Ps:OpR X (aeL .IsNot) (pY X.K mr):=by
 intro pins s σ H x y v u Q I rx ry h;obtain⟨μ,S,dx,dy,dz,hS,h1,h2,h3,post⟩:=h
 have hy:(dy=.non\/∃ b,dy=.bl b)/\dz=.bl (!rL dx dy):=by
  cases dy<;>first | (cases h3;exact⟨.inl rfl,rfl⟩) | (cases h3;exact⟨.inr ⟨_,rfl⟩,rfl⟩) | cases h3
 obtain⟨p,e⟩:=QC h1 h2 rx ry hy.1;cases hy.2;exact wpAny_isNot_plain p ⟨.bl _,H,I,congrArg (λb=>Value.bool (!b)) e,post.here hS (.bl _)⟩
end
end M
namespace HT
section
variable{prog:Op}{w:Qa}{A:SN}{E:ce->gV->Prop}{s:gV}
theorem Wj{ws:List ce}{Q:ce->gV->Prop}(ht:IsTup s.heap t #[])(hb:IsTup s.heap b ws.toArray)(h:Q (.ref b) s):aeN 1.0 A (aeM .Add (.ref t) (.ref b)) Q E s:=by
 obtain⟨⟨cls,dd,data,sl⟩,ho,hc,n,hd⟩:=id ht;obtain⟨⟨cls2,dd2,data2,sl2⟩,ho2,hc2,n2,hd2⟩:=id hb;simp only at hc hd hc2 hd2;subst hc hd hc2 hd2
 exact aej ⟨_,ho,rfl⟩ ⟨_,ho2,rfl⟩ adv adT adx adq (adk _ _)
   (tuple_addW0 t b #[] ws.toArray n n2 dd dd2 sl sl2 rfl) ⟨ho,ho2,h⟩
theorem qA{lo:Option Int}{Q:ce->gV->Prop}(ht:IsTup s.heap t items)(hs:s.heap.IsSliceOf sl vl vu .none)(pl:IsPart vl lo)(pu:IsPart vu hi)
  (hw:gl items.size 0 lo=0/\gl items.size items.size hi=items.size) (h:Q (.ref t) s):aeN 1.0 A 1.27 Q E s:=by
 obtain⟨os,hos,hcs,hds⟩:=id hs;have hTs:s.TypeIs 1.41 "slice":=⟨os,hos,hcs⟩
 unfold getItem
 try with_reducible refine abe ?_
 first | refine aab (aam ?_) | skip
 refine aab (adm ht.typeIs 0.1 ?_)
 refine aab (abM (name:=Str.ofString "__getitem__") ht.typeIs abf
  (acs abf ht.typeIs acY ?_ (ade _ _)))
 show aeN _ _ (Builtin.Tuple.tupleItemsOf (.ref t) >>= _) _ _ s;refine aab (adR ht ?_);refine aab (adr hTs ?_);rw[aas 0.1];refine aab (mD hs pl pu ?_)
 have hyes:(((gl items.size 0 lo:Nat):Int)==0&&(1:Int)==1&&(gl items.size items.size hi - gl items.size 0 lo)==items.size)=true:=by
  rw[hw.1,hw.2];simp
 show aeN _ _ (if (((gl items.size 0 lo:Nat):Int)==0&&(1:Int)==1&&(gl items.size items.size hi - gl items.size 0 lo)==items.size)=true then _ else _) _ _ s;rw[aas hyes];unfold Builtin.Tuple.tupleIsExact;refine aab (aab (adr ht.typeIs (aam ?_)));rw[aas 0.1];exact aab (adJ (aab (aam (aam ⟨_,rfl,aam h⟩))))
end
end HT
namespace M
open L2
section
variable{X:Cx}{K:aeO}{μ μ':Fp}{H H':Hp}{S:ac}
def MW(g:Int->Int->D)(S:ac)(x y:D):Option D:=match x,y with | .int i,.int j=>Y (g i j) | _,_=>L
def Gq(C:Int->Int->Bool)(g:Int->Int->D)(S:ac)(x y:D):Option D:=match x,y with | .int i,.int j=>if C i j=true then Y (g i j) else L | _,_=>L
theorem su{g':Int->Int->D}(h:OpR X f (TD g))(hg:∀ i j μ H,Rep X.K μ H (g i j) (g' i j)):OpR X f (pY X.K (MW g')):=
 OpR.imp h λx y H Q z0=>by
  obtain⟨μ,S,dx,dy,dz,hS,h1,h2,h3,post⟩:=z0;cases dx<;>first | (cases h3;done) | (cases dy<;>first | cases h3 | skip)
  exact⟨_,_,h1.int_inv,h2.int_inv,post.here hS (hg _ _ _ _)⟩
theorem BZ{C':Int->Int->Bool}{g':Int->Int->D}(h:OpR X f (rI C g))(hC:∀ i j,C' i j=true->C i j)(hg:∀ i j μ H,Rep X.K μ H (g i j) (g' i j)):OpR X f (pY X.K (Gq C' g')):=
 OpR.imp h λx y H Q z0=>by
  obtain⟨μ,S,dx,dy,dz,hS,h1,h2,h3,post⟩:=z0;cases dx<;>first | (cases h3;done) | (cases dy<;>first | cases h3 | skip)
  simp only[Gq] at h3;split at h3
  ·rename_i hc;cases h3;exact⟨_,_,h1.int_inv,h2.int_inv,hC _ _ hc,post.here hS (hg _ _ _ _)⟩
  ·cases h3
def lI:=MW λi j=>.int (i - j)
def SR:=MW λi j=>.bl (decide (i<j))
def fLe:=MW λi j=>.bl (decide (i<=j))
def fGt:=MW λi j=>.bl (decide (j<i))
def fGe:=MW λi j=>.bl (decide (j<=i))
theorem Za:OpR X (aeM .Sub) (pY X.K lI):=su YV λz z z z=>.int _
theorem op_Lt:OpR X (aeL .Lt) (pY X.K SR):=su op_lt λz z z z=>.bl _
theorem op_Le:OpR X (aeL .LtE) (pY X.K fLe):=su op_le λz z z z=>.bl _
theorem op_Gt:OpR X (aeL .Gt) (pY X.K fGt):=su op_gt λz z z z=>.bl _
theorem op_Ge:OpR X (aeL .GtE) (pY X.K fGe):=su op_ge λz z z z=>.bl _
def lj:=Gq (λz j=>decide (0<j)) λi j=>.int (i%j)
def Gr:=Gq (λz j=>decide (0<j)&&decide (j<1073741824)) λi j=>.int (i / j)
def zJ:=Gq (λi j=>decide (0<=j)&&decide (j<=1000000)&&decide (i.natAbs<2^64)) λi j=>.int (i^j.toNat)
theorem Zd:OpR X (aeM .Mod) (pY X.K lj):=BZ YY (λz z h=>aba h) λz z z z=>.int _
theorem Ze:OpR X (aeM .FloorDiv) (pY X.K Gr):=BZ Us (λz z h=>by simpa[CDiv] using h) λz z z z=>.int _
theorem Zb:OpR X (aeM .Pow) (pY X.K zJ):=BZ YX (λi j h=>by
 simp only[aae,abk] at h
 exact⟨h.1.1,h.1.2,h.2⟩) λz z z z=>.int _
def sE(i j:Int):Bool:=decide (i.natAbs<18446744073709551616)||decide (j.natAbs<18446744073709551616)||(decide (i.natAbs<2^4000)&&decide (j.natAbs<2^4000))
theorem UB(h:sE i j=true):IntMulOk i j:=by
 unfold sE at h;simp only[acB,aae,abk] at h;rcases h with (h | h) | h
 ·exact .of_left (adN (k:=64) 0.0)
 ·exact .of_right (adN (k:=64) 0.0)
 ·exact .of_bits (aaD (adN (k:=4000) h.1) 0.1) (aaD (adN (k:=4000) h.2) 0.1)
theorem Ur:OpR X 2.02 (rI (λi j=>sE i j=true) λi j=>.int (i*j)):=opI λz z z z z z z hc q=>mul_int q (UB hc)
def qay(S:ac)(x y:D):Option D:=match x,y with
 | .int i,.int j=>if sE i j=true then Y (.int (i*j)) else L
 | _,_=>L
theorem Zc:OpR X 2.02 (pY X.K qay):=OpR.imp Ur λx y H Q z0=>by
 obtain⟨μ,S,dx,dy,dz,hS,h1,h2,h3,post⟩:=z0;cases dx<;>first | (cases h3;done) | (cases dy<;>first | cases h3 | skip)
 simp only[qay] at h3;split at h3
 ·rename_i hc;cases h3;exact⟨_,_,h1.int_inv,h2.int_inv,hc,post.here hS (.int _)⟩
 ·cases h3
def Rb(S:ac)(x y:D):Option D:=match x,y with
 | .int i,.int j=>Y (.int (i+j))
 | .str i,.str j=>if i.length+j.length<=Vj then Y (.str (i++j)) else L
 | .tup xs,.tup ys=>if xs.length+ys.length<=Vj then Y (.tup (xs++ys)) else L
 | .lst xs,.lst ys=>if xs.length+ys.length<=Vj then Y (.lst (xs++ys)) else L
 | _,_=>L
theorem Zf:OpR X 1.83 (pY X.K Rb):=by
 intro pins s σ H x y v u Q I rx ry h;obtain⟨μ,S,dx,dy,dz,hS,h1,h2,h3,post⟩:=h;cases dx<;>first | (cases h3;done) | (cases dy<;>first | cases h3 | skip)
 case int.int i j=>exact YZ pins s σ H x y v u Q I rx ry ⟨_,_,h1.int_inv,h2.int_inv,post.here hS (.int _)⟩
 case str.str i j=>
  simp only[Rb] at h3;split at h3
  ·rename_i hl;cases h3;exact HM pins s σ H x y v u Q I rx ry ⟨_,_,h1.str_inv,h2.str_inv,hl,post.here hS (.str _)⟩
  ·cases h3
 case tup.tup xs ys=>
  simp only[Rb] at h3;split at h3
  ·rename_i hl;cases h3;have h2':=h2;have h1':=h1;obtain⟨a,vs,rfl,q1,r1⟩:=h1.sqT;obtain⟨b,ws,rfl,q2,r2⟩:=h2.sqT;have e1:=r1.length;have e2:=r2.length;by_cases hv:vs=[]
   ·subst hv;have hx:xs=[]:=abA (by simpa using e1.symm);subst hx;cases rx;cases ry;obtain⟨its,rv,p1,z⟩:=I.tuple q1;obtain⟨its2,rv2,p2,z⟩:=I.tuple q2;have:its=[]:=rv.nil_iff.mpr rfl;subst this;exact HT.Wj p1 p2 ⟨.ref b,H,I,rfl,post.here hS h2'⟩
   ·refine Ut pins s σ H _ _ v u Q I rx ry ⟨a,b,vs,ws,rfl,rfl,q1,q2,hv,by omega,λhw=>?_,λhw p hp=>post.tup hS hp (r1.append r2)⟩;subst hw;have hy:ys=[]:=abA (by simpa using e2.symm);subst hy;rw[aaN] at post;exact post.here hS h1'
  ·cases h3
 case lst.lst xs ys=>
  simp only[Rb] at h3;split at h3
  ·rename_i hl;cases h3;obtain⟨a,vs,rfl,q1,n1,r1⟩:=h1.sqL;obtain⟨b,ws,rfl,q2,n2,r2⟩:=h2.sqL;have e1:=r1.length;have e2:=r2.length;exact Pp pins s σ H _ _ v u Q I rx ry ⟨a,b,vs,ws,rfl,rfl,q1,q2,by omega,λp hp=>post.lst hS hp (r1.append r2)⟩
  ·cases h3
theorem XW:UnR X (unaryOp .USub) (rM1 X.K λz x=>match x with | .int i=>Y (.int (-i)) | _=>L):=UnR.imp XV λx H Q z0=>by
 obtain⟨μ,S,dx,dz,hS,h1,h3,post⟩:=z0;cases dx<;>first | cases h3 | skip
 exact⟨_,h1.int_inv,post.here hS (.int _)⟩
def Av(f:ac->D->Option D)(a:ME):ME:=λenv S=>(a env S).bind λp=>(f p.2 p.1).bind λz=>Y (z,p.2)
theorem de_un(ho:UnR X (unaryOp op) (rM1 X.K f))(ha:DE X a ma):DE X 2.05 (Av f ma):=
 PE.imp (pe_un ho ha) λσ H Q z0=>by
  obtain⟨μ,S,env,d,S',hS,hE,hm,post⟩:=z0;obtain⟨⟨x,S1⟩,h1,hm⟩:=aaa.mp hm;obtain⟨z,h2,hm⟩:=aaa.mp hm;cases hm;exact⟨μ,S,env,x,_,hS,hE,h1,λv H1 μ1 e1 s1 r1=>⟨μ1,_,x,_,s1,r1,h2,post.ext e1⟩⟩
theorem Wv{d:D}(r:Reps K μ H vs ds)(h:ou ds i=Y d):∃ v,ou vs i=Y v/\Rep K μ H v d:=by
 unfold ou at h ⊢;rw[r.length];obtain⟨j,h1,h2⟩:=aaa.mp h;obtain⟨v,h3,h4⟩:=r.get h2;exact⟨v,by rw[h1];exact h3,h4⟩
def fIx(S:ac)(x y:D):Option D:=match y with | .int i=>(kg S x).bind λxs=>ou xs i | _=>L
theorem ix_D:IxR X (pY X.K fIx):=IxR.imp (ix_list.or qai) λx y H Q z0=>by
 obtain⟨μ,S,dx,dy,dz,hS,h1,h2,h3,post⟩:=z0;cases dy<;>first | cases h3 | skip
 rename_i i;obtain⟨xs,e,h3⟩:=aaa.mp h3;obtain⟨a,vs,rfl,hq,r⟩:=lJ hS h1 e;obtain⟨v,h4,h5⟩:=Wv r h3;rcases hq with hq | hq
 ·exact .inl ⟨a,vs,i,v,rfl,h2.int_inv,hq,h4,post.here hS h5⟩
 ·exact .inr ⟨a,vs,i,v,rfl,h2.int_inv,hq,h4,post.here hS h5⟩
def gK{α:Type}(xs:List α)(lo hi:Option Int):List α:=(xs.drop 1.14).take (HT.gl xs.length xs.length hi - HT.gl xs.length 0 lo)
noncomputable abbrev MO:=be->ac->Option (Option Int×ac)
def bC:MO:=λz S=>Y (L,S)
def bS(m:ME):MO:=λenv S=>(m env S).bind λp=>match p.1 with | .int i=>Y (Y i,p.2) | _=>L
inductive tMO(K:aeO)(m:MO)(σ:L2.St)(H:Hp)(Q:Option Int->Hp->Prop):Prop
 | mk (μ:Fp) (S:ac) (env:be) (o:Option Int) (S':ac) (hS:SOk K μ S H) (hE:EOk K μ H σ env) (h:m env S=Y (o,S')) (post:∀ H' μ',Ext μ H μ' H'->SOk K μ' S' H'->Q o H')
def DO(X:Cx)(e:Option vx)(m:MO):Prop:=PO X e (tMO X.K m)
theorem PO.imp{t':TO}(h:PO X e t)(i:∀ σ H Q,t' σ H Q->t σ H Q):PO X e t':=λpins s σ H Q I q=>h pins s σ H Q I 1.74
theorem VP:DO X L bC:=PO.imp Ua λσ H Q ⟨μ,S,env,d,S',hS,hE,hm,post⟩=>by cases hm;exact post H μ hS.ext hS
theorem VO(h:DE X e m):DO X (Y e) (bS m):=PO.imp (TZ h) λσ H Q z0=>by
 obtain⟨μ,S,env,d,S',hS,hE,hm,post⟩:=z0;obtain⟨⟨x,S1⟩,h1,hm⟩:=aaa.mp hm;cases x<;>first | cases hm | skip
 exact⟨μ,S,env,_,_,hS,hE,h1,λv H1 μ1 e1 s1 r1=>⟨_,r1.int_inv,post H1 μ1 e1 s1⟩⟩
def bz(a:ME)(lo hi:MO):ME:=λenv S=>(a env S).bind λp=>(lo env p.2).bind λl=>(hi env l.2).bind λh=>match p.1 with
 | .tup xs=>Y (.tup (gK xs l.1 h.1),h.2)
 | .lst xs=>Y (.lst (gK xs l.1 h.1),h.2)
 | .rol xs=>Y (.lst (gK xs l.1 h.1),h.2)
 | .ref r=>match h.2[r]? with | some 2.4=>Y (.lst (gK xs l.1 h.1),h.2) | _=>L
 | _=>L
theorem wG{lo:Option Int}(r:Reps K μ H vs ds):Reps K μ H (GF vs lo hi) (gK ds lo hi):=by
 unfold GF gK;rw[r.length];exact(r.drop _).take _
theorem To:SlR X (λx lo hi H Q=>∃ a xs,x=.ref a/\rR X.K H a xs/\(HT.gl xs.length 0 lo=0/\HT.gl xs.length xs.length hi=xs.length)/\Q (.ref a) H):=by
 intro pins s σ H x v vl vu lo hi sl Q I rx hs pl pu h;obtain⟨a,xs,rfl,hx,hw,q⟩:=h;cases rx;obtain⟨its,r,ht,hz⟩:=I.tuple hx;have hlen:its.toArray.size=xs.length:=by rw[aai];exact r.length.symm
 refine⟨"tuple",_,PyProof.Rows.slot_tuple_getitem.lookup,ht.typeIs,?_⟩;exact HT.qA ht hs pl pu (by rw[hlen];exact hw) ⟨.ref a,H,I,rfl,q⟩
theorem Se{lo:Option vx}(ha:DE X a ma)(hl:DO X lo ml)(hh:DO X hi mh):DE X (.Subscript a 2.06 pos) (bz ma ml mh):=
 PE.imp (Pe (SlR.or To (SlR.or Yj Tp)) ha hl hh) λσ H Q z0=>by
  obtain⟨μ,S,env,d,S',hS,hE,hm,post⟩:=z0;obtain⟨⟨x,S1⟩,h1,hm⟩:=aaa.mp hm;obtain⟨⟨l,S2⟩,h2,hm⟩:=aaa.mp hm;obtain⟨⟨h,S3⟩,h3,hm⟩:=aaa.mp hm;refine⟨μ,S,env,x,S1,hS,hE,h1,λv H1 μ1 e1 s1 r1=>⟨μ1,S1,env,l,S2,s1,hE.mono e1,h2,λH2 μ2 e2 s2=>⟨μ2,S2,env,h,S3,s2,(hE.mono e1).mono e2,h3,λH3 μ3 e3 s3=>?_⟩⟩⟩;have r3:=(r1.mono e2).mono e3;have e:=(e1.trans e2).trans e3;cases x with
  | tup xs=>
   cases hm;have r3':=r3;obtain⟨a,vs,rfl,q1,r⟩:=r3.sqT;by_cases hw:HT.gl vs.length 0 l=0/\HT.gl vs.length vs.length h=vs.length
   ·refine .inl ⟨a,vs,rfl,q1,hw,?_⟩;have:gK xs l h=xs:=by unfold gK;rw[<- r.length,hw.1,hw.2];simp[r.length]
    rw[this] at post;exact post _ H3 μ3 e s3 r3'
   ·exact .inr (.inl ⟨a,vs,rfl,q1,hw,λp hp=>(post.ext e).tup s3 hp (wG r)⟩)
  | lst xs=>
   cases hm;obtain⟨a,vs,rfl,q1,n1,r⟩:=r3.sqL;exact .inr (.inr ⟨a,vs,rfl,.inl (.inl q1),λp hp=>(post.ext e).lst s3 hp (wG r)⟩)
  | rol xs=>
   cases hm;obtain⟨a,vs,rfl,q1,r⟩:=r3.sqR;exact .inr (.inr ⟨a,vs,rfl,q1,λp hp=>(post.ext e).lst s3 hp (wG r)⟩)
  | ref r=>
   dsimp only at hm;split at hm
   ·rename_i xs q;cases hm;cases r3 with
    | @ref a _ ha=>
     obtain⟨vs,hv,rv⟩:=s3.cell r a _ ha q;exact .inr (.inr ⟨a,vs,rfl,.inl (.inl hv),λp hp=>(post.ext e).lst s3 hp (wG rv)⟩)
   ·cases hm
  | _=>cases hm
end
section
variable{X:Cx}{K:aeO}{μ μ':Fp}{H H':Hp}{S:ac}
def bF(f:List D->ac->Option (D×ac))(ms:MA):ME:=λenv S=>(ms env S).bind λp=>f p.1 p.2
theorem Ol(h:tM K (bF f ms) σ H Q):tCB (NR K f) (tMA K ms) σ H Q:=by
 obtain⟨μ,S,env,d,S',hS,hE,hm,post⟩:=h;obtain⟨⟨xs,S1⟩,h1,hm⟩:=aaa.mp hm;exact⟨μ,S,env,xs,S1,hS,hE,h1,λvs H1 μ1 e1 s1 r1=>⟨μ1,S1,xs,d,S',s1,r1,hm,post.ext e1⟩⟩
section
variable{x:Str}{p pos:Pos}{e:vx}{es:List vx}{ms:MA}{id T:String}{f:List D->ac->Option (D×ac)}
theorem pM(hc:CallR X 4.9 (NR X.K f))(hm:X.mg x=L)(hv:bootBuiltins x=Y 4.9)(ha:DA X (e::es) ms)(hg:Gl X x:=by rfl)(hn:x≠"__name__":=by decide)(hdb:(x==("__debug__":Str))=false:=by decide)
  (he:WP (e::es) X.env=(false,eval e X.env)::WP es X.env:=by rfl) (hpl:(backTo pos 2.2).any (·.1)=false:=by rfl):DE X (.Call 6.0 (e::es) [] pos) (bF f ms):=
 PE.imp (Et hc hg hm hv ha hn hdb he hpl) λz z z h=>Ol h
theorem uF(hc:CallR X 1.55 (NR X.K f))(hm:X.mg x=L)(hv:bootBuiltins x=Y 1.55)(ha:DA X (e::es) ms)(hg:Gl X x:=by rfl)(hn:x≠"__name__":=by decide)(hdb:(x==("__debug__":Str))=false:=by decide)
  (he:WP (e::es) X.env=(false,eval e X.env)::WP es X.env:=by rfl) (hpl:(backTo pos 2.2).any (·.1)=false:=by rfl):DE X (.Call 6.0 (e::es) [] pos) (bF f ms):=
 PE.imp (LV hc hg hm hv ha hn hdb he hpl) λz z z h=>Ol h
end
theorem Reps.one{d:D}(r:Reps K μ H vs [d]):∃ v,vs=[v]/\Rep K μ H v d:=by
 cases r with
 | cons h t=>cases t;exact⟨_,rfl,h⟩
theorem Reps.two{d e:D}(r:Reps K μ H vs [d,e]):∃ v w,vs=[v,w]/\Rep K μ H v d/\Rep K μ H w e:=by
 cases r with
 | cons h t=>cases t with | cons h' t=>cases t;exact⟨_,_,rfl,h,h'⟩
def bb(f:ac->List D->Option D):List D->ac->Option (D×ac):=λds S=>(f S ds).bind λd=>Y (d,S)
theorem eM{S S':ac}{d:D}(h:bb f ds S=Y (d,S')):S'=S/\f S ds=Y d:=by
 obtain⟨z,h1,h⟩:=aaa.mp h;cases h;exact⟨rfl,h1⟩
def jc(S:ac):List D->Option D
 | [.str z]=>if z.length<=Vj then Y (.int z.length) else L
 | [d]=>(kg S d).bind λxs=>Y (.int xs.length)
 | _=>L
theorem Sx:CallR X (.builtin "len") (NR X.K (bb jc)):=CallR.imp (call_len_seq.or Dq) λxs H Q z0=>by
 obtain⟨μ,S,ds,d,S',hS,hr,hm,post⟩:=z0;obtain⟨rfl,hm⟩:=eM hm;cases ds with
 | nil=>cases hm
 | cons x r=>
  cases r with
  | cons _ _=>simp[jc] at hm
  | nil=>
   obtain⟨v,rfl,r⟩:=hr.one;cases x with
   | str z=>
    simp only[jc] at hm;split at hm
    ·rename_i hl;cases hm;exact .inr ⟨z,by rw[r.str_inv],hl,post.here hS (.int _)⟩
    ·cases hm
   | tup xs=>
    cases hm;obtain⟨a,vs,rfl,hq,r⟩:=lJ hS r rfl;exact .inl ⟨a,vs,rfl,hq,by rw[r.length];exact post.here hS (.int _)⟩
   | lst xs=>
    cases hm;obtain⟨a,vs,rfl,hq,r⟩:=lJ hS r rfl;exact .inl ⟨a,vs,rfl,hq,by rw[r.length];exact post.here hS (.int _)⟩
   | rol xs=>
    cases hm;obtain⟨a,vs,rfl,hq,r⟩:=lJ hS r rfl;exact .inl ⟨a,vs,rfl,hq,by rw[r.length];exact post.here hS (.int _)⟩
   | ref i=>
    obtain⟨xs,h1,hm⟩:=aaa.mp hm;cases hm;obtain⟨a,vs,rfl,hq,r⟩:=lJ hS r h1;exact .inl ⟨a,vs,rfl,hq,by rw[r.length];exact post.here hS (.int _)⟩
   | _=>cases hm
def lm(S:ac):List D->Option D
 | [.int i]=>Y (.int i)
 | [.bl k]=>Y (.int (if k then 1 else 0))
 | _=>L
theorem Sy:CallR X (.type "int") (NR X.K (bb lm)):=CallR.imp NF λxs H Q z0=>by
 obtain⟨μ,S,ds,d,S',hS,hr,hm,post⟩:=z0;obtain⟨rfl,hm⟩:=eM hm;cases ds with
 | nil=>cases hm
 | cons x r=>
  cases r with
  | cons _ _=>simp[lm] at hm
  | nil=>
   obtain⟨v,rfl,r⟩:=hr.one;cases x with
   | int i=>cases hm;exact .inl ⟨i,by rw[r.int_inv],post.here hS (.int _)⟩
   | bl k=>cases hm;exact .inr ⟨k,by rw[r.bl_inv],post.here hS (.int _)⟩
   | _=>cases hm
def Xp(S:ac):List D->Option D
 | [.int i,.int j]=>Y (.int (if j>i then j else i))
 | _=>L
def KP(S:ac):List D->Option D
 | [.int i,.int j]=>Y (.int (if j<i then j else i))
 | _=>L
theorem Xj{ds:List D}{f:Int->Int->D}{d:D}(h:(match ds with | [.int i,.int j]=>Y (f i j) | _=>L)=Y d):∃ i j,ds=[.int i,.int j]/\d=f i j:=by
 split at h
 ·cases h;exact⟨_,_,rfl,rfl⟩
 ·cases h
theorem NJ(hc:X.calm=true):CallR X (.builtin "max") (NR X.K (bb Xp)):=CallR.imp (NE hc) λxs H Q z0=>by
 obtain⟨μ,S,ds,d,S',hS,hr,hm,post⟩:=z0;obtain⟨rfl,hm⟩:=eM hm;obtain⟨i,j,rfl,rfl⟩:=Xj (f:=λi j=>.int (if j>i then j else i)) hm;obtain⟨v,w,rfl,r1,r2⟩:=hr.two;exact⟨i,j,by rw[r1.int_inv,r2.int_inv],post.here hS (.int _)⟩
theorem NH(hc:X.calm=true):CallR X (.builtin "min") (NR X.K (bb KP)):=CallR.imp (NC hc) λxs H Q z0=>by
 obtain⟨μ,S,ds,d,S',hS,hr,hm,post⟩:=z0;obtain⟨rfl,hm⟩:=eM hm;obtain⟨i,j,rfl,rfl⟩:=Xj (f:=λi j=>.int (if j<i then j else i)) hm;obtain⟨v,w,rfl,r1,r2⟩:=hr.two;exact⟨i,j,by rw[r1.int_inv,r2.int_inv],post.here hS (.int _)⟩
def dh(c:List D->D)(S:ac):List D->Option D
 | [d]=>(kg S d).bind λxs=>Y (c xs)
 | _=>L
theorem yz{S:ac}{d:D}(h:dh c S ds=Y d):∃ x xs,ds=[x]/\kg S x=Y xs/\d=c xs:=by
 match ds,h with
 | [x],h=>
  obtain⟨xs,h1,h⟩:=aaa.mp h;cases h;exact⟨x,xs,rfl,h1,rfl⟩
 | [],h=>cases h
 | _::_::_,h=>cases h
theorem NK:CallR X (.type "list") (NR X.K 1.47):=CallR.imp Dp λxs H Q z0=>by
 obtain⟨μ,S,ds,d,S',hS,hr,hm,post⟩:=z0;obtain⟨rfl,hm⟩:=eM hm;obtain⟨x,ys,rfl,h1,rfl⟩:=yz hm;obtain⟨v,rfl,r⟩:=hr.one;obtain⟨a,vs,rfl,hq,r⟩:=lJ hS r h1;exact⟨a,vs,rfl,hq,λl hl=>post.lst hS hl r⟩
theorem JE:CallR X (.type "tuple") (NR X.K 2.8):=CallR.imp zP λxs H Q z0=>by
 obtain⟨μ,S,ds,d,S',hS,hr,hm,post⟩:=z0;obtain⟨rfl,hm⟩:=eM hm;obtain⟨x,ys,rfl,h1,rfl⟩:=yz hm;obtain⟨v,rfl,r⟩:=hr.one;cases x with
 | tup zs=>
  cases h1;have r':=r;obtain⟨a,vs,rfl,q,r⟩:=r.sqT;exact⟨a,vs,rfl,.inr ⟨q,post.here hS r'⟩⟩
 | lst zs=>
  cases h1;obtain⟨a,vs,rfl,q,n,r⟩:=r.sqL;exact⟨a,vs,rfl,.inl ⟨.inl (.inl q),λl hl=>post.tup hS hl r⟩⟩
 | rol zs=>
  cases h1;obtain⟨a,vs,rfl,q,r⟩:=r.sqR;exact⟨a,vs,rfl,.inl ⟨q,λl hl=>post.tup hS hl r⟩⟩
 | ref i=>
  simp only[kg] at h1;cases r with
  | @ref a _ h'=>
   cases q:S'[i]? with
   | none=>rw[q] at h1;cases h1
   | some c=>
    rw[q] at h1;have ck:=hS.cell i a c h' q;cases c with
    | lst xs=>cases h1;obtain⟨vs,e,r⟩:=ck;exact⟨a,vs,rfl,.inl ⟨.inl (.inl e),λl hl=>post.tup hS hl r⟩⟩
    | dct ks xs=>cases h1
 | _=>cases h1
def iR:List D->Option (List Bool)
 | []=>Y []
 | .bl b::r=>(iR r).bind λbs=>Y (b::bs)
 | _=>L
def Gs(S:ac):List D->Option D
 | [.lst xs]=>(iR xs).bind λbs=>Y (.bl (bs.all id))
 | _=>L
def Da(S:ac):List D->Option D
 | [.lst xs]=>(iR xs).bind λbs=>Y (.bl (bs.any id))
 | _=>L
theorem vA:∀ {vs:List V} {ds:List D} {us:List ce} {bs:List Bool},Reps K μ H vs ds->Vals vs us->iR ds=Y bs->LSm.BoolsAre us bs:=λ{vs ds us bs} r v h=>
 Reps.ind (Q:=λvs ds=>∀ (us:List ce) (bs:List Bool),Vals vs us->iR ds=Y bs->LSm.BoolsAre us bs) (λus bs v h=>by cases v;cases h;exact .nil) (λ{_ d _ _} r t i us bs v h=>by
  cases v with | cons rv tv=>?_
  cases d<;>first | cases h | skip
  obtain⟨cs,h1,h⟩:=aaa.mp h;cases h;cases r;cases rv
  exact .cons _ (i _ _ tv h1)) r us bs v h
theorem SA(hc:X.calm=true):CallR X (.builtin "all") (NR X.K (bb Gs)):=by
 intro pins s σ H xs us Q I rv h;obtain⟨μ,S,ds,d,S',hS,hr,hm,post⟩:=h;obtain⟨rfl,hm⟩:=eM hm;cases ds with
 | nil=>cases hm
 | cons x r=>
  cases r with
  | cons _ _=>simp[Gs] at hm
  | nil=>
   obtain⟨v,rfl,r⟩:=hr.one;cases x with
   | lst zs=>
    obtain⟨bs,h1,hm⟩:=aaa.mp hm;cases hm;obtain⟨u,rfl,ru⟩:=rY rv;obtain⟨a,vs,rfl,q,n,r⟩:=r.sqL;cases ru;obtain⟨its,rv',pl,hz⟩:=I.list 9.3;have hl:=pl.isList;have hb:=vA r rv' h1;have hlt:a<s.heap.objs.size:=by obtain⟨z,e,z⟩:=hl;exact aaq e
    refine call_all_walk (acm hl ?_)
    refine⟨s.heap.objs.size,[s.heap.objs.size,a],[s.heap.objs.size],its.toArray.size,_,_,λi=>(bs[i]?).getD true,rfl,Walks.list (A:=X.A.in1) 6.6 _ a (aaM hlt) its.toArray,
     ⟨⟨_,aay _ rfl,rfl,rfl⟩,hl.push _⟩,λi v s' Q' E' hP hQ=>?_,λh' tk hk=>?_⟩
    ·obtain⟨b,e,rfl⟩:=hb.get i v (by simpa using hP);simp only[e,adw] at hQ;exact abI hQ
    ·have e:((List.range its.toArray.size).all λi=>(bs[i]?).getD true)=bs.all id:=by
      rw[aai,hb.length];exact LSm.range_all bs
     rw[e];exact⟨.bl _,H,I.kept (LSm.kept_iter hk),rfl,post.here hS (.bl _)⟩
   | _=>cases hm
def tyD(S:ac):D->Option String
 | .non=>Y "NoneType"
 | .bl _=>Y "bool"
 | .int _=>Y "int"
 | .str _=>Y "str"
 | .tup _=>Y "tuple"
 | .lst _=>Y "list"
 | .rol _=>Y "list"
 | .dct _ _=>Y "dict"
 | .ref r=>match S[r]? with | some (.lst _)=>Y "list" | some (.dct _ _)=>Y "dict" | _=>L
 | .txt=>Y "str"
 | .obj=>Y "dict"
 | .exc _ _ _=>L
 | .fn _=>L
def Qy(T:String)(t:String):Bool:=t==T||(t=="bool"&&T=="int")
def zK(T:String)(S:ac)(d:D):Option D:=(tyD S d).bind λt=>Y (.bl (Qy T t))
def jI(T:String)(m:ME):ME:=λenv S=>(m env S).bind λp=>(zK T p.2 p.1).bind λd=>Y (d,p.2)
theorem Ls{S:ac}{d:D}(h:tyD S d=Y t):t = "NoneType"\/t = "bool"\/t = "int"\/t = "str"\/t = "tuple"\/t = "list"\/t = "dict":=by
 cases d<;>simp only[tyD] at h<;>first | (cases h;simp) | (split at h<;>first | (cases h;simp) | cases h) | cases h
theorem UI(K:aeO){T t:String}(hT:T = "int"\/T = "bool"\/T = "str"\/T = "tuple"\/T = "list"\/T = "dict")(ht:t = "NoneType"\/t = "bool"\/t = "int"\/t = "str"\/t = "tuple"\/t = "list"\/t = "dict") :
  W.kitOne K (.type t) 1.55=Y (Qy T t):=by
 rcases hT with rfl | rfl | rfl | rfl | rfl | rfl<;>rcases ht with rfl | rfl | rfl | rfl | rfl | rfl | rfl<;>rfl
theorem kia_D{s:gV}{d:D}{Q:ce->gV->Prop}(I:Inv X pins σ H s)(hS:SOk X.K μ S H)(r:Rep X.K μ H v d)(ru:RelV v u)(ht:tyD S d=Y t)
  (e:W.kitOne X.K (.type t) c=Y b) (h:∀ tk,Q 1.61 { s with toks:=tk }):aeN 0.2 X.A (call (.builtin "isinstance") [u,c]) Q E s:=by
 have tupK:∀ {a:tx} {vs:List V},rR X.K H a vs->W.KitAt a "tuple" s.heap:=λ{a vs} q=>by
  obtain⟨its,j,⟨o,h1,h2,j⟩,j⟩:=I.tuple q;exact⟨o,h1,h2⟩
 have lstK:∀ {a:tx} {vs:List V},qD X.K H a vs->W.KitAt a "list" s.heap:=λ{a vs} q=>by
  obtain⟨its,j,⟨o,n,h1,h2,j⟩,j⟩:=I.list q;exact⟨o,h1,h2⟩
 have dK:∀ {a:tx} {kvs:List (cf×V)},H a=Y 7.2->W.KitAt a "dict" s.heap:=λ{a kvs} q=>by
  obtain⟨j,j,vs,j,p⟩:=(show ObjOk X.prog X.w H s.heap a 7.2 from I.hok a _ q)
  obtain⟨o,es,ep,h1,h2,j⟩:=p;exact⟨o,h1,h2.1⟩
 cases r with
 | non=>cases ht;cases ru;exact abO W.kitx_none I.kIn True.intro e (λz=>nomatch z) h
 | bl y=>cases ht;cases ru;exact abO W.kitx_bool I.kIn True.intro e (λz=>nomatch z) h
 | int i=>cases ht;obtain⟨t,rfl⟩:=ru;exact abO W.kitx_int I.kIn True.intro e (λz=>nomatch z) h
 | str y=>cases ht;obtain⟨t,rfl⟩:=ru;exact abO W.kitx_str I.kIn True.intro e (λz=>nomatch z) h
 | tup q n r=>cases ht;cases ru;exact abO W.kitx_tuple I.kIn (tupK 9.3) e (λz=>nomatch z) h
 | ktup q r=>cases ht;cases ru;exact abO W.kitx_tuple I.kIn (tupK (.inr q)) e (λz=>nomatch z) h
 | lst q n r=>cases ht;cases ru;exact abO adB I.kIn (lstK 9.3) e (λz=>nomatch z) h
 | rol q n r=>cases ht;cases ru;exact abO adB I.kIn (lstK (.inl q)) e (λz=>nomatch z) h
 | krol q r=>cases ht;cases ru;exact abO adB I.kIn (lstK (.inr q)) e (λz=>nomatch z) h
 | dct q n r=>cases ht;cases ru;exact abO aew I.kIn (dK q) e (λz=>nomatch z) h
 | txt y=>cases ht;obtain⟨t,rfl⟩:=ru;exact abO W.kitx_str I.kIn True.intro e (λz=>nomatch z) h
 | obj q n=>cases ht;cases ru;exact abO aew I.kIn ((show ObjOk X.prog X.w H s.heap _ (.ext (Xi _)) from I.hok _ _ q).1) e (λz=>nomatch z) h
 | exc q n q2 n2=>cases ht
 | fn a=>cases ht
 | @ref a i h'=>
  cases ru;simp only[tyD] at ht;cases q:S[i]? with
  | none=>rw[q] at ht;cases ht
  | some c'=>
   rw[q] at ht;have ck:=hS.cell i a c' h' q;cases c' with
   | lst xs=>cases ht;obtain⟨vs,q,r⟩:=ck;exact abO adB I.kIn (lstK 9.3) e (λz=>nomatch z) h
   | dct ks xs=>cases ht;obtain⟨kvs,q,r⟩:=ck;exact abO aew I.kIn (dK q) e (λz=>nomatch z) h
theorem Nt{p:Pos}(hm:X.mg "isinstance" = L)(hmT:X.mg x=L)(hb:bootBuiltins x=Y 1.55)(ha:DE X a ma)
  (hT:T = "int"\/T = "bool"\/T = "str"\/T = "tuple"\/T = "list"\/T = "dict":=by simp)
  (hg:Gl X "isinstance":=by rfl) (hgT:Gl X x:=by rfl) (hn:x≠"__name__":=by decide) (hd:(x==("__debug__":Str))=false:=by decide)
  (hs1:WP [a,.Name x p2] X.env=(false,eval a X.env)::WP [.Name x p2] X.env:=by rfl) (hs2:WP [.Name x p2] X.env=(false,eval (.Name x p2) X.env)::WP [] X.env:=by rfl) (hpl:(backTo pos (WP [.Name x p2] X.env)).any (·.1)=false:=by rfl) :
  DE X (.Call (.Name "isinstance" p) [a,.Name x p2] [] pos) (jI T ma):=by
 have hc:CallR X (.builtin "isinstance") (λvs H Q=>∃ v μ S d t,vs=[v,.ty T]/\SOk X.K μ S H/\Rep X.K μ H v d/\tyD S d=Y t/\Q (.bl (Qy T t)) H):=by
  intro pins s σ H xs us Q I rv h;obtain⟨v,μ,S,d,t,rfl,hS,r,ht,q⟩:=h;obtain⟨u,w',rfl,r1,r2⟩:=JQ rv;cases r2;exact kia_D I hS r r1 ht (UI _ hT (Ls ht)) λtk=>⟨.bl _,H,I.tok _,rfl,q⟩
 refine PE.imp (Et hc hg hm boot_isinstance (BY ha (BY (Uj (v:=.ty T) hgT hmT hb rfl hn hd) Po hs2) hs1) 0.1 0.1 hs1 hpl) λσ H Q ⟨μ,S,env,d,S',hS,hE,hm,post⟩=>?_;obtain⟨⟨x,S1⟩,h1,hm⟩:=aaa.mp hm;obtain⟨z,h2,hm⟩:=aaa.mp hm;cases hm;obtain⟨t,h3,h2⟩:=aaa.mp h2;cases h2;exact⟨μ,S,env,x,S1,hS,hE,h1,λv H1 μ1 e1 s1 r1=>⟨v,μ1,S1,x,t,rfl,s1,r1,h3,post _ H1 μ1 e1 s1 (.bl _)⟩⟩
end
section
variable{X:Cx}{K:aeO}{μ μ':Fp}{H H':Hp}{S:ac}
def OA(K:aeO)(n:Nat)(f:List D->ac->Option (D×ac)):Sp:=λvs H Q z=>∃ μ S ds d S',SOk K μ S H/\Reps K μ H vs ds/\ds.length=n/\f ds S=Y (d,S')/\Post K μ H S' d Q
structure Fn(P:Op)(w:Qa)(K:aeO)(mg:Str->Option ce)(base:TF)(k:Nat)(x:Str)(n:Nat)(f:List D->ac->Option (D×ac)):Prop where
 ex:∃ (a:tx) (fd:FuncData) (ps:List Str),ps.length=n/\FnOk P w K mg base GX k a fd ps (OA K n f)/\mg x=Y (.ref a)/\W.keepIn K (.ref a)=true/\Binds K fd ps []
def ax(n:Nat)(f:List D->ac->Option (D×ac))(ms:MA):ME:=λenv S=>(ms env S).bind λp=>if p.1.length=n then f p.1 p.2 else L
theorem DU(h:tM K (ax n f ms) σ H Q):Aa (OA K n f) [] E0 (tMA K ms) σ H Q:=by
 obtain⟨μ,S,env,d,S',hS,hE,hm,post⟩:=h;obtain⟨⟨xs,S1⟩,h1,hm⟩:=aaa.mp hm;dsimp only at hm;split at hm
 ·rename_i hn;refine⟨μ,S,env,xs,S1,hS,hE,h1,λvs H1 μ1 e1 s1 r1=>?_⟩;show OA K n f (vs++[]) H1 Q E0;rw[aaN];exact⟨μ1,S1,xs,d,S',s1,r1,hn,hm,post.ext e1⟩
 ·cases hm
theorem Wb{k:Nat}{e:vx}{es:List vx}(F:Fn X.prog X.w X.K X.mg X.base k x n f)(hr:Room k X.A)(ha:DA X (e::es) ms)(hg:Gl X x:=by rfl)
  (hdb:(x==("__debug__":Str))=false:=by decide) (he:WP (e::es) X.env=(false,eval e X.env)::WP es X.env:=by rfl) (hpl:(backTo pos 2.2).any (·.1)=false:=by rfl) :
  DE X (.Call 6.0 (e::es) [] pos) (ax n f ms):=by
 obtain⟨a,fd,ps,hn,F,hm,hk,hb⟩:=F.ex;exact PE.imp (Ui F hr hg hm hk hb .nil Pn ha hdb he hpl) λz z z h=>DU h
theorem Sl{k:Nat}(F:Fn X.prog X.w X.K X.mg X.base k x 0 f)(hr:Room k X.A)(hg:Gl X x:=by rfl)
  (hdb:(x==("__debug__":Str))=false:=by decide):DE X (.Call 6.0 [] [] pos) (ax 0 f ao):=by
 obtain⟨a,fd,ps,hn,F,hm,hk,hb⟩:=F.ex;refine PE.imp (Pm F hr hg hm hk hb .nil Pn hdb) λσ H Q h=>?_;obtain⟨μ,S,env,d,S',hS,hE,hm,post⟩:=h;exact⟨μ,S,[],d,S',hS,.nil,rfl,hm,post⟩
mutual
def tO(n:Nat):D->Bool
 | .tup xs=>closDs n xs
 | .lst xs=>closDs n xs
 | .rol xs=>closDs n xs
 | .dct _ xs=>closDs n xs
 | .ref r=>decide (r<n)
 | _=>true
def closDs(n:Nat):List D->Bool
 | []=>true
 | d::ds=>tO n d&&closDs n ds
end
def Bk(n:Nat):yY->Bool
 | .lst xs=>closDs n xs
 | .dct _ xs=>closDs n xs
theorem rP:∀ {ds:List D},closDs n ds=true->∀ d∈ds,tO n d=true
 | _::_,c,_,.head _=>(aae _ _ |>.mp c).1
 | _::_,c,_,.tail _ h=>rP (aae _ _ |>.mp c).2 _ h
theorem Rep.trunc{cs l fb:List tx}{d:D}(r:Rep K ⟨cs++l,fb⟩ H v d)(c:tO cs.length d=true):Rep K ⟨cs,fb⟩ H v d:=
 Rep.to (μ:=⟨cs++l,fb⟩) (μ':=⟨cs,fb⟩) (P:=λd=>tO cs.length d=true) (λd c x hx=>by cases d<;>first | (cases hx;done) | exact rP c x hx) (λh n=>⟨h,λz=>n.1 (abb _ z),n.2⟩) (λc (h:(cs++l)[_]?=Y _)=>by rw[aat (aba c)] at h;exact h) r c
theorem Reps.trunc{cs l fb:List tx}(r:Reps K ⟨cs++l,fb⟩ H vs ds)(c:closDs cs.length ds=true):Reps K ⟨cs,fb⟩ H vs ds:=Reps.to (μ:=⟨cs++l,fb⟩) (μ':=⟨cs,fb⟩) (P:=λd=>tO cs.length d=true) (λr c=>r.trunc c) r (rP c)
theorem Rep.closed{d:D}(r:Rep K μ H v d):tO μ.cs.length d=true:=
 Rep.rec (motive_1:=λz d z=>tO μ.cs.length d=true) (motive_2:=λz ds z=>closDs μ.cs.length ds=true) rfl (λz=>rfl) (λz=>rfl) (λz=>rfl) (λz z z i=>i) (λz z i=>i) (λz z z i=>i) (λz z z i=>i) (λz z i=>i) (λz z z i=>i) (λh=>aao (aac.mp h).1) (λz=>rfl) (λz z=>rfl) (λz z z z=>rfl) (λz=>rfl) rfl (λz z i j=>by rw[closDs,i,j];rfl) r
theorem Reps.closed:∀ {vs:List V} {ds:List D},Reps K μ H vs ds->closDs μ.cs.length ds=true
 | _,_,.nil=>rfl
 | _,_,.cons h t=>by rw[closDs,Rep.closed h,Reps.closed t];rfl
theorem SOk.closed(s:SOk K μ S H):∀ c∈S,Bk S.length c=true:=λc hc=>by
 obtain⟨r,hr⟩:=acq.mp hc;have hl:=(aac.mp hr).1;have hl':r < μ.cs.length:=by rw[s.len];exact hl
 have:=s.cell r _ c (aag hl') hr;cases c with
 | lst ds=>obtain⟨vs,z,q⟩:=this;rw[<- s.len];exact q.closed
 | dct ks ds=>obtain⟨vs,z,z,q⟩:=this;rw[<- s.len];exact q.closed
theorem SOk.trunc{S' g:ac}(s:SOk K μ (S'++g) H)(hc:∀ c∈S',Bk S'.length c=true):∃ cs l,μ.cs=cs++l/\cs.length=S'.length/\SOk K ⟨cs,μ.fb⟩ S' H:=by
 obtain⟨cs0,fb⟩:=μ;have hlen:cs0.length=S'.length+g.length:=by have:=s.len;simpa using this
 have hcl:(cs0.take S'.length).length=S'.length:=by rw[ach];omega
 refine⟨cs0.take S'.length,cs0.drop S'.length,(acp _ _).symm,hcl,s.nd.sublist (List.take_sublist _ _),hcl,λr a c h1 h2=>?_,s.fdom,λa ha z=>s.disj a ha (aaR z)⟩;have hr:=(aac.mp h2).1
 have h1':cs0[r]?=Y a:=by
  have h1:(cs0.take S'.length)[r]?=Y a:=h1
  rwa[adQ hr] at h1
 have ck:=s.cell r a c h1' (by rw[aat hr];exact h2);have cc:=hc c (aaA h2);have e:cs0=cs0.take S'.length++cs0.drop S'.length:=(acp _ _).symm;cases c with
 | lst ds=>
  obtain⟨vs,q,r⟩:=ck;have r':Reps K ⟨cs0.take S'.length++cs0.drop S'.length,fb⟩ H vs ds:=by rw[<- e];exact r
  exact⟨vs,q,r'.trunc (by rw[hcl];exact cc)⟩
 | dct ks ds=>
  obtain⟨vs,q,q2,r⟩:=ck;have r':Reps K ⟨cs0.take S'.length++cs0.drop S'.length,fb⟩ H (vs.map (·.2)) ds:=by rw[<- e];exact r
  exact⟨vs,q,q2,r'.trunc (by rw[hcl];exact cc)⟩
theorem Post.trunc{g:ac}{d:D}(post:Post K μ H S' d Q)(hd:tO S'.length d=true)(hc:∀ c∈S',Bk S'.length c=true)(hl:μ.cs.length<=S'.length):Post K μ H (S'++g) d Q:=λv H' μ' e s r=>by
 obtain⟨cs,l,q,hcl,s'⟩:=s.trunc hc;obtain⟨cs',fb'⟩:=μ';have q':cs'=cs++l:=q;subst q';refine post v H' ⟨cs,fb'⟩ ⟨e.fb,?_,e.keep,λa ha=>e.dom a (abb _ ha)⟩ s' (r.trunc (by rw[hcl];exact hd));obtain⟨l0,q0,h0⟩:=e.pre;have q0:cs++l = μ.cs++l0:=q0;have hle:μ.cs.length<=cs.length:=by rw[hcl];exact hl
 refine⟨cs.drop μ.cs.length,?_,λa ha=>h0 a ?_⟩
 ·have t1:(cs++l).take μ.cs.length = μ.cs:=by rw[q0];simp
  rw[List.take_append_of_le_length hle] at t1;show cs = μ.cs++cs.drop μ.cs.length
  conv=>lhs;rw[<- acp μ.cs.length cs,t1]
 ·have t2:(cs++l).drop μ.cs.length=l0:=by rw[q0];simp
  rw[<- t2,List.drop_append_of_le_length hle];exact abb _ ha
def Runs(m:MS)(env:be)(S:ac)(d:D)(S':ac):Prop:=
 ∃ o g,m env S=Y o/\(g=[]\/(tO S'.length d=true/\(∀ c∈S',Bk S'.length c=true)/\S.length<=S'.length))/\(o=.rt d (S'++g)\/(d=.non/\∃ env',o=.nx env' (S'++g)))
theorem Runs.ret{m:MS}{d:D}(h:m env S=Y (.rt d S')):Runs m env S d S':=⟨_,[],h,.inl rfl,.inl (by rw[aaN])⟩
def ba(N:List Str)(ds:List D):be:=ds.map Y++aeP (N.length - ds.length) L
theorem Xn{k:Nat}{st:QO}{f:List D->ac->Option (D×ac)}
  (F:L2.Fun K x qual st a fd) (Sc:aQ N ps (aw st))
  (hbody:∀ (cdv:ce) (A:SN) (outer:List PySem.Env) (s:gV) (H:Hp) (E:XK),Room k (A.deeper (envOfC qual (aw st) s.heap.objs.size a cdv)) ->
   ∃ m,zQ (vU GX P w K mg base N qual (aw st) a cdv A outer s H E).nox (aM st) m/\∀ ds S d S',ds.length=ps.length->(∀ c∈S,Bk S.length c=true)->closDs S.length ds=true->f ds S=Y (d,S')->Runs m 1.50 S d S') :
  FnOk P w K mg base GX (k+1) a fd ps (OA K ps.length f):=by
 refine F.ok Sc (λvs H Q E h=>?_) (λcdv A outer s H vs Q E hr h=>?_)
 ·obtain⟨μ,S,ds,d,S',hS,hr,hn,hf,post⟩:=h;rw[hr.length,hn]
 ·obtain⟨m,hm,run⟩:=hbody cdv A outer s H E hr;refine⟨_,hm,?_⟩;obtain⟨μ,S,ds,d,S',hS,hrp,hn,hf,post⟩:=h;obtain⟨o,g,ho,hg,hend⟩:=run ds S d S' hn hS.closed (by rw[<- hS.len];exact hrp.closed) hf
  have post':Post K μ H (S'++g) d Q:=by
   rcases hg with rfl | ⟨c1,c2,c3⟩
   ·rw[aaN];exact post
   ·exact post.trunc c1 c2 (by rw[hS.len];exact c3)
  have hEnv:EOk K μ H (L2.start N vs) 1.50:=by unfold L2.start ba;rw[hrp.length];exact EOk.start hrp
  rcases hend with rfl | ⟨rfl,env',rfl⟩
  ·exact⟨μ,S,_,_,hS,hEnv,ho,post'⟩
  ·exact⟨μ,S,_,_,hS,hEnv,ho,λσ' H' μ' e s' z=>post' .non H' μ' e s' .non⟩
theorem Xo{mg:Str->Option ce}{k:Nat}{st:QO}{f:List D->ac->Option (D×ac)}
  (F:L2.Fun K x qual st a fd) (Sc:aQ N ps (aw st)) (hmg:mg x=Y (.ref a)) (hb:Binds K fd ps [])
  (hbody:∀ (cdv:ce) (A:SN) (outer:List PySem.Env) (s:gV) (H:Hp) (E:XK),Room k (A.deeper (envOfC qual (aw st) s.heap.objs.size a cdv)) ->
   ∃ m,zQ (vU GX P w K mg base N qual (aw st) a cdv A outer s H E).nox (aM st) m/\∀ ds S d S',ds.length=ps.length->(∀ c∈S,Bk S.length c=true)->closDs S.length ds=true->f ds S=Y (d,S')->Runs m 1.50 S d S') :
  Fn P w K mg base (k+1) x ps.length f:=⟨a,fd,ps,rfl,Xn F Sc hbody,hmg,F.kp,hb⟩
end
section
variable{X:Cx}{K:aeO}{μ μ':Fp}{H H':Hp}{S:ac}
theorem PostN.ext(e:Ext μ H μ' H')(p:PostN K μ H S' env' Q):PostN K μ' H' S' env' Q:=λσ2 H2 μ2 e2 s r=>p σ2 H2 μ2 (e.trans e2) s r
theorem PostS.ext(e:Ext μ H μ' H')(p:PostS K μ H o E):PostS K μ' H' o E:=by
 cases o with
 | nx env S=>exact PostN.ext e p
 | rt d S=>exact Post.ext e p
 | bk env S=>exact PostN.ext e p
 | ct env S=>exact PostN.ext e p
def bv:MS:=λenv S=>Y 9.2
def aI(a b:MS):MS:=λenv S=>(a env S).bind λo=>match o with | .nx env' S'=>b env' S' | o=>Y o
theorem Lg:zQ X [] bv:=PSs.imp TQ λE σ H ⟨μ,S,env,o,hS,hE,hm,post⟩=>by cases hm;exact post σ H μ hS.ext hS hE
theorem Tf(h:Ye K (aI a b) E σ H):tSeq (Ye K a) (Ye K b) E σ H:=by
 obtain⟨μ,S,env,o,hS,hE,hm,post⟩:=h;obtain⟨o1,h1,hm⟩:=aaa.mp hm;refine⟨μ,S,env,o1,hS,hE,h1,?_⟩;cases o1 with
 | nx env' S'=>exact λσ' H' μ' e s r=>⟨μ',S',env',o,s,r,hm,post.ext e⟩
 | rt d S'=>cases hm;exact post
 | bk env' S'=>cases hm;exact post
 | ct env' S'=>cases hm;exact post
theorem RL{st:QO}(h1:DS X st a)(h2:zQ X rest b):zQ X (st::rest) (aI a b):=PSs.imp (wY h1 h2) λz z z h=>Tf h
theorem Le{st:QO}(h1:DS X st a):zQ X [st] a:=wc h1
variable{pos:Pos}{e c:vx}{m:ME}{mt:MT}{a b:List QO}{ma mb:MS}
theorem VH:DS X (.Pass pos) bv:=PS.imp TV λE σ H ⟨μ,S,env,o,hS,hE,hm,post⟩=>by cases hm;exact post σ H μ hS.ext hS hE
theorem RP:DS X (.Break pos) (λenv S=>Y (.bk env S)):=PS.imp OX λE σ H ⟨μ,S,env,o,hS,hE,hm,post⟩=>by cases hm;exact post σ H μ hS.ext hS hE
theorem Gx:DS X (.Continue pos) (λenv S=>Y (.ct env S)):=PS.imp Er λE σ H ⟨μ,S,env,o,hS,hE,hm,post⟩=>by cases hm;exact post σ H μ hS.ext hS hE
theorem qaT{x j p}:DS X (.Expr (.Constant (.str x) j p) pos) bv:=PS.imp YC λE σ H ⟨μ,S,env,o,hS,hE,hm,post⟩=>by cases hm;exact post σ H μ hS.ext hS hE
def bw(m:ME):MS:=λenv S=>(m env S).bind λp=>Y (.rt p.1 p.2)
theorem RN(he:DE X e m):DS X (.Return (Y e) pos) (bw m):=PS.imp (OV he) λE σ H z0=>by
 obtain⟨μ,S,env,o,hS,hE,hm,post⟩:=z0;obtain⟨⟨d,S1⟩,h1,hm⟩:=aaa.mp hm;cases hm;exact⟨μ,S,env,d,S1,hS,hE,h1,post⟩
theorem VG:DS X (.Return L pos) (λz S=>Y (.rt .non S)):=PS.imp TR λE σ H ⟨μ,S,env,o,hS,hE,hm,post⟩=>by cases hm;exact Post.here post hS .non
def eQ(m:ME):MS:=λenv S=>(m env S).bind λp=>Y (.nx env p.2)
theorem VL(he:DE X e m)(hs:swapsWith e L pos.line X.env=pure false:=by rfl):DS X (.Expr e pos) (eQ m):=PS.imp (TX he hs) λE σ H z0=>by
 obtain⟨μ,S,env,o,hS,hE,hm,post⟩:=z0;obtain⟨⟨d,S1⟩,h1,hm⟩:=aaa.mp hm;cases hm;exact⟨μ,S,env,d,S1,hS,hE,h1,λv H' μ' ex s r=>post σ H' μ' ex s (hE.mono ex)⟩
def cj(t:MT)(a b:MS):MS:=λenv S=>(t env S).bind λp=>if p.1=true then a env p.2 else b env p.2
theorem ds_if(hc:DT X c mt)(ha:zQ X a ma)(hb:zQ X b mb):DS X (.If c a b pos) (cj mt ma mb):=PS.imp (WR hc ha hb) λE σ H z0=>by
 obtain⟨μ,S,env,o,hS,hE,hm,post⟩:=z0;obtain⟨⟨k,S1⟩,h1,hm⟩:=aaa.mp hm;refine⟨μ,S,env,k,S1,hS,hE,h1,λH1 μ1 e1 s1=>?_⟩;cases k with
 | true=>rw[aas rfl] at hm ⊢;exact⟨μ1,S1,env,o,s1,hE.mono e1,hm,post.ext e1⟩
 | false=>rw[if_neg aeQ] at hm ⊢;exact⟨μ1,S1,env,o,s1,hE.mono e1,hm,post.ext e1⟩
noncomputable abbrev MG:=D->be->ac->Option (be×ac)
noncomputable abbrev tU:=List D->be->ac->Option (be×ac)
inductive Oi(K:aeO)(g:MG)(v:V)(σ:L2.St)(H:Hp)(Q:L2.St->Hp->Prop):Prop
 | mk (μ:Fp) (S:ac) (env:be) (d:D) (env':be) (S':ac) (hS:SOk K μ S H) (hE:EOk K μ H σ env) (h1:Rep K μ H v d) (h:g d env S=Y (env',S')) (post:PostN K μ H S' env' Q)
inductive tMGs(K:aeO)(g:tU)(vs:List V)(σ:L2.St)(H:Hp)(Q:L2.St->Hp->Prop):Prop
 | mk (μ:Fp) (S:ac) (env:be) (ds:List D) (env':be) (S':ac) (hS:SOk K μ S H) (hE:EOk K μ H σ env) (h1:Reps K μ H vs ds) (h:g ds env S=Y (env',S')) (post:PostN K μ H S' env' Q)
def DG(X:Cx)(tg:vx)(g:MG):Prop:=PG X tg (Oi X.K g)
def XJ(X:Cx)(tg:List vx)(g:tU):Prop:=PGs X tg (tMGs X.K g)
theorem PG.imp{t':TG}(h:PG X tg t)(i:∀ v σ H Q,t' v σ H Q->t v σ H Q):PG X tg t':=λpins s σ H v u Q I r q=>h pins s σ H v u Q I r (i v σ H Q q)
theorem PGs.imp{t':SS}(h:PGs X tg t)(i:∀ v σ H Q,t' v σ H Q->t v σ H Q):PGs X tg t':=λpins s σ H v u Q I r q=>h pins s σ H v u Q I r (i v σ H Q q)
def aj(i:Nat):MG:=λd env S=>Y (env.set i (Y d),S)
theorem Li{i:Nat}(hN:X.N.Nodup)(hi:X.N[i]?=Y x)(hx:NV X.env.scope x)(hf:X.fn x=true\/X.env.scope.names.lookup x=Y .local:=by first | exact .inl rfl | exact .inr rfl | assumption):DG X 5.5 (aj i):=
 PG.imp (Ue hN hi hx hf) λv σ H Q ⟨μ,S,env,d,env',S',hS,hE,hr,hm,post⟩=>by cases hm;exact post _ H μ hS.ext hS (hE.set hr i)
def aS:tU:=λds env S=>match ds with | []=>Y (env,S) | _=>L
def ag(g:MG)(gs:tU):tU:=λds env S=>match ds with | d::r=>(g d env S).bind λp=>gs r p.1 p.2 | []=>L
theorem VS:XJ X [] aS:=PGs.imp Ud λv σ H Q z0=>by
 obtain⟨μ,S,env,ds,env',S',hS,hE,hr,hm,post⟩:=z0;cases hr with
 | nil=>cases hm;exact⟨rfl,post σ H μ hS.ext hS hE⟩
 | cons _ _=>cases hm
theorem RZ{t:vx}(h1:DG X t g)(h2:XJ X ts gs)(hs:(assignEach (t::ts) X.env).map (·.2)=assign t X.env::(assignEach ts X.env).map (·.2):=by rfl):XJ X (t::ts) (ag g gs):=
 PGs.imp (Pd h1 h2 hs) λv σ H Q z0=>by
  obtain⟨μ,S,env,ds,env',S',hS,hE,hr,hm,post⟩:=z0;cases hr with
  | nil=>cases hm
  | @cons v d vs ds h t=>
   obtain⟨⟨env1,S1⟩,h1,hm⟩:=aaa.mp hm;exact⟨v,vs,rfl,μ,S,env,d,env1,S1,hS,hE,h,h1,λσ1 H1 μ1 e1 s1 r1=>⟨μ1,S1,env1,ds,env',S',s1,r1,t.mono e1,hm,post.ext e1⟩⟩
def bo(n:Nat)(gs:tU):MG:=λd env S=>match d with | .tup xs=>if xs.length=n then gs xs env S else L | _=>L
theorem Jz{k n:Nat}(hc:X.calm=true)(h:XJ X es gs)(hn:(assignEach es X.env).length=n:=by rfl)(hst:(assignEach es X.env).findIdx? (·.1)=L:=by rfl):DG X 9.6 (bo n gs):=
 PG.imp (YF hc h hn hst) λv σ H Q z0=>by
  obtain⟨μ,S,env,d,env',S',hS,hE,hr,hm,post⟩:=z0;cases d with
  | tup xs=>
   simp only[bo] at hm;split at hm
   ·rename_i hl;obtain⟨a,vs,rfl,q,r⟩:=hr.sqT;exact⟨a,vs,rfl,q,by rw[r.length];exact hl,μ,S,env,xs,env',S',hS,hE,r,hm,post⟩
   ·cases hm
  | _=>cases hm
def gy(o i:ME):MG:=λd env S=>(o env S).bind λp=>(i env p.2).bind λq=>match p.1,q.1 with
 | .ref r,.int k=>match q.2[r]? with
  | some 2.4=>(IL xs.length k).bind λj=>Y (env,q.2.set r 2.03)
  | _=>L
 | _,_=>L
theorem qaU(ho:DE X o mo)(hi:DE X i mi)(ha:∀ v,assign 1.23 X.env v=(do
   let ov <- holding [v] 8.4;let iv <- holding [v,ov] (eval i X.env)
   standAt pos
   holding [v,ov,iv] (setItem ov iv v)
   release [v,ov,iv] []):=by intro z;rfl):DG X 1.23 (gy mo mi):=
 PG.imp (YG ho hi OE ha) λv σ H Q z0=>by
  obtain⟨μ,S,env,d,env',S',hS,hE,hr,hm,post⟩:=z0;obtain⟨⟨x,S1⟩,h1,hm⟩:=aaa.mp hm;obtain⟨⟨y,S2⟩,h2,hm⟩:=aaa.mp hm;refine⟨μ,S,env,x,S1,hS,hE,h1,λv1 H1 μ1 e1 s1 r1=>⟨μ1,S1,env,y,S2,s1,hE.mono e1,h2,λv2 H2 μ2 e2 s2 r2=>?_⟩⟩;cases x with
  | ref r=>
   cases y with
   | int k=>
    dsimp only at hm;cases q:S2[r]? with
    | none=>rw[q] at hm;cases hm
    | some c=>
     rw[q] at hm;cases c with
     | lst xs=>
      obtain⟨j,h3,hm⟩:=aaa.mp hm;cases hm;have r1':=r1.mono e2;cases r1' with
      | @ref a _ h'=>
       obtain⟨vs,hv,rv⟩:=s2.cell r a _ h' q;have rd:=(hr.mono e1).mono e2;obtain⟨e3,s3⟩:=s2.write h' hv (rv.set rd j);exact⟨a,vs,k,j,rfl,r2.int_inv,hv,by rw[rv.length];exact h3,post σ _ μ2 ((e1.trans e2).trans e3) s3 (hE.mono ((e1.trans e2).trans e3))⟩
     | dct ks xs=>cases hm
   | _=>cases hm
  | _=>cases hm
def aT(m:ME)(g:MG):MS:=λenv S=>(m env S).bind λp=>(g p.1 env p.2).bind λq=>Y (.nx q.1 q.2)
theorem Th(h:Ye K (aT m g) E σ H):Om (tM K m) (Oi K g) E σ H:=by
 obtain⟨μ,S,env,o,hS,hE,hm,post⟩:=h;obtain⟨⟨d,S1⟩,h1,hm⟩:=aaa.mp hm;obtain⟨⟨env2,S2⟩,h2,hm⟩:=aaa.mp hm;cases hm;exact⟨μ,S,env,d,S1,hS,hE,h1,λv H1 μ1 e1 s1 r1=>⟨μ1,S1,env,d,env2,S2,s1,hE.mono e1,r1,h2,PostN.ext e1 post⟩⟩
theorem RQ(he:DE X e m)(hg:DG X tg g)(hs:swapsWithSole [tg] e pos.line X.env=pure false:=by rfl)(hw:swappedStores [tg] e X.env=pure L:=by rfl)
  (h1:(assignEach [tg] X.env).map (·.2)=[assign tg X.env]:=by rfl):DS X (.Assign [tg] e pos) (aT m g):=PS.imp (YD he hg hs hw h1) λz z z h=>Th h
theorem Jo{i:Nat}(hN:X.N.Nodup)(hi:X.N[i]?=Y x)(hx:NV X.env.scope x)(he:DE X e m)(hs:swapsWith e (Y (.Name x pos')) pos.line X.env=pure false:=by rfl)(hf:X.fn x=true\/X.env.scope.names.lookup x=Y .local:=by first | exact .inl rfl | exact .inr rfl | assumption) :
  DS X (.Assign [.Name x pos'] e pos) (aT m (aj i)):=PS.imp (OU hN hi hx he hs hf) λE σ H h=>by
 obtain⟨μ,S,env,o,hS,hE,hm,post⟩:=h;obtain⟨⟨d,S1⟩,h1,hm⟩:=aaa.mp hm;cases hm;exact⟨μ,S,env,d,S1,hS,hE,h1,λv H1 μ1 e1 s1 r1=>post _ H1 μ1 e1 s1 ((hE.mono e1).set r1 i)⟩
structure ExtP(μ:Fp)(H:Hp)(μ':Fp)(H':Hp):Prop where
 fb:∃ l,μ'.fb=l++μ.fb/\∀ a∈l,H a=L
 pre:∃ l,μ'.cs = μ.cs++l/\∀ a∈l,H a=L
 keep:∀ a o,a∉μ.cs->H a=Y o->H' a=Y o
 dom:∀ a∈μ'.cs,H' a≠L
theorem Ext.toP(e:Ext μ H μ' H'):ExtP μ H μ' H':=⟨⟨[],by rw[e.fb];rfl,λw z=>by simp at z⟩,e.pre,e.keep,e.dom⟩
theorem ExtP.stays(e:ExtP μ H μ' H'){a:tx}{o:HO}(h:H a=Y o)(n:μ.no a):H' a=Y o/\μ'.no a:=by
 refine⟨e.keep a o n.1 h,λz=>?_,λz=>?_⟩
 ·obtain⟨l,q,hl⟩:=e.pre;rw[q] at z;rcases aap.mp z with z | z
  ·exact n.1 z
  ·rw[hl a z] at h;cases h
 ·obtain⟨l,q,hl⟩:=e.fb;rw[q] at z;rcases aap.mp z with z | z
  ·rw[hl a z] at h;cases h
  ·exact n.2 z
theorem ExtP.then(e:ExtP μ H μ' H')(f:Ext μ' H' μ'' H''):ExtP μ H μ'' H'':=by
 obtain⟨l,q,hl⟩:=e.pre;obtain⟨l',q',hl'⟩:=f.pre;refine⟨by rw[f.fb];exact e.fb,⟨l++l',by rw[q',q,aaZ],λa ha=>?_⟩,λa o n h=>?_,f.dom⟩
 ·rcases aap.mp ha with ha | ha
  ·exact hl a ha
  ·have h1:=hl' a ha;cases q2:H a with
   | none=>rfl
   | some o=>
    by_cases hm:a∈μ.cs
    ·exact absurd h1 (e.dom a (by rw[q];exact abb _ hm))
    ·rw[e.keep a o hm q2] at h1;cases h1
 ·have h1:=e.keep a o n h;refine f.keep a o (λz=>?_) h1;rw[q] at z;rcases aap.mp z with z | z
  ·exact n z
  ·rw[hl a z] at h;cases h
theorem ExtP.chg(e:ExtP μ H μ' H')(hp:H p=L):ExtP μ H μ' (upd H' p o):=
 ⟨e.fb,e.pre,λa o' n h=>by rw[bh (cJ h hp)];exact e.keep a o' n h,λa ha=>by
  by_cases z:a=p
  ·subst z;rw[bB];simp
  ·rw[bh z];exact e.dom a ha⟩
theorem ExtP.ix(e:ExtP μ H μ' H'){r:Nat}{a:tx}(h:μ.cs[r]?=Y a):μ'.cs[r]?=Y a:=by
 obtain⟨l,q,z⟩:=e.pre;exact Dv q h
theorem Rep.monoP(e:ExtP μ H μ' H'){d:D}(r:Rep K μ H v d):Rep K μ' H' v d:=r.imp e.stays e.ix
def NP(K:aeO)(μ:Fp)(H:Hp)(J:It)(xs:List D):Prop:=
 ∀ μ' H' S',ExtP μ H μ' H'->SOk K μ' S' H'->∀ i,(∀ d,xs[i]?=Y d->J.go i H'/\∀ x H2,J.yld i H' x H2->Ext μ' H' μ' H2/\SOk K μ' S' H2/\Rep K μ' H2 x d)/\(xs.length<=i->J.stop i H')
inductive iM(K:aeO)(m:MA)(σ:L2.St)(H:Hp)(R:It->Hp->Prop):Prop
 | mk (μ:Fp) (S:ac) (env:be) (xs:List D) (S':ac) (hS:SOk K μ S H) (hE:EOk K μ H σ env) (h:m env S=Y (xs,S')) (post:∀ J H' μ',Ext μ H μ' H'->SOk K μ' S' H'->NP K μ' H' J xs->R J H')
def DI(X:Cx)(tg iter:vx)(m:MA):Prop:=PI X tg iter (iM X.K m)
theorem PI.imp{t':TI}(h:PI X tg iter t)(i:∀ σ H R,t' σ H R->t σ H R):PI X tg iter t':=λpins s σ H R I q=>h pins s σ H R I (i σ H R q)
theorem qe{v:V}{a:tx}{d:D}{xs:List D}(hd:d=.lst xs\/d=.rol xs)(r:Rep K μ H v d)(hv:v=.ref a):NP K μ H (Itl K a) xs:=λμ' H' S' e s i=>by
 have r':=r.monoP e
 obtain⟨vs,q,rs⟩:∃ vs,qD K H' a vs/\Reps K μ' H' vs xs:=by
  subst hv;rcases hd with rfl | rfl
  ·obtain⟨a',vs,ea,q,z,rs⟩:=r'.sqL;cases ea;exact⟨vs,.inl (.inl q),rs⟩
  ·obtain⟨a',vs,ea,q,rs⟩:=r'.sqR;cases ea;exact⟨vs,q,rs⟩
 refine⟨λd hd=>?_,λhl=>⟨vs,q,by rw[rs.length];exact hl⟩⟩;obtain⟨v,hv,rv⟩:=rs.get hd;refine⟨⟨vs,v,q,hv⟩,λx H2 ⟨e2,hy⟩=>?_⟩;subst e2;have:=hy vs q;rw[hv] at this;cases this;exact⟨s.ext,s,rv⟩
theorem FP{a:tx}{xs:List D}(r:Rep K μ H (.ref a) 4.6):NP K μ H (Itt K a) xs:=λμ' H' S' e s i=>by
 obtain⟨a',vs,ea,q,rs⟩:=(r.monoP e).sqT;cases ea;refine⟨λd hd=>?_,λhl=>⟨vs,q,by rw[rs.length];exact hl⟩⟩;obtain⟨v,hv,rv⟩:=rs.get hd;refine⟨⟨vs,v,q,hv⟩,λx H2 ⟨e2,hy⟩=>?_⟩;subst e2;have:=hy vs q;rw[hv] at this;cases this;exact⟨s.ext,s,rv⟩
variable{tg iter:vx}
def cT(lo:Int)(n:Nat):List D:=(List.range n).map λ(i:Nat)=>D.int (lo+(i:Int))
theorem wV(lo:Int)(n i:Nat)(d:D)(h:(cT lo n)[i]?=Y d):i<n/\d=.int (lo+(i:Int)):=by
 unfold cT at h;rw[abv] at h;cases q:(List.range n)[i]? with
 | none=>rw[q] at h;cases h
 | some j=>
  rw[q] at h;cases h;obtain⟨h1,h2⟩:=aac.mp q;simp at h1 h2;exact⟨h1,by rw[h2]⟩
theorem xZ(lo:Int)(n:Nat):NP K μ H (Itr lo n) (cT lo n):=λμ' H' S' e s i=>by
 refine⟨λd hd=>?_,λhl=>?_⟩
 ·obtain⟨h1,rfl⟩:=wV lo n i d hd;refine⟨h1,λx H2 ⟨e2,hy⟩=>?_⟩;subst e2 hy;exact⟨s.ext,s,.int _⟩
 ·have:(cT lo n).length=n:=by simp[cT]
  rw[this] at hl;exact hl
def cD(ms:MA):MA:=λenv S=>(ms env S).bind λp=>match p.1 with | [.int j]=>if -(2^62)<=j/\j<2^62 then Y (cT 0 j.toNat,p.2) else L | _=>L
theorem Nq{a:vx}{p:Pos}(hm:X.mg "range" = L)(ha:DA X [a] ms)(hg:Gl X "range":=by rfl)(hs:WP [a] X.env=[(false,eval a X.env)]:=by rfl):DI X tg (.Call (.Name "range" p) [a] [] pos) (cD ms):=
 PI.imp (Al hg hm ha hs) λσ H R z0=>by
  obtain⟨μ,S,env,xs,S',hS,hE,hm,post⟩:=z0;obtain⟨⟨ds,S1⟩,h1,hm⟩:=aaa.mp hm;refine⟨μ,S,env,ds,S1,hS,hE,h1,λvs H1 μ1 e1 s1 r1=>?_⟩;dsimp only at hm;split at hm
  ·split at hm
   ·rename_i hb;cases hm;obtain⟨v,rfl,r⟩:=r1.one;exact⟨_,by rw[r.int_inv],hb.1,hb.2,post _ H1 μ1 e1 s1 (xZ 0 _)⟩
   ·cases hm
  ·cases hm
def cF(g:MG)(body:MS):List D->be->ac->Option qW
 | [],env,S=>Y 9.2
 | d::ds,env,S=>(g d env S).bind λp=>(body p.1 p.2).bind λo=>match o with
  | .nx e s=>cF g body ds e s
  | .ct e s=>cF g body ds e s
  | .bk e s=>Y 1.58
  | .rt d s=>Y 1.56
def kY(mi:MA)(g:MG)(body:MS):MS:=λenv S=>(mi env S).bind λp=>cF g body p.1 env p.2
noncomputable abbrev XH{α:Type}(K:aeO)(μ1:Fp)(H1:Hp)(P:Fp->Hp->α->Prop)(f:be->ac->Option α)(σ:L2.St)(H:Hp):Prop:=∃ μ' S' env' o',Ext μ1 H1 μ' H/\SOk K μ' S' H/\EOk K μ' H σ env'/\f env' S'=Y o'/\P μ' H o'
theorem RO{mb:MS}(hp:PassesOwn 0.2 X.A X.env X.xe)(hc:X.calm=true)(hi:DI X tg iter mi)(hg:DG X tg g)(hb:zQ X body mb)
  (hs:∀ x,Yx iter X.env x=pure x:=by intro w;rfl):DS X (.For tg iter body [] pos) (kY mi g mb):=PS.imp (HH hp hc hi hg hb hs) λE σ H z0=>by
 obtain⟨μ,S,env,o,hS,hE,hm,post⟩:=z0;obtain⟨⟨xs,S1⟩,h1,hm⟩:=aaa.mp hm;refine⟨μ,S,env,xs,S1,hS,hE,h1,λJ H1 μ1 e1 s1 it=>?_⟩
 refine⟨λi n σ H=>n=xs.length - i/\i<=xs.length/\XH X.K μ1 H1 (λμ H o=>PostS X.K μ H o E) (cF g mb (xs.drop i)) σ H,
  ⟨xs.length,by simp,acy _,μ1,S1,env,o,s1.ext,s1,hE.mono e1,by rw[abR];exact hm,post.ext e1⟩,?_⟩
 rintro i n σ' H' ⟨rfl,hi,μ',S',env',o',e',s',r',hl,post'⟩;have iti:=it μ' H' S' e'.toP s' i;by_cases hlt:i<xs.length
 ·refine .inr ⟨(iti.1 xs[i] 1.52).1,XH X.K μ1 H1 (λμ H o=>PostS X.K μ H o E) (cF g mb (xs.drop (i+1))),
   λσ2 H2 z=>⟨xs.length - (i+1),by omega,rfl,hlt,z⟩,λx H2 y=>?_⟩
  obtain⟨e2,s2,rx⟩:=(iti.1 xs[i] 1.52).2 x H2 y;rw[abw hlt] at hl;obtain⟨⟨env3,S3⟩,h3,hl⟩:=aaa.mp hl;obtain⟨o4,h4,hl⟩:=aaa.mp hl;refine⟨μ',S',env',xs[i],env3,S3,s2,r'.mono e2,rx,h3,λσ3 H3 μ3 e3 s3 r3=>⟨μ3,S3,env3,o4,s3,r3,h4,?_⟩⟩;have eT:Ext μ1 H1 μ3 H3:=(e'.trans e2).trans e3;have pT:PostS X.K μ3 H3 o' E:=(post'.ext e2).ext e3;cases o4 with
  | nx e5 s5=>exact λσ6 H6 μ6 e6 s6 r6=>⟨μ6,s5,e5,o',eT.trans e6,s6,r6,hl,pT.ext e6⟩
  | ct e5 s5=>exact λσ6 H6 μ6 e6 s6 r6=>⟨μ6,s5,e5,o',eT.trans e6,s6,r6,hl,pT.ext e6⟩
  | bk e5 s5=>cases hl;exact pT
  | rt d5 s5=>cases hl;exact pT
 ·have e:i=xs.length:=by omega
  subst e;refine .inl ⟨iti.2 (aal _),?_⟩;rw[acv] at hl;cases hl;exact post' σ' H' μ' s'.ext s' r'
def oB(cap:List 4.7)(env:be):be:=cap.map λo=>o.bind λi=>(env[i]?).join
def NW(X:Cx)(ifs:List vx)(m:MT):Prop:=SU X ifs (DB X.K m)
theorem VD:NW X [] (λz S=>Y (true,S)):=λpins s σ H Q I ⟨μ,S,env,b,S',hS,hE,hm,post⟩=>by cases hm;exact TM pins s σ H Q I (post H μ hS.ext hS)
theorem VC{c:vx}(h:DT X c t):NW X [c] t:=TL h
def ej(g:MG)(t:MT)(e:ME):List D->be->ac->Option (List D×ac)
 | [],_,S=>Y ([],S)
 | d::ds,env,S=>(g d env S).bind λp=>(t p.1 p.2).bind λb=>if b.1=true then(e p.1 b.2).bind λq=>(ej g t e ds p.1 q.2).bind λr=>Y (q.1::r.1,r.2) else ej g t e ds p.1 b.2
def bY(mi:MA)(g:MG)(t:MT)(e:ME)(cap:List 4.7):ME:=λenv S=>(mi env S).bind λp=>if p.1.length<=Vj then(ej g t e p.1 1.43 p.2).bind λq=>Y (.lst q.1,q.2) else L
inductive CpJ(K:aeO)(μ1:Fp)(H1:Hp)(p:tx)(R:be->ac->List D->Prop)(ys:List D)(i:Nat)(σ:L2.St)(H:Hp):Prop
 | mk (cs:List tx) (S:ac) (env:be) (vs:List V) (zs rest:List D) (eP:ExtP μ1 H1 ⟨cs,p::μ1.fb⟩ H) (s:SOk K ⟨cs,p::μ1.fb⟩ S H) (r:EOk K ⟨cs,p::μ1.fb⟩ H σ env) (hp:H p=Y 8.2) (rz:Reps K ⟨cs,p::μ1.fb⟩ H vs zs) (hl:R env S rest) (hy:ys=zs++rest) (hv:vs.length<=i)
theorem CpJ.start{R:be->ac->List D->Prop}(s1:SOk K μ1 S H1)(hE:EOk K μ1 H1 σ env)(hp:H1 p=L)(h:R env S ys):CpJ K μ1 H1 p R ys 0 σ (upd H1 p (.lst [])):=
 .mk μ1.cs S env [] [] ys ⟨⟨[p],rfl,λa z=>by rw[aaw.mp z];exact hp⟩,⟨[],by simp,λw z=>by simp at z⟩,λa o' n h=>by rw[bh (cJ h hp)];exact h,λa ha=>by
  by_cases z:a=p
  ·subst z;rw[bB];simp
  ·rw[bh z];exact s1.dom a ha⟩ (s1.more hp) (hE.more hp) bB .nil h rfl (aal _)
noncomputable abbrev CcJ(K:aeO)(μ1:Fp)(H1:Hp)(p:tx)(f:List D->be->ac->Option (List D×ac))(xs ys:List D)(S2:ac)(i n:Nat)(σ':L2.St)(H':Hp):Prop:=n=xs.length - i/\i<=xs.length/\CpJ K μ1 H1 p (λenv S rest=>f (xs.drop i) env S=Y (rest,S2)) ys i σ' H'
theorem DR{mi:MA}{g:MG}{t:MT}{e:ME}{cap:List 4.7}{σ:L2.St}{Q:VK}(h:tM K (bY mi g t e cap) σ H Q):Oj (iM K mi) (Oi K g) (DB K t) (tM K e) cap σ H Q:=by
 obtain⟨μ,S,env,d,S',hS,hE,hm,post⟩:=h;obtain⟨⟨xs,S1⟩,h1,hm⟩:=aaa.mp hm;dsimp only at hm;split at hm
 case isFalse=>cases hm
 rename_i hsz;obtain⟨⟨ys,S2⟩,h2,hm⟩:=aaa.mp hm;cases hm;refine⟨μ,S,env,xs,S1,hS,hE,h1,λJ H1 μ1 e1 s1 it p hp=>?_⟩;have hpn:=s1.notMem hp;refine⟨CcJ K μ1 H1 p (ej g t e) xs ys S2,⟨xs.length,by simp,acy _,.start s1 ((hE.mono e1).block cap) hp (by rw[abR];exact h2)⟩,?_⟩;rintro i n σ' H' ⟨rfl,hi,c⟩;cases c with | mk cs S' env' vs zs rest eP s' r' hpv rz hl hy hvl=>?_
 subst hy;have iti:=it _ H' S' eP s' i;by_cases hlt:i<xs.length
 ·refine .inr ⟨(iti.1 xs[i] 1.52).1,λx H2 y=>?_⟩;obtain⟨e2,s2,rx⟩:=(iti.1 xs[i] 1.52).2 x H2 y;rw[abw hlt] at hl;obtain⟨⟨env3,S3⟩,h3,hl⟩:=aaa.mp hl;obtain⟨⟨b,S4⟩,h4,hl⟩:=aaa.mp hl;refine⟨_,S',env',xs[i],env3,S3,s2,r'.mono e2,rx,h3,λσ3 H3 μ3 e3 s3 r3=>⟨μ3,S3,env3,b,S4,s3,r3,h4,λH4 μ4 e4 s4=>?_⟩⟩;have eA:=(e2.trans e3).trans e4;have pcs:p∉cs:=λz=>s'.disj p aad z;cases b with
  | false=>
   rw[if_neg aeQ] at hl;rw[if_neg aeQ];obtain⟨cs4,fb4⟩:=μ4;have hfb:fb4=p::μ1.fb:=eA.fb;subst hfb;exact⟨xs.length - (i+1),by omega,rfl,hlt,.mk cs4 S4 env3 vs zs rest (eP.then eA) s4 (r3.mono e4) (eA.keeps hpv pcs).1 (rz.mono eA) hl rfl 0.0⟩
  | true=>
   rw[aas rfl] at hl;rw[aas rfl];obtain⟨⟨dv,S5⟩,h5,hl⟩:=aaa.mp hl;obtain⟨⟨rs,S6⟩,h6,hl⟩:=aaa.mp hl;cases hl;refine⟨μ4,S4,env3,dv,S5,s4,r3.mono e4,h5,λv H5 μ5 e5 s5 r5=>?_⟩;have eB:=eA.trans e5;obtain⟨cs5,fb5⟩:=μ5;have hfb:fb5=p::μ1.fb:=eB.fb;subst hfb;refine⟨vs,(eB.keeps hpv pcs).1,by omega,xs.length - (i+1),by omega,rfl,hlt,.mk cs5 S5 env3 (vs++[v]) (zs++[dv]) rs ((eP.then eB).chg hp) (s5.chg aad) (((r3.mono e4).mono e5).chg aad) bB (Reps.chg aad ((rz.mono eB).append (.cons r5 .nil))) h6 0.3 (by rw[aau,aaP];omega)⟩
 ·have e:i=xs.length:=by omega
  subst e;refine .inl ⟨iti.2 (aal _),?_⟩;rw[acv] at hl;cases hl;have eF:Ext μ1 H1 ⟨cs,μ1.fb⟩ H':=⟨rfl,eP.pre,eP.keep,eP.dom⟩
  dsimp only at post;rw[aaN] at post;exact post _ H' ⟨cs,μ1.fb⟩ (e1.trans eF) s'.less (.lst hpv ⟨λz=>s'.disj p aad z,hpn.2⟩ rz.less)
theorem Wa
  (hc:X.calm=true) (B:BlockOk X N' scope cap) (hi:DI X tg iter mi) (hg:∀ C s H fp,DG 0.6 tg g) (ht:∀ C s H fp,NW 0.6 ifs t) (he:∀ C s H fp,DE 0.6 elt me)
  (hs:∀ x,Yx iter X.env x=pure x:=by intro z;rfl):DE X (.ListComp elt [⟨tg,iter,ifs,0⟩] scope pos) (bY mi g t me cap):=
 PE.imp (Ug (g:=Oi X.K g) (tt:=DB X.K t) (te:=tM X.K me) hc B hi hg ht he hs) λz z z h=>DR h
theorem Jn{spos:Pos}{i:Nat}
  (hN:X.N.Nodup) (hy:X.N[i]?=Y y) (hx:NV X.env.scope y)
  (hc:X.calm=true) (B:BlockOk X N' scope cap) (hi:DI X tg iter mi) (hg:∀ C s H fp,DG 0.6 tg g) (ht:∀ C s H fp,NW 0.6 ifs t) (he:∀ C s H fp,DE 0.6 elt me)
  (hsw:swapsWith (.ListComp elt [⟨tg,iter,ifs,0⟩] scope pos) 1.02 spos.line X.env=pure true:=by rfl)
  (hs:∀ x,Yx iter X.env x=pure x:=by intro z;rfl) (hf:X.fn y=true\/X.env.scope.names.lookup y=Y .local:=by first | exact .inl rfl | exact .inr rfl | assumption) :
  DS X (.Assign [.Name y py] (.ListComp elt [⟨tg,iter,ifs,0⟩] scope pos) spos) (aT (bY mi g t me cap) (aj i)):=
 PS.imp (HG (g:=Oi X.K g) (tt:=DB X.K t) (te:=tM X.K me) hN hy hx hc B hi hg ht he hsw hs hf) λE σ H h=>by
  obtain⟨μ,S,env,o,hS,hE,hm,post⟩:=h;obtain⟨⟨d,S1⟩,h1,hm⟩:=aaa.mp hm;cases hm;exact DR ⟨μ,S,env,d,S1,hS,hE,h1,λv H1 μ1 e1 s1 r1=>post _ H1 μ1 e1 s1 ((hE.mono e1).set r1 i)⟩
end
section
variable{X:Cx}{K:aeO}{μ μ':Fp}{H H':Hp}{S:ac}{pos p2:Pos}{tg iter:vx}{m:ME}
def zO(N N':List Str)(kX kB:Str->Option NameKind):List 4.7->List Str->Bool
 | [],[]=>true
 | none::r,_::s=>zO N N' kX kB r s
 | some i::r,y::s=>N[i]?==Y y&&(kX y==Y .cell||kX y==Y .free)&&(kB y==Y .cell||kB y==Y .free)&&zO N N' kX kB r s
 | _,_=>false
theorem Dn{kX:Str->Option NameKind}:∀ {cap:List 4.7} {ys:List Str},zO N N' kX kB cap ys=true->cap.length=ys.length/\∀ (j i:Nat),cap[j]?=Y (Y i)->∃ y,ys[j]?=Y y/\N[i]?=Y y/\(kX y=Y .cell\/kX y=Y .free)/\(kB y=Y .cell\/kB y=Y .free)
 | [],[],_=>⟨rfl,λj i e=>by simp at e⟩
 | none::r,y::s,h=>by
  obtain⟨h1,h2⟩:=Dn (cap:=r) (ys:=s) h;refine⟨by simp[h1],λj i e=>?_⟩;cases j with
  | zero=>simp at e
  | succ j=>simpa using h2 j i (by simpa using e)
 | some k::r,y::s,h=>by
  rw[zO,aae,aae,aae,acB,acB] at h;obtain⟨h1,h2⟩:=Dn (cap:=r) (ys:=s) h.2;refine⟨by simp[h1],λj i e=>?_⟩;cases j with
  | zero=>
   simp at e;subst e;refine⟨y,rfl,by simpa using h.1.1.1,?_,?_⟩
   ·exact h.1.1.2.imp (λz=>by simpa using z) λz=>by simpa using z
   ·exact h.1.2.imp (λz=>by simpa using z) λz=>by simpa using z
  | succ j=>simpa using h2 j i (by simpa using e)
 | [],_::_,h=>by simp[zO] at h
 | none::_,[],h=>by simp[zO] at h
 | some _::_,[],h=>by simp[zO] at h
theorem blk{N':List Str}{scope:Scope}(nd:N'.Nodup)(k:scope.kind=.function:=by rfl)(nc:(scope.names.all λx=>x.2 != .cell)=true:=by rfl)(nm:(scope.names.all λx=>x.2 != .local||scope.names.lookup x.1==Y .local)=true:=by rfl)
  (fr:(scope.names.all λx=>x.2 != .free||X.env.kindOf x.1==Y .cell||X.env.kindOf x.1==Y .free)=true:=by rfl)
  (cp:zO X.N N' X.env.kindOf (λy=>(relabel scope X.env).names.lookup y) cap N'=true:=by rfl):BlockOk X N' scope cap:=by
 obtain⟨h1,h2⟩:=Dn cp;refine⟨k,λx hx=>?_,λx hx hl=>?_,λx hx hf=>?_,nd,h1,λj i e=>?_⟩
 ·have:=aav.mp nc x hx;simpa using this
 ·have:=aav.mp nm x hx;simpa[hl] using this
 ·have:=aav.mp fr x hx;simpa[hf] using this
 ·obtain⟨y,a,b,c,d⟩:=h2 j i e;exact⟨y,a,b,.inr c,c,d⟩
theorem Pc(hl:PE X l tl):PI X tg l (λσ H R=>tl σ H λx H1=>∃ a,x=.ref a/\(((∃ xs,qD X.K H1 a xs)/\R (Itl X.K a) H1)\/((∃ xs,rR X.K H1 a xs)/\R (Itt X.K a) H1))):=by
 intro pins s σ H R I h;refine dO (hl pins s σ H _ I h) λv s1 ⟨x,H1,I1,r1,q1⟩=>?_;obtain⟨a,e,⟨⟨xs,hq⟩,q⟩ | ⟨⟨xs,hq⟩,q⟩⟩:=q1
 ·subst e;cases r1;obtain⟨its,rv,p,hz⟩:=I1.list hq;refine acm p.isList ?_;refine⟨s1.heap.objs.size,[s1.heap.objs.size],_,_,H1,rfl,I1.kept (t':=s1.toks) λb o e=>aaf _ e,zW a _,⟨_,aay _ rfl,rfl,rfl⟩,λb hb=>?_,q⟩;have e:b=s1.heap.objs.size:=by simpa using hb
  subst e;exact I1.fpOk (aal _) 7.0
 ·subst e;cases r1;obtain⟨its,rv,p,hz⟩:=I1.tuple hq;refine adb (show s1.heap.IsTuple a its.toArray from p) ?_;refine⟨s1.heap.objs.size,[s1.heap.objs.size],_,_,H1,rfl,I1.kept (t':=s1.toks) λb o e=>aaf _ e,Hb a _,⟨_,aay _ rfl,rfl,rfl⟩,λb hb=>?_,q⟩;have e:b=s1.heap.objs.size:=by simpa using hb
  subst e;exact I1.fpOk (aal _) 7.0
def cR(m:ME):MA:=λenv S=>(m env S).bind λp=>match p.1 with | .lst xs=>Y (xs,p.2) | .rol xs=>Y (xs,p.2) | .tup xs=>Y (xs,p.2) | _=>L
theorem Jy(h:DE X iter m):DI X tg iter (cR m):=PI.imp (Pc h) λσ H R z0=>by
 obtain⟨μ,S,env,xs,S',hS,hE,hm,post⟩:=z0;obtain⟨⟨d,S1⟩,h1,hm⟩:=aaa.mp hm;refine⟨μ,S,env,d,S1,hS,hE,h1,λv H1 μ1 e1 s1 r1=>?_⟩;cases d with
 | lst ys=>
  cases hm;have r1':=r1;obtain⟨a,vs,rfl,q,z,rs⟩:=r1.sqL;exact⟨a,rfl,.inl ⟨⟨vs,.inl (.inl q)⟩,post _ H1 μ1 e1 s1 (qe 3.7 r1' rfl)⟩⟩
 | rol ys=>
  cases hm;have r1':=r1;obtain⟨a,vs,rfl,q,rs⟩:=r1.sqR;exact⟨a,rfl,.inl ⟨⟨vs,q⟩,post _ H1 μ1 e1 s1 (qe (.inr rfl) r1' rfl)⟩⟩
 | tup ys=>
  cases hm;have r1':=r1;obtain⟨a,vs,rfl,q,rs⟩:=r1.sqT;exact⟨a,rfl,.inr ⟨⟨vs,q⟩,post _ H1 μ1 e1 s1 (FP r1')⟩⟩
 | _=>cases hm
end
def aU(N:List Str)(m:MS)(n:Nat):List D->ac->Option (D×ac):=λds S=>if ds.length=n then(m 1.50 S).bind λo=>match o with | .rt d S'=>Y (d,S') | .nx _ S'=>Y (.non,S') | _=>L else L
theorem Ah{S':ac}{d:D}(h:aU N m n ds S=Y (d,S')):Runs m 1.50 S d S':=by
 unfold aU at h;split at h
 ·obtain⟨o,h1,h⟩:=aaa.mp h;cases o with
  | rt d' S2=>cases h;exact .ret h1
  | nx e S2=>cases h;exact⟨_,[],h1,.inl rfl,.inr ⟨rfl,e,by rw[aaN]⟩⟩
  | bk _ _=>cases h
  | ct _ _=>cases h
 ·cases h
structure bR(K:aeO)(mg:Str->Option ce)(x:Str)(st:QO):Prop where
 ex:∃ (a:tx) (fd:FuncData),L2.Fun K x x st a fd/\mg x=Y (.ref a)
def rT(x:Str)(st:QO)(ps:List Str):Prop:=∀ (kV doc pm:ce) (an:Option tx) (cdv ct:ce) (us:List ce),us.length=ps.length->bindArgs (W.fnOf x x (gU st) (aM st) (aw st) .none kV doc pm an cdv ct) ⟨us,[]⟩=pure 1.62
theorem qaV{K:aeO}{k:Nat}{st:QO}
  (F:bR K mg x st) (Sc:aQ N ps (aw st)) (hb:rT x st ps)
  (hbody:∀ (a:tx) (cdv:ce) (A:SN) (outer:List PySem.Env) (s:gV) (H:Hp) (E:XK),Room k (A.deeper (envOfC x (aw st) s.heap.objs.size a cdv)) ->
   zQ (vU GX P w K mg base N x (aw st) a cdv A outer s H E).nox (aM st) m) :
  Fn P w K mg base (k+1) x ps.length (aU N m ps.length):=by
 obtain⟨a,fd,F,hmg⟩:=F.ex;exact Xo F Sc hmg (F.binds hb) λcdv A outer s H E hr=>⟨m,hbody a cdv A outer s H E hr,λds S d S' hn hS hd h=>Ah h⟩
theorem Fn.up{K:aeO}{k k':Nat}(F:Fn P w K mg base k x n f)(h:k<=k':=by decide):Fn P w K mg base k' x n f:=by
 obtain⟨a,fd,ps,h1,h2,h3⟩:=F.ex;exact⟨a,fd,ps,h1,h2.mono h,h3⟩
theorem Zz{K:aeO}{f:List D->ac->Option (D×ac)}(h:∀ ns:List Int,ns.length<=63->∃ S',f [.rol 2.6] []=Y (.bl true,S')){ns:List Int}(hl:ns.length<=63)(hS:qD K H a 7.3) :
  OA K 1 f [.ref a] H (λv z=>v=.bl true) E:=by
 obtain⟨S',hf⟩:=h ns hl
 have hr:∀ l:List Int,Reps K ⟨[],[]⟩ H (l.map V.int) (l.map D.int):=λl=>by
  induction l with
  | nil=>exact .nil
  | cons x l ih=>exact .cons (.int x) ih
 refine⟨⟨[],[]⟩,[],_,_,S',⟨List.nodup_nil,rfl,λr a c h=>by simp at h,λa h=>by simp at h,λa h=>by simp at h⟩,.cons ?_ .nil,rfl,hf,λv H' μ' e s r=>r.bl_inv⟩;rcases hS with hS | hS
 ·exact .rol hS ⟨by simp,by simp⟩ (hr ns)
 ·exact .krol hS (hr ns)
def MU(_:ac)(x:D):Option D:=match x with | .int i=>Y (.int (-i)) | _=>L
theorem SY:UnR X (unaryOp .USub) (rM1 X.K MU):=XW
def bX:MT:=λz S=>Y (true,S)
theorem RI:NW X [] bX:=VD
theorem ZA{K:aeO}{k:Nat}{st:QO}(F:bR K mg "law" st)(hfa:mg "law" = Y 1.57)(Sc:aQ N ["_law_script"] (aw st))
  (hbt:∀ (kV doc pm:ce) (an:Option tx) (cdv ct v:ce),bindArgs (W.fnOf "law" "law" (gU st) (aM st) (aw st) .none kV doc pm an cdv ct) ⟨[v],[]⟩=pure [(("_law_script":Str),v)])
  (hbody:∀ (base:TF) (a:tx) (cdv:ce) (A:SN) (outer:List PySem.Env) (s:gV) (H:Hp) (E:XK),Room k (A.deeper (envOfC "law" (aw st) s.heap.objs.size a cdv)) ->
   zQ (vU GX P w K mg base N "law" (aw st) a cdv A outer s H E).nox (aM st) m) :
  ∃ fd:FuncData,(∀ (s:gV) (v:ce),BindsTo s fd ⟨[v],[]⟩ [("_law_script",v)])/\∀ base:TF,K.In base->base.Ns Zs mg->FnOk P w K mg base GX (k+1) fa fd ["_law_script"] (OA K 1 (aU N m 1)):=by
 obtain⟨a,fd,F,hmg⟩:=F.ex;rw[hfa] at hmg;have e:fa=a:=by cases hmg;rfl
 subst e;refine⟨fd,λs v=>?_,λbase z z=>Xn F Sc λcdv A outer s H E hr=>⟨m,hbody base fa cdv A outer s H E hr,λds S d S' hn hS hd h=>Ah h⟩⟩;obtain⟨oc,od,kV,doc,pm,an,cdv,ct,osl,rfl,lk,hcd⟩:=F.ex;exact .of_eq (hbt kV doc pm an cdv ct v)
end M
namespace HT
open AutoSeq1 (wpAny_loadPart')
theorem HV:fillsNumberSlot (.type "tuple") "mul" = pure false:=
 PySem.fillsNumberSlot_seq (id:="tuple.__mul__") (r:=Y (.builtin "tuple.__rmul__"))
  F.slot_tuple_mul.lookup (by decide +kernel) F.slot_tuple_rmul.lookup (by decide +kernel)
theorem Yp:seqRepeat? (.type "tuple")=pure (Y (.builtin "tuple.__mul__")):=by
 unfold seqRepeat?;rw[PySem.seqSlot_of (T:="tuple") (name:="__mul__") (id:="tuple.__mul__") F.slot_tuple_mul.lookup (by decide +kernel)];rw[PySem.seqSlot_of (T:="tuple") (name:="__rmul__") (id:="tuple.__rmul__") F.slot_tuple_rmul.lookup (by decide +kernel)];rfl
theorem OK(a:Int)(t:Tok)(l:tx)(items:Array ce)(n:Nat)(dd:Option tx)(sl:Array 9.0) :
  Meets (Builtin.«int.__rmul__» ⟨[.int a t,.ref l],[]⟩) (λz R s=>s.heap.get? l=Y ⟨.type "tuple",dd,.seq items n,sl⟩/\R (.ok (.ret Value.notImplemented)) s):=
 .of_wp λprog w A R s h=>by
  obtain⟨hp,g,d,tk,os⟩:=s;obtain⟨hl,h⟩:=h
  wp_walk
  exact⟨_,rfl,h⟩
theorem mulT0(l:tx)(items:Array ce)(n:Nat)(k:Int)(t:Tok)(dd:Option tx)(sl:Array 9.0)(h1:¬ (decide (k < -(2^63))||decide (k≥2^63))=true)(hc:(items.isEmpty||k==1)=true) :
  Meets (Builtin.«tuple.__mul__» ⟨[.ref l,.int k t],[]⟩) (λz R s=>s.heap.get? l=Y ⟨.type "tuple",dd,.seq items n,sl⟩/\R (.ok (.ret (.ref l))) s):=
 .of_wp λprog w A R s h=>by
  obtain⟨hp,g,d,tk,os⟩:=s;obtain⟨hl,h⟩:=h;have f1:=ady;have f2:=acI
  wp_walk using wpAny_loadPart' hl
  rw[if_neg h1]
  wp_walk using wpAny_loadPart' hl
  exact⟨_,rfl,h⟩
theorem mulT1(l:tx)(items:Array ce)(n:Nat)(k:Int)(t:Tok)(dd:Option tx)(sl:Array 9.0)(h1:¬ (decide (k < -(2^63))||decide (k≥2^63))=true)(hc:¬ (items.isEmpty||k==1)=true)(hk:(decide (k<=0)||items.isEmpty)=true) :
  Meets (Builtin.«tuple.__mul__» ⟨[.ref l,.int k t],[]⟩) (λz R s=>s.heap.get? l=Y ⟨.type "tuple",dd,.seq items n,sl⟩/\R (.ok (.ret 5.4)) { s with heap:=s.heap.push { cls:=.type "tuple",data:=.seq #[] },toks:=s.toks }):=
 .of_wp λprog w A R s h=>by
  obtain⟨hp,g,d,tk,os⟩:=s;obtain⟨hl,h⟩:=h;have f1:=ady;have f2:=acI
  wp_walk using wpAny_loadPart' hl
  rw[if_neg h1]
  wp_walk using wpAny_loadPart' hl
  exact⟨_,rfl,h⟩
theorem mulT2(l:tx)(items:Array ce)(n:Nat)(k:Int)(t:Tok)(dd:Option tx)(sl:Array 9.0)(h1:¬ (decide (k < -(2^63))||decide (k≥2^63))=true)(hc:¬ (items.isEmpty||k==1)=true)(hk:¬ (decide (k<=0)||items.isEmpty)=true)
  (hb:¬ ((items.size:Int)*k>(2^63 - 1) / 8)) (hm:¬ Builtin.Tuple.tupleTooMany ((items.size:Int)*k)=true) (hz:(List.foldl (λx1 x2=>x1++x2) #[] (aeP k.toNat items)).size<=Vj) :
  Meets (Builtin.«tuple.__mul__» ⟨[.ref l,.int k t],[]⟩) (λz R s=>s.heap.get? l=Y ⟨.type "tuple",dd,.seq items n,sl⟩/\R (.ok (.ret 5.4)) { s with heap:=s.heap.push { cls:=.type "tuple",data:=.seq (List.foldl (λx1 x2=>x1++x2) #[] (aeP k.toNat items)) },toks:=s.toks }):=
 .of_wp λprog w A R s h=>by
  obtain⟨hp,g,d,tk,os⟩:=s;obtain⟨hl,h⟩:=h;have f1:=ady;have f2:=acI
  wp_walk using wpAny_loadPart' hl
  rw[if_neg h1]
  wp_walk using wpAny_loadPart' hl
  rw[if_neg hb]
  wp_walk using wpAny_loadPart' hl
  exact⟨_,rfl,h⟩
end HT
namespace L2
section
variable{X:Cx}
theorem vrep(h:Vals xs us):∀ k:Nat,Vals (aeP k xs).flatten (aeP k us).flatten
 | 0=>.nil
 | k+1=>by rw[aaQ,aaQ,abm,abm];exact h.append (vrep h k)
theorem frep(its:List ce):∀ (m:Nat) (acc:List ce),List.foldl (λx1 x2=>x1++x2) acc.toArray (aeP m its.toArray)=(acc++(aeP m its).flatten).toArray
 | 0=>λacc=>by simp
 | m+1=>λacc=>by
  rw[aaQ,List.foldl_cons,List.append_toArray,frep its m (acc++its),aaQ,abm,aaZ]
def rRepT(K:aeO):R2:=λx y H Q=>∃ a k xs,x=.ref a/\y=.int k/\rR K H a xs/\-(2^62)<=k/\k<2^62/\xs.length*k.toNat<=Vj /\
 ((xs=[]\/k=1)->Q (.ref a) H)/\((xs≠[]/\k≠1)->∀ p,H p=L->Q (.ref p) (upd H p (.tup (aeP k.toNat xs).flatten)))
theorem Uq:OpR X 2.02 (rRepT X.K):=by
 intro pins s σ H x y v u Q I rx ry h;obtain⟨l,k,xs,rfl,rfl,hq,h1,h2,hz,q1,q2⟩:=h;cases rx;obtain⟨t,rfl⟩:=ry;obtain⟨its,r,hT,hzz⟩:=I.tuple hq;obtain⟨⟨cls,dd,data,sl⟩,e,hc,n,hd⟩:=id hT;simp only at hc hd;subst hc hd;have hlen:xs.length=its.length:=r.length;have g1:¬ (decide (k < -(2^63))||decide (k≥2^63))=true:=by simp;omega
 have road:∀ {S:PySem.Spec},Meets (Builtin.«tuple.__mul__» ⟨[.ref l,.int k t],[]⟩) S->S X.A (wants 3.4 X.xe) s->aeN 0.2 X.A (aeM .Mult (.ref l) (.int k t)) 3.4 X.xe s:=λM hS=>
  adF (T:="tuple") (U:="int") 0.1 ⟨_,e,rfl⟩ (λs'=>adn s' k t) HT.HV F.fills_int_mul acV HT.Yp F.slot_int_index.lookup
   (aco acV (adn s k t) F.entry_int_rmul (F.args_int_rmul_2 _ _) (HT.OK k t l its.toArray n dd sl)
    ⟨e,rfl,⟨_,e,rfl⟩,aco F.slot_tuple_mul ⟨_,e,rfl⟩ F.entry_tuple_mul (F.args_tuple_mul_2 _ _) M hS⟩)
 by_cases hs:xs=[]\/k=1
 ·have hcc:(its.toArray.isEmpty||k==1)=true:=by
   rcases hs with rfl | rfl
   ·cases r;rfl
   ·simp
  exact road (HT.mulT0 l its.toArray n k t dd sl g1 hcc) ⟨e,.ref l,H,I,rfl,q1 hs⟩
 ·have hx:xs≠[]:=λz=>hs (.inl z);have hk1:k≠1:=λz=>hs (.inr z);have hi:its≠[]:=λz=>by subst z;cases r;exact hx rfl
  have hcc:¬ (its.toArray.isEmpty||k==1)=true:=by simp[hi,hk1]
  by_cases hk:k<=0
  ·have hk':(decide (k<=0)||its.toArray.isEmpty)=true:=by simp[hk]
   have k0:k.toNat=0:=by omega
   refine road (HT.mulT1 l its.toArray n k t dd sl g1 hcc hk') ⟨e,.ref _,_,I.laid (o:=.tup []) (λw w q=>aaf _ q) (aal _) ⟨by simp,[],.nil,⟨_,aay _ rfl,rfl,⟨0,rfl⟩,rfl⟩⟩,rfl,?_⟩;have:=q2 ⟨hx,hk1⟩ s.heap.objs.size I.fresh;rw[k0] at this;exact this
  ·have hk':¬ (decide (k<=0)||its.toArray.isEmpty)=true:=by simp[hi];omega
   have km:(k.toNat:Int)=k:=by omega
   have hpr:((its.length:Int)*k)<=Vj:=by rw[<- km,<- hlen];exact_mod_cast hz
   have hsl:((Vj:Nat):Int)<=(2^63 - 1) / 8:=by decide
   have hf:=frep its k.toNat [];rw[acS] at hf;have hf':List.foldl (λx1 x2=>x1++x2) #[] (aeP k.toNat its.toArray)=(aeP k.toNat its).flatten.toArray:=hf;have hl2:(aeP k.toNat its).flatten.length<=Vj:=by rw[CF,<- hlen,ads];exact hz
   refine road (HT.mulT2 l its.toArray n k t dd sl g1 hcc hk' (by rw[aai];omega) (by unfold Builtin.Tuple.tupleTooMany;rw[aai];simp;omega) (by rw[hf',aai];exact hl2)) ⟨e,?_⟩;rw[hf'];exact⟨.ref _,_,I.laid (o:=.tup (aeP k.toNat xs).flatten) (λw w q=>aaf _ q) (aal _) ⟨by rw[CF,ads];exact hz,(aeP k.toNat its).flatten,vrep r _,⟨_,aay _ rfl,rfl,⟨0,rfl⟩,rfl⟩⟩,rfl,q2 ⟨hx,hk1⟩ _ I.fresh⟩
end
end L2
namespace M
open L2
section
variable{X:Cx}{K:aeO}{μ μ':Fp}{H H':Hp}{S:ac}
def cA(S:ac)(x y:D):Option D:=match x,y with
 | .tup xs,.int k=>if -(2^62)<=k/\k<2^62/\xs.length*k.toNat<=Vj then Y (.tup (aeP k.toNat xs).flatten) else L
 | .lst xs,.int k=>if -(2^62)<=k/\k<2^62/\xs.length*k.toNat<=Vj then Y (.lst (aeP k.toNat xs).flatten) else L
 | x,y=>qay S x y
theorem flat1{α:Type}(xs:List α):(aeP 1 xs).flatten=xs:=by simp
theorem Uu:OpR X 2.02 (pY X.K cA):=OpR.imp (OpR.or Zc (OpR.or Uq YW)) λx y H Q z0=>by
 obtain⟨μ,S,dx,dy,dz,hS,h1,h2,h3,post⟩:=z0;unfold cA at h3;split at h3
 ·rename_i xs k;split at h3
  ·rename_i hk;cases h3;obtain⟨a,vs,rfl,q,r⟩:=h1.sqT;have h1':=h1;refine .inr (.inl ⟨a,k,vs,rfl,h2.int_inv,q,hk.1,hk.2.1,by rw[r.length];exact hk.2.2,λhs=>?_,λz p hp=>post.tup hS hp (Reps.flat _ r)⟩)
   have e:(aeP k.toNat xs).flatten=xs:=by
    rcases hs with rfl | rfl
    ·cases r;simp
    ·exact flat1 xs
   rw[e] at post;exact post.here hS h1'
  ·cases h3
 ·rename_i xs k;split at h3
  ·rename_i hk;cases h3;obtain⟨a,vs,rfl,q,n,r⟩:=h1.sqL;exact .inr (.inr ⟨a,k,vs,rfl,h2.int_inv,q,by omega,by omega,by rw[r.length];exact hk.2.2,λp hp=>post.lst hS hp (Reps.flat _ r)⟩)
  ·cases h3
 ·exact .inl ⟨μ,S,dx,dy,dz,hS,h1,h2,h3,post⟩
noncomputable abbrev MF:=D->List D->ac->Option (D×ac)
inductive TC(K:aeO)(f:MF)(x:V)(vs:List V)(H:Hp)(Q:VK):Prop
 | mk (μ:Fp) (S:ac) (dx:D) (ds:List D) (d:D) (S':ac) (hS:SOk K μ S H) (h1:Rep K μ H x dx) (h2:Reps K μ H vs ds) (h3:f dx ds S=Y (d,S')) (post:Post K μ H S' d Q)
theorem MtR.imp{id:String}{r':V->List V->Hp->VK->Prop}(h:MtR X id r)(i:∀ x xs H Q,r' x xs H Q->r x xs H Q):MtR X id r':=λpins s σ H x xs v us Q I rx rv q=>h pins s σ H x xs v us Q I rx rv (i x xs H Q q)
def dN:MF:=λo ds S=>match o,ds with
 | .ref r,[y]=>match S[r]? with | some 2.4=>if xs.length<Vj then Y (.non,S.set r (.lst (xs++[y]))) else L | _=>L
 | _,_=>L
def yF:MF:=λo ds S=>match ds with
 | [x]=>(kg S o).bind λys=>if cy 40 x=true/\ys.all (cy 39)=true then Y (.int (ys.countP λd=>gJ d x),S) else L
 | _=>L
theorem Mf:MtR X "list.append" (TC X.K dN):=MtR.imp Aq λx vs H Q z0=>by
 obtain⟨μ,S,dx,ds,d,S',hS,r1,r2,h,post⟩:=z0;unfold dN at h;split at h
 ·rename_i r y;obtain⟨v,rfl,rv⟩:=r2.one;cases q:S[r]? with
  | none=>rw[q] at h;cases h
  | some c=>
   rw[q] at h;cases c with
   | dct _ _=>cases h
   | lst xs=>
    dsimp only at h;split at h
    ·rename_i hz;cases h;cases r1 with
     | @ref a _ h'=>
      obtain⟨ws,hw,rw'⟩:=hS.cell r a _ h' q;obtain⟨e,s'⟩:=hS.write h' hw (rw'.append (.cons rv .nil));exact⟨a,ws,v,rfl,rfl,hw,by rw[rw'.length];exact hz,post _ _ μ e s' .non⟩
    ·cases h
 ·cases h
theorem pN{s:gV}(I:Inv X pins σ H s):∀ {vs:List V} {us:List ce} {ds:List D},Vals vs us->Reps X.K μ H vs ds->(∀ d∈ds,cy 39 d=true) ->
  us.countP (fR X.K μ H x)=ds.countP λd=>gJ d x
 | _,_,_,.nil,.nil,_=>rfl
 | _,_,_,.cons rv tv,.cons r t,ok=>by
  rw[List.countP_cons,List.countP_cons,tK I rv r (ok _ aad),pN I tv t λd m=>ok d 1.51]
def uo(S:ac):D->Bool
 | .lst _=>true
 | .rol _=>true
 | .ref r=>match S[r]? with | some (.lst _)=>true | _=>false
 | _=>false
theorem sP{d:D}(hS:SOk K μ S H)(r:Rep K μ H v d)(h:uo S d=true):∃ a vs ds,v=.ref a/\qD K H a vs/\kg S d=Y ds/\Reps K μ H vs ds:=by
 cases r with
 | lst h' n r=>exact⟨_,_,_,rfl,.inl (.inl h'),rfl,r⟩
 | rol h' n r=>exact⟨_,_,_,rfl,.inl h',rfl,r⟩
 | krol h' r=>exact⟨_,_,_,rfl,.inr h',rfl,r⟩
 | @ref a i h'=>
  simp only[uo] at h;cases q:S[i]? with
  | none=>rw[q] at h;cases h
  | some c=>
   rw[q] at h;cases c with
   | dct _ _=>cases h
   | lst xs=>
    obtain⟨vs,e,r⟩:=hS.cell i a _ h' q;exact⟨a,vs,xs,rfl,.inl (.inl e),by simp only[kg,q],r⟩
 | _=>cases h
def qo:MF:=λo ds S=>if uo S o=true then yF o ds S else L
theorem EK(hu:X.A.units+64<cLine):MtR X "list.count" (TC X.K qo):=by
 intro pins s σ H x vs v us Q I rx rv h;obtain⟨μ,S,dx,ds,d,S',hS,r1,r2,h,post⟩:=h;unfold qo at h;split at h
 ·rename_i hl;unfold yF at h;split at h
  ·rename_i y;obtain⟨a,ws,es,rfl,hq,hse,re⟩:=sP hS r1 hl;rw[hse] at h;dsimp only[Option.bind_some] at h;split at h
   ·rename_i hk;cases h;cases rx;obtain⟨w,rfl,rw0⟩:=r2.one;obtain⟨u,rfl,ru⟩:=rv.one;obtain⟨its,rvs,⟨⟨cls,dd,data,sl⟩,n,e,hc,hdd,hd⟩,hz⟩:=I.list hq;simp only at hc hdd hd;subst hc hdd hd;have ok:=aav.mp hk.2;refine aco adp ⟨_,e,rfl⟩ F.entry_list_count (F.args_list_count_2 _ _) (SeqAt.list_countAt a its.toArray n L sl u 1.75) ⟨e,λw' hw'=>?_,?_⟩
    ·exact ip I (by show X.A.units+1+40<cLine;omega) ru rw0 hk.1 rvs re ok w' (by simpa using hw')
    ·refine⟨.int _,H,I.tok _,⟨_,rfl⟩,?_⟩;rw[pN I rvs re ok];exact post.here hS (.int _)
   ·cases h
  ·cases h
 ·cases h
def fB(f:MF)(o:ME)(ms:MA):ME:=λenv S=>(o env S).bind λp=>if uo p.2 p.1=true then(ms env p.2).bind λq=>f p.1 q.1 q.2 else L
theorem Lj{e:vx}{es:List vx}{name:Str}{id:String}{apos:Pos}(slot:Slot "list" name id)(hty:typeOf 4.9=pure (.type "method_descriptor"))(hm:MtR X id (TC X.K f))(ho:DE X o mo)(ha:DA X (e::es) ms)
  (hbase:attributeBase o name X.env 8.4=eval o X.env)
  (hfew:((backTo cpos (WP (e::es) X.env)).all (λx=>!x.1)&&(backToKw cpos (keywordEach [] X.env)).all (λx=>x.1.isSome)&&decide ((e::es).length+([]:List Keyword).length+(if ([]:List Keyword).isEmpty then 0 else 1)<30))=true)
  (hline:(apos.endLine==cpos.line)=true) (hs:WP (e::es) X.env=(false,eval e X.env)::WP es X.env) (hpl:(backTo cpos 2.2).any (·.1)=false) :
  DE X (.Call 8.0 (e::es) [] cpos) (fB f mo ms):=
 PE.imp (pe_bm F.plainAttrs_list slot hty hm ho ha hbase hfew hline hs hpl) λσ H Q z0=>by
  obtain⟨μ,S,env,d,S',hS,hE,h,post⟩:=z0;obtain⟨⟨x,S1⟩,h1,h⟩:=aaa.mp h;dsimp only at h;split at h
  ·rename_i hl;obtain⟨⟨xs,S2⟩,h2,h⟩:=aaa.mp h;refine⟨μ,S,env,x,S1,hS,hE,h1,λv H1 μ1 e1 s1 r1=>⟨?_,μ1,S1,env,xs,S2,s1,hE.mono e1,h2,λvs H2 μ2 e2 s2 r2=>⟨μ2,S2,x,xs,d,S',s2,r1.mono e2,r2,h,(post.ext e1).ext e2⟩⟩⟩;obtain⟨a,ws,es,rfl,hq,z,z⟩:=sP s1 r1 hl;exact .inl ⟨rfl,ws,hq⟩
  ·cases h
end
end M
namespace HT
open AutoSeq1 (wpAny_loadPart')
section
variable{prog:Op}{w:Qa}{A:SN}{E:ce->gV->Prop}{s:gV}
theorem Jp{Q:ce->gV->Prop}(hit:s.heap.IsTupleIter it t i)(ht:s.heap.IsTuple t items)(hx:items[i]?=Y x)
  (hQ:∀ h',h'.IsTupleIter it t (i+1)->Heap.SameBut it s.heap h'->Q x { s with heap:=h' }):aeN 1.0 A (Builtin.SmallTypes.nextOf 6.5) Q E s:=by
 obtain⟨o,ho,hc,hd⟩:=id hit;obtain⟨ol,hol,z,nl,hdl⟩:=ht;unfold Builtin.SmallTypes.nextOf;refine aab (abM (name:=Str.ofString "__next__") hit.typeIs acd (acs acd hit.typeIs adE ?_ (adA _)));show aeN _ _ (field 6.5 0 >>= _) _ _ s;refine aab (abn ho hd (x:=.ref t) rfl ?_);show aeN _ _ (if (Value.ref t==Value.none)=true then _ else _) _ _ s;rw[if_neg (show ¬ ((Value.ref t==Value.none)=true) from aeQ)];show aeN _ _ (field 6.5 1 >>= _) _ _ s;refine aab (abn ho hd (x:=.int i 0) rfl ?_);show aeN _ _ (seqItems? (.ref t) >>= _) _ _ s;refine aab (wpAny_seqItems hol hdl ?_);simp only[abg,hx];refine aab (abQ ho hd 0.3 (aam ⟨x,rfl,aam (hQ _ ⟨_,abd _ ho (abZ (abV hd _)),(Obj.cls_mapFields ..).trans hc,?_⟩ (aez ..))⟩));rw[abV hd];simp[rawInt]
theorem Bd(hh:A.handled=L)(hit:s.heap.IsTupleIter it t i)(ht:s.heap.IsTuple t items)(hx:items[i]?=L)
  (hE:∀ h' e,Heap.ExtBut it s.heap h'->(∃ o,h'.get? e=Y o/\o.cls=.type "StopIteration")->E (.ref e) { s with heap:=h' }):aeN 1.0 A (Builtin.SmallTypes.nextOf 6.5) Q E s:=by
 obtain⟨o,ho,hc,hd⟩:=id hit;obtain⟨ol,hol,z,nl,hdl⟩:=ht;unfold Builtin.SmallTypes.nextOf;refine aab (abM (name:=Str.ofString "__next__") hit.typeIs acd (acs acd hit.typeIs adE ?_ (adA _)));show aeN _ _ (field 6.5 0 >>= _) _ _ s;refine aab (abn ho hd (x:=.ref t) rfl ?_);show aeN _ _ (if (Value.ref t==Value.none)=true then _ else _) _ _ s;rw[if_neg (show ¬ ((Value.ref t==Value.none)=true) from aeQ)];show aeN _ _ (field 6.5 1 >>= _) _ _ s;refine aab (abn ho hd (x:=.int i 0) rfl ?_);show aeN _ _ (seqItems? (.ref t) >>= _) _ _ s;refine aab (wpAny_seqItems hol hdl ?_);simp only[abg,hx];refine aab (adJ (aab (abQ ho hd 0.3 ?_)));show aeN _ _ (newExc (.type "StopIteration") [] >>= _) _ _ _;refine aab ?_;simp only[newExc,newTuple];refine aab (aaS ?_ (by size_fits));refine aab (m:=firstArgMember _ _) (wpAny_of_eq (a:=Value.none) (by first | rfl | (simp only[firstArgMember];rfl)) (aaS ?_ (by size_fits)));simp only[raiseNew];refine aab (wpAny_handled ?_);(first | rw[show A.in1.handled=L from hh] | rw[hh]);refine aab (aam (wpAny_throw (hE _ _ (((aez ..).extBut.push _).push _) ⟨_,aay _ rfl,rfl⟩)))
end
theorem RR{A:SN}(hh:A.handled=L)(it t:tx)(hne:t≠it)(items:Array ce) :
  Draws prog w A it [it,t] items.size (λi v=>items[i]?=Y v) (λi h=>h.IsTupleIter it t i/\h.IsTuple t items) where
 live:=λz z st=>by obtain⟨o,ho,z⟩:=st.1;exact⟨o,ho⟩
 frame:=λz z z st hk=>by
  obtain⟨⟨o,ho,r⟩,⟨o2,ho2,r2⟩⟩:=st;exact⟨⟨o,hk it 0.3 o ho,r⟩,⟨o2,hk t 0.3 o2 ho2,r2⟩⟩
 item:=λi s Q E hi st hQ=>Jp st.1 st.2 (x:=items[i]) (by simp[hi]) λh' hit' hs'=>hQ _ h' s.toks (by simp[hi]) ⟨hit',st.2.extBut hs'.extBut hne⟩ hs'
 done:=λs Q E st hE=>Bd hh st.1 st.2 0.3 hE
theorem Nj(l:tx)(items:Array ce)(n:Nat)(dct:Option tx)(sl:Array 9.0) :
  Meets (Builtin.«enumerate.__new__» ⟨[.type "enumerate",.ref l],[]⟩) (λz R s=>s.heap.get? l=Y ⟨.type "tuple",dct,.seq items n,sl⟩ /\
   R (.ok (.ret (.ref (s.heap.push { cls:=.type "tuple_iterator",data:=.fields #[.ref l,.int 0 0] }).objs.size)))
    {s with heap:=(s.heap.push { cls:=.type "tuple_iterator",data:=.fields #[.ref l,.int 0 0] }).push { cls:=.type "enumerate",data:=.fields #[.none,.bool false,.ref s.heap.objs.size,rawInt 0,.none,.none] } }):=
 .of_wp λprog w A R s h=>by
  obtain⟨hp,g,d,tk,os⟩:=s;obtain⟨hl,h⟩:=h;have hsub:=sub_enumerate;have hL:Heap.IsTuple (Shared.heap ⟨hp,g,d,tk,os⟩) l items:=⟨_,hl,rfl,n,rfl⟩
  wp_walk using wpAny_loadPart' hl
  refine wpAny_stack_any λst=>aam ?_;split
  ·rename_i c _ _ _ _ _;cases(c==Value.type "enumerate")<;>(wp_walk using wpAny_loadPart' hl,adb hL;exact⟨_,rfl,h⟩)
  ·wp_walk using wpAny_loadPart' hl,adb hL
   exact⟨_,rfl,h⟩
end HT
namespace HT
section
variable{prog:Op}{w:Qa}{A:SN}{E:ce->gV->Prop}{s:gV}
theorem JD{Q:ce->gV->Prop}(hL:s.heap.IsTuple l items)
  (h:∀ h':TF,IsEnum h' (s.heap.objs.size+1) s.heap.objs.size 0 .none->h'.IsTupleIter s.heap.objs.size l 0->h'.objs.size=s.heap.objs.size+2->(∀ b o,s.heap.get? b=Y o->h'.get? b=Y o)->Q (.ref (s.heap.objs.size+1)) { s with heap:=h' }) :
  aeN 1.0 A (call (.type "enumerate") [.ref l]) Q E s:=by
 obtain⟨⟨c,dct,dt,sl⟩,hl,hc,n,hd⟩:=hL;simp only at hc hd;subst hc hd;refine callType_new F.called_enumerate 0.1 (F.typeCall_enumerate_1 _) (F.newCall_enumerate_1 _) (λobj=>F.args_object_init_2 obj _) F.entry_enumerate_new (Nj l items n dct sl) ⟨hl,?_⟩;have hz:(s.heap.push { cls:=.type "tuple_iterator",data:=.fields #[.ref l,.int 0 0] }).objs.size=s.heap.objs.size+1:=acX ..;show _/\_;rw[hz]
 have he:IsEnum ((s.heap.push { cls:=.type "tuple_iterator",data:=.fields #[.ref l,.int 0 0] }).push { cls:=.type "enumerate",data:=.fields #[.none,.bool false,.ref s.heap.objs.size,rawInt 0,.none,.none] }) (s.heap.objs.size+1) s.heap.objs.size 0 .none:=by
  have q:=aay (s.heap.push { cls:=.type "tuple_iterator",data:=.fields #[.ref l,.int 0 0] }) (o:={ cls:=.type "enumerate",data:=.fields #[.none,.bool false,.ref s.heap.objs.size,rawInt 0,.none,.none] }) rfl;rw[hz] at q;exact q
 exact⟨⟨_,he,rfl⟩,h _ he ⟨_,aaf _ (aay _ rfl),rfl,rfl⟩ (by rw[acX,hz]) λb o x=>aaf _ (aaf _ x)⟩
end
end HT
namespace L2
section
variable{X:Cx}{pins:List (tx×Obj)}{σ:St}{H:Hp}{s:gV}{h':TF}
theorem Inv.turnLaid{fp:List tx}{a:tx}{o:HO}{t':Nat}(I:Inv X pins σ H s)(k:∀ b o,b∉fp->s.heap.get? b=Y o->h'.get? b=Y o)(hf:∀ b∈fp,uN X pins H b)(hp:s.heap.objs.size<=a)
  (new:ObjOk X.prog X.w 1.33 h' a o):Inv X pins σ 1.33 { s with heap:=h',toks:=t' }:=by
 have hn:H a=L:=I.hok.fresh hp;have st:∀ b u,H b=Y u->upd H a o b=Y u:=λb u e=>(bh (cJ e hn)).trans e;have nfp:∀ b u,H b=Y u->b∉fp:=λb u e z=>by rw[(hf b z).1] at e;cases e
 refine I.step (g':=s.gens) (d':=s.drawn) (ch:=fp) (λb hb=>?_) (λb o j j hc e j=>k b o hc e) (λb o j j hc e j=>⟨o.slots,k b o hc e⟩) (λb u j e n=>?_) (λb o hc e=>⟨o,k b o hc e⟩) (λb xs e=>st b _ e) (λb o u e=>st b _ e) (λb ps e=>⟨#[],by rw[st b _ e];simp⟩) (λm hm=>?_) (λb u e=>?_) I.bare
 ·obtain⟨f0,f1,f2,f3,f4,f5⟩:=hf b hb;exact⟨f3,f1,f4,f5⟩
 ·rw[bh (aaM (aaG (aaq e) hp))];exact n
 ·obtain⟨o',es,ep,ho,r⟩:=hm;exact⟨o',es,ep,k _ o' (λz=>(hf _ z).2.1 rfl) ho,r⟩
 ·by_cases hb:b=a
  ·subst hb;rw[bB] at e;cases e;exact new
  ·rw[bh hb] at e;refine(I.hok b u e).stay (λc v hc q=>k c v ?_ q) (λj q=>st _ _ q) λj j q=>st _ _ q;rcases hc with z | z
   ·rw[z];exact nfp b u e
   ·exact nfp c _ z
theorem Inv.turnedL{fp:List tx}{t':Nat}(I:Inv X pins σ H s)(k:∀ b o,b∉fp->s.heap.get? b=Y o->h'.get? b=Y o)(hf:∀ b∈fp,uN X pins H b):Inv X pins σ H { s with heap:=h',toks:=t' }:=by
 have nfp:∀ b u,H b=Y u->b∉fp:=λb u e z=>by rw[(hf b z).1] at e;cases e
 refine I.step (g':=s.gens) (d':=s.drawn) (ch:=fp) (λb hb=>?_) (λb o w w hc e w=>k b o hc e) (λb o w w hc e w=>⟨o.slots,k b o hc e⟩) (λb u w e n=>n) (λb o hc e=>⟨o,k b o hc e⟩) (λb xs e=>e) (λb o u e=>e) (λb ps e=>⟨#[],by rw[e];simp⟩) (λm hm=>?_) (λb u e=>?_) I.bare
 ·obtain⟨f0,f1,f2,f3,f4,f5⟩:=hf b hb;exact⟨f3,f1,f4,f5⟩
 ·obtain⟨o',es,ep,ho,r⟩:=hm;exact⟨o',es,ep,k _ o' (λz=>(hf _ z).2.1 rfl) ho,r⟩
 ·refine(I.hok b u e).stay (λc v hc q=>k c v ?_ q) (λw q=>q) λw w q=>q;rcases hc with z | z
  ·rw[z];exact nfp b u e
  ·exact nfp c _ z
def Ite(K:aeO)(a:tx):It:=
 ⟨λi H=>∃ xs x,rR K H a xs/\xs[i]?=Y x,λi H x H'=>∃ p v,x=.ref p/\H p=L/\H'=upd H p (.tup [.int (i:Nat),v])/\∀ xs,rR K H a xs->xs[i]?=Y v,λi H=>∃ xs,rR K H a xs/\xs.length<=i⟩
theorem Lu{K:aeO}{k:Nat}(a e it:tx)(hei:e≠it):NM P w K 9.6 (Ite K a) [e,it] e (λi h=>(∃ old,IsEnum h e it i old)/\h.IsTupleIter it a i) where
 mem:=by simp
 obj:=λi h st b hb=>by
  obtain⟨⟨old,he⟩,⟨o,ho,hc,hd⟩⟩:=st;simp only[aaC,abr,acE] at hb;rcases hb with rfl | rfl
  ·exact⟨_,he,λv z=>by cases z⟩
  ·exact⟨o,ho,λv z=>by rw[hd] at z;cases z⟩
 keep:=λi h h' st kk=>by
  obtain⟨⟨old,he⟩,⟨o,ho,r⟩⟩:=st;exact⟨⟨old,kk e 0.3 _ he⟩,⟨o,kk it 0.3 _ ho,r⟩⟩
 item:=by
  intro X hP hw hK hc i pins s σ H E I hf st hg;subst hP hw hK;obtain⟨xs,x,hq,hx⟩:=hg;obtain⟨its,rv,p,hz⟩:=I.tuple hq;have hT:s.heap.IsTuple a its.toArray:=p;have hh:=I.ok.hd hc
  have ne1:a≠e:=λz=>by
   obtain⟨⟨old,he⟩,v⟩:=st;obtain⟨o,ho,hcl,v⟩:=hT;rw[z,he] at ho;cases ho;exact absurd (show Value.type "enumerate" = Value.type "tuple" from hcl) 0.1
  have ne2:a≠it:=λz=>by
   obtain⟨v,⟨o',ho',hc',v⟩⟩:=st;obtain⟨o,ho,hcl,v⟩:=hT;rw[z,ho'] at ho;cases ho;rw[hc'] at hcl;exact absurd hcl 0.1
  have W:=WalksT.enumerateD (HT.RR (prog:=X.prog) (w:=X.w) (A:=X.A.in1) hh it a ne2 its.toArray) e hei (by simp;exact⟨hei,λz=>ne1 z.symm⟩) 0.3;have hi:i<its.toArray.size:=by rw[aai,<- rv.length];exact(aac.mp hx).1
  obtain⟨⟨old,he⟩,hit⟩:=st;have Te:s.heap.objs.size≠e:=aca (aaq he)
  have Ti:s.heap.objs.size≠it:=by
   obtain⟨o,ho,v⟩:=hit;exact aca (aaq ho)
  refine wpAny_pyNext_enum_itemD (HT.RR (prog:=X.prog) (w:=X.w) (A:=X.A.in1) hh it a ne2 its.toArray) he ⟨hit,hT⟩ hi hei (by simp;exact⟨hei,λz=>ne1 z.symm⟩) λy h1 tk hy ho st1 hT1 hsz kk=>⟨_,rfl,?_⟩
  refine W.go es k pos i s.heap.objs.size _ _ _ ⟨⟨y,ho⟩,st1,Te,Ti⟩ λh2 st2 kk2=>?_;generalize hTT:s.heap.objs.size=T at *;obtain⟨u,hu,ru⟩:=rv.get hx
  have ey:y=u:=by
   rw[show its.toArray[i]?=its[i]? by simp,hu] at hy;exact(aaE hy).symm
  subst ey;have apT:T∉[e,it]:=by simp;exact⟨Te,Ti⟩
  have kall:∀ b o,b∉[e,it]->s.heap.get? b=Y o->h2.get? b=Y o:=λb o hb q=>kk2 b o hb (kk b o (λz=>hb (by simp[z])) (λz=>hb (by simp[z])) q);have hT2:IsTupN h2 T #[.int i tk,y]:=⟨_,kk2 T _ apT hT1,rfl,⟨_,rfl⟩,rfl⟩
  have hTs:s.heap.objs.size<=T:=ael hTT;refine⟨.ref T,upd H T (.tup [.int (i:Nat),x]),I.turnLaid kall hf hTs ⟨by show 2<=Vj;decide,[.int i tk,y],.cons ⟨_,rfl⟩ (.cons ru .nil),hT2⟩,rfl,⟨T,x,rfl,I.hok.fresh hTs,rfl,λys hy=>by rw[I.tuple_inj hy hq];exact hx⟩,⟨st2.1,st2.2.1⟩,λb hb=>?_⟩;have nb:b≠T:=λz=>apT (by rw[<- z];exact hb);rw[bh nb];exact(hf b hb).1
 done:=by
  intro X hP hw hK hc i pins s σ H E I hf st hg;subst hP hw hK;obtain⟨xs,hq,hx⟩:=hg;obtain⟨its,rv,p,hz⟩:=I.tuple hq;have hT:s.heap.IsTuple a its.toArray:=p;have hh:=I.ok.hd hc
  have ne1:a≠e:=λz=>by
   obtain⟨⟨old,he⟩,v⟩:=st;obtain⟨o,ho,hcl,v⟩:=hT;rw[z,he] at ho;cases ho;exact absurd (show Value.type "enumerate" = Value.type "tuple" from hcl) 0.1
  have D':Draws X.prog X.w X.A.in1 it [it,a] i (λv v=>True) (λj h=>j=i/\h.IsTupleIter it a i/\h.IsTuple a its.toArray):=
   {live:=λv v q=>by obtain⟨v,⟨o,ho,v⟩,v⟩:=q;exact⟨o,ho⟩
    frame:=λv v v q hk=>by
     obtain⟨q0,⟨o,ho,r⟩,⟨o2,ho2,r2⟩⟩:=q;exact⟨q0,⟨o,hk it 0.3 o ho,r⟩,⟨o2,hk a 0.3 o2 ho2,r2⟩⟩
    item:=λj v v v hj q v=>absurd q.1 (aaM hj)
    done:=λs Q E q hE=>HT.Bd hh q.2.1 q.2.2 (by simp;have:=rv.length;omega) hE }
  have W:=WalksT.enumerateD D' e hei (by simp;exact⟨hei,λz=>ne1 z.symm⟩) 0.3;refine W.done s _ _ ⟨st.1,rfl,st.2,hT⟩ λh2 tk kk=>⟨rfl,I.turnedL kk hf⟩
 self:=λA i s Q E st h=>by
  obtain⟨⟨old,he⟩,v⟩:=st;exact wpAny_pyIter_enum he h
def iEnum(K:aeO)(t:TA):TI:=λσ H R=>t σ H λxs H1=>∃ a,xs=[.ref a]/\(∃ ys,rR K H1 a ys)/\R (Ite K a) H1
end
section
variable{X:Cx}
theorem Uc{a:vx}{k:Nat}{p:Pos}(hg:Gl X "enumerate")(hm:X.mg "enumerate" = L)(ha:PA X [a] ta)(hs:WP [a] X.env=[(false,eval a X.env)]) :
  PI X (.Tuple es k tp) (.Call (.Name "enumerate" p) [a] [] pos) (iEnum X.K ta):=by
 intro pins s σ H R I h;refine Call_ (rB I hg hm boot_enumerate (abD (dO 5.8 λus s1 ⟨vs,H1,I1,r1,q1⟩=>?_) hs rfl));obtain⟨t,rfl,⟨ys,hq⟩,q⟩:=q1;obtain⟨u,rfl,ru⟩:=r1.one;cases ru;obtain⟨its,rv,pt,hz⟩:=I1.tuple hq;refine HT.JD pt λh' he hi hsz kk=>wpAny_pyIter_enum he ?_;refine⟨s1.heap.objs.size+1,[s1.heap.objs.size+1,s1.heap.objs.size],_,_,H1,rfl,I1.kept (t':=s1.toks) kk,Lu t _ _ (Nat.succ_ne_self _),⟨⟨_,he⟩,hi⟩,λb hb=>?_,q⟩;simp only[aaC,abr,acE] at hb;rcases hb with rfl | rfl
 ·exact I1.fpOk (acZ _) (I1.hok.fresh (acZ _))
 ·exact I1.fpOk (aal _) 7.0
end
end L2
namespace M
open L2
section
variable{X:Cx}{K:aeO}{μ μ':Fp}{H H':Hp}{S:ac}
def dW:Nat->List D->List D
 | _,[]=>[]
 | i,x::r=>.tup [.int (i:Nat),x]::dW (i+1) r
theorem qr:∀ (i:Nat) (xs:List D),(dW i xs).length=xs.length
 | _,[]=>rfl
 | i,_::r=>by rw[dW,aar,aar,qr (i+1) r]
theorem Bb:∀ (k:Nat) (xs:List D) (i:Nat) (d:D),(dW k xs)[i]?=Y d->∃ x,xs[i]?=Y x/\d=.tup [.int ((k+i:Nat):Int),x]
 | _,[],i,d,h=>by simp[dW] at h
 | k,x::r,0,d,h=>by simp[dW] at h;exact⟨x,rfl,h.symm⟩
 | k,x::r,i+1,d,h=>by
  rw[dW,adY] at h;obtain⟨y,h1,h2⟩:=Bb (k+1) r i d h;refine⟨y,by simpa using h1,?_⟩;rw[h2,show k+1+i=k+(i+1) by omega]
theorem MD(r:Rep K μ H (.ref a) 4.6):NP K μ H (Ite K a) (dW 0 xs):=λμ' H' S' e s i=>by
 have r':=r.monoP e;obtain⟨b,vs,hb,hq,rs⟩:=r'.sqT;cases hb;refine⟨λd hd=>?_,λhl=>⟨vs,hq,by rw[rs.length];rw[qr] at hl;exact hl⟩⟩;obtain⟨x,hx,rfl⟩:=Bb 0 xs i d hd;obtain⟨v,hv,rv⟩:=rs.get hx;refine⟨⟨vs,v,hq,hv⟩,λy H2 hy=>?_⟩;obtain⟨p,w,rfl,hp,rfl,hw⟩:=hy;have ew:w=v:=by have:=hw vs hq;rw[hv] at this;exact(aaE this).symm
 subst ew;obtain⟨e2,s2⟩:=s.laid (o:=.tup [.int (i:Nat),w]) hp;refine⟨e2,s2,?_⟩;rw[acQ];exact .tup bB (s.notMem hp) (.cons (.int _) (.cons (rv.mono e2) .nil))
def fI(ms:MA):MA:=λenv S=>(ms env S).bind λp=>match p.1 with | [.tup xs]=>Y (dW 0 xs,p.2) | _=>L
theorem VR{a:vx}{k:Nat}{p:Pos}(hm:X.mg "enumerate" = L)(ha:DA X [a] ms)(hg:Gl X "enumerate")(hs:WP [a] X.env=[(false,eval a X.env)]) :
  DI X (.Tuple es k tp) (.Call (.Name "enumerate" p) [a] [] pos) (fI ms):=PI.imp (Uc hg hm ha hs) λσ H R z0=>by
 obtain⟨μ,S,env,xs,S',hS,hE,h,post⟩:=z0;obtain⟨⟨ds,S1⟩,h1,h⟩:=aaa.mp h;refine⟨μ,S,env,ds,S1,hS,hE,h1,λvs H1 μ1 e1 s1 r1=>?_⟩;dsimp only at h;split at h
 ·rename_i ys;cases h;obtain⟨v,rfl,rv⟩:=r1.one;have rv':=rv;obtain⟨b,ws,rfl,hq,rs⟩:=rv.sqT;exact⟨b,rfl,⟨ws,hq⟩,post _ H1 μ1 e1 s1 (MD rv')⟩
 ·cases h
end
end M
namespace HT
section
variable{prog:Op}{w:Qa}{A:SN}{E:ce->gV->Prop}{s:gV}
theorem Wy(n:Nat):Builtin.Slice.sliceAdjust L L (-1) (n:Int)=((n:Int) - 1,-1):=rfl
theorem HJ(n:Nat):Builtin.Slice.slicePlaces 2.1 (-1) (-1)=n:=by
 unfold Builtin.Slice.slicePlaces;rw[if_neg 0.1];by_cases h:n=0
 ·subst h;rfl
 ·rw[aas 0.0];show(((n:Int) - 1 - -1 - 1) / 1+1).toNat=n;rw[Int.ediv_one];omega
theorem Pa(xs:Array ce):((List.range xs.size).filterMap λ(m:Nat)=>xs[(((xs.size:Nat):Int) - 1+(m:Int)*-1).toNat]?).toArray=xs.toList.reverse.toArray:=by
 congr 1
 apply List.ext_getElem?;intro i
 have e:∀ l:List Nat,(∀ m∈l,m<xs.size)->(l.filterMap λ(m:Nat)=>xs[(((xs.size:Nat):Int) - 1+(m:Int)*-1).toNat]?)=l.map λm=>xs[xs.size - 1 - m]?.getD .none:=by
  intro l
  induction l with
  | nil=>intro z;rfl
  | cons m l ih=>
   intro h;have hm:=h m aad;have e1:(((xs.size:Nat):Int) - 1+(m:Int)*-1).toNat=xs.size - 1 - m:=by omega
   have e2:xs[xs.size - 1 - m]?=Y (xs[xs.size - 1 - m]'(by omega)):=adI _;rw[aaV,e1,e2,aak,ih λk hk=>h k (aah _ hk),e2];rfl
 rw[e _ λm hm=>acg.mp hm];by_cases hi:i<xs.size
 ·rw[abv,List.getElem?_range hi,List.getElem?_reverse (by simpa using hi)];have e2:xs[xs.size - 1 - i]?=Y (xs[xs.size - 1 - i]'(by omega)):=adI _;simp[e2]
 ·rw[acT 0.9,acT 0.9]
theorem GR{n:Nat}{Q:Int×Int×Nat->gV->Prop}(hs:s.heap.IsSliceOf sl .none .none (.int (-1) u))(h:Q ((n:Int) - 1,-1,n) s) :
  aeN 1.0 A (Builtin.Slice.sliceApplied 1.41 (pure (n:Int))) Q E s:=by
 obtain⟨os,hos,hcs,hds⟩:=id hs;unfold Builtin.Slice.sliceApplied Builtin.Slice.sliceFields;refine aab (aab (abn hos hds (x:=.none) rfl (aab (abn hos hds (x:=.none) rfl (aab (abn hos hds (x:=.int (-1) u) rfl (aam ?_)))))));refine aab (slicePart_int ?_);show aeN _ _ (if ((-1:Int)==0)=true then _ else _) _ _ s;rw[if_neg 0.1];refine aab (acW (aab (acW (aab (aam ?_)))));show aeN _ _ (match Builtin.Slice.sliceAdjust L L (-1) (n:Int) with | (lo,hi)=>pure (lo,(-1:Int),Builtin.Slice.slicePlaces lo hi (-1))) _ _ s;rw[Wy];show aeN _ _ (pure ((n:Int) - 1,(-1:Int),Builtin.Slice.slicePlaces 2.1 (-1) (-1))) _ _ s;rw[HJ];exact aam h
theorem sW{Q:ce->gV->Prop}(ht:IsTup s.heap t items)(hs:s.heap.IsSliceOf sl .none .none (.int (-1) u))
  (h:Q 5.4 { s with heap:=s.heap.push { cls:=.type "tuple",data:=.seq items.toList.reverse.toArray } }) (hsz:items.size<=Vj):aeN 1.0 A 1.27 Q E s:=by
 have htake:sizeOk (.seq items.toList.reverse.toArray):=by
  show items.toList.reverse.toArray.size<=Vj;simpa using hsz
 obtain⟨os,hos,hcs,hds⟩:=id hs;have hTs:s.TypeIs 1.41 "slice":=⟨os,hos,hcs⟩
 unfold getItem
 try with_reducible refine abe ?_
 first | refine aab (aam ?_) | skip
 refine aab (adm ht.typeIs 0.1 ?_);refine aab (abM (name:=Str.ofString "__getitem__") ht.typeIs abf (acs abf ht.typeIs acY ?_ (ade _ _)));show aeN _ _ (Builtin.Tuple.tupleItemsOf (.ref t) >>= _) _ _ s;refine aab (adR ht ?_);refine aab (adr hTs ?_);rw[aas 0.1];refine aab (GR hs ?_);show aeN _ _ (if ((((items.size:Nat):Int) - 1)==0&&(-1:Int)==1&&items.size==items.size)=true then _ else _) _ _ s;rw[if_neg 0.3,Pa]
 first
  | exact aab (m:=Builtin.Tuple.tupleExact _) (aaS (aam ⟨_,rfl,aam h⟩) htake)
  | exact aab (m:=Builtin.Tuple.tupleExact _) (aaS (aab (aam (aam ⟨_,rfl,aam h⟩))) htake)
  | exact aab (aab (m:=Builtin.Tuple.tupleExact _) (aaS (aam (aam ⟨_,rfl,aam h⟩)) htake))
  | exact aab (aab (m:=Builtin.Tuple.tupleExact _) (aaS (aam ⟨_,rfl,aam h⟩) htake))
end
end HT
namespace L2
section
variable{X:Cx}{e st:vx}{te:TE}{ts:TO}{pos p2:Pos}
def tRev(K:aeO)(te:TE)(ts:TO):TE:=λσ H Q=>te σ H λx H1=>ts σ H1 λk H2=>∃ a xs,x=.ref a/\k=Y (-1)/\rR K H2 a xs/\∀ p,H2 p=L->Q (.ref p) (upd H2 p (.tup xs.reverse))
theorem YL(he:PE X e te)(hs:PO X (Y st) ts):PE X (.Subscript e 7.1 pos) (tRev X.K te ts):=by
 intro pins s σ H Q I h;refine adO (dO 4.0 λv s1 ⟨x,H1,I1,r1,q1⟩=>?_);refine aeu ?_;rw[adc];refine aam ?_;refine aam (dO (hs pins s1 σ H1 _ I1 q1) λvk s2 ⟨k,H2,I2,pk,q2⟩=>?_);obtain⟨a,xs,rfl,rfl,hq,q⟩:=q2;cases r1;cases pk with
 | int _ u=>
  have I4:Inv X pins σ H2 { s2 with heap:=s2.heap.push { cls:=.type "slice",data:=.fields #[.none,.none,.int (-1) u] } }:=I2.kept (t':=s2.toks) λb ob q=>aaf _ q;obtain⟨its,r,ht,hz⟩:=I4.tuple hq;have hlen:its.toArray.size=xs.length:=by rw[aai];exact r.length.symm
  show aeN 0.2 X.A (subscriptTail e 7.1 (.ref a) 1.08) 3.4 X.xe { s2 with heap:=s2.heap.push { cls:=.type "slice",data:=.fields #[.none,.none,.int (-1) u] } };refine adS (ops:=[.ref a,.ref s2.heap.objs.size]) ht.typeIs PyProof.Rows.slot_tuple_getitem.lookup (HT.sW ht (adj ..) ?_ (by rw[hlen];exact hz)) (by with_unfolding_all rfl);refine⟨.ref _,_,I4.laid (t':=s2.toks) (o:=.tup xs.reverse) (λb ob q=>aaf _ q) (aal _) ⟨by simpa using hz,its.reverse,r.reverse,IsTupN.new _ _⟩,rfl,q _ (I4.hok.fresh (aal _))⟩
end
end L2
namespace M
open L2
section
variable{X:Cx}{K:aeO}{μ:Fp}{H:Hp}{S:ac}
theorem Reps.reverse:∀ {vs:List V} {ds:List D},Reps K μ H vs ds->Reps K μ H vs.reverse ds.reverse
 | _,_,.nil=>.nil
 | _,_,.cons h t=>by rw[acG,acG];exact(Reps.reverse t).append (.cons h .nil)
def mO(a:ME)(st:MO):ME:=λenv S=>(a env S).bind λp=>(st env p.2).bind λk=>match p.1,k.1 with
 | .tup xs,Y j=>if j = -1 then Y (.tup xs.reverse,k.2) else L
 | _,_=>L
theorem qb1{st:vx}(ha:DE X a ma)(hs:DO X (Y st) ms):DE X (.Subscript a 7.1 pos) (mO ma ms):=
 PE.imp (YL ha hs) λσ H Q z0=>by
  obtain⟨μ,S,env,d,S',hS,hE,h,post⟩:=z0;obtain⟨⟨x,S1⟩,h1,h⟩:=aaa.mp h;obtain⟨⟨k,S2⟩,h2,h⟩:=aaa.mp h;refine⟨μ,S,env,x,S1,hS,hE,h1,λv H1 μ1 e1 s1 r1=>⟨μ1,S1,env,k,S2,s1,hE.mono e1,h2,λH2 μ2 e2 s2=>?_⟩⟩;dsimp only at h;split at h
  ·split at h
   ·rename_i xs j hj;cases h;obtain⟨b,vs,rfl,q,r⟩:=(r1.mono e2).sqT;exact⟨b,vs,rfl,by rw[hj],q,λp hp=>((post.ext e1).ext e2).tup s2 hp r.reverse⟩
   ·cases h
  ·cases h
end
end M
namespace M
open L2
def rM:List D->Option (List Int)
 | []=>Y []
 | .int i::r=>(rM r).bind λns=>Y (i::ns)
 | _::_=>L
theorem uZ:∀ {ds:List D} {ns:List Int},rM ds=Y ns->ds=ns.map D.int
 | [],ns,h=>by cases h;rfl
 | .int i::r,ns,h=>by
  obtain⟨ms,h1,h2⟩:=aaa.mp h;cases h2;rw[aak,<- uZ h1]
 | .non::_,ns,h=>by cases h
 | .bl _::_,ns,h=>by cases h
 | .str _::_,ns,h=>by cases h
 | .tup _::_,ns,h=>by cases h
 | .lst _::_,ns,h=>by cases h
 | .rol _::_,ns,h=>by cases h
 | .dct _ _::_,ns,h=>by cases h
 | .ref _::_,ns,h=>by cases h
theorem yf:∀ ns:List Int,rM 8.3=Y ns
 | []=>rfl
 | n::ns=>by rw[aak,rM,yf ns];rfl
section
variable{X:Cx}{K:aeO}{μ:Fp}{H:Hp}{S:ac}
theorem Aj:∀ {vs:List V} {ns:List Int},Reps K μ H vs 8.3->vs=ns.map V.int
 | _,[],.nil=>rfl
 | _,n::ns,.cons h t=>by rw[h.int_inv,Aj t];rfl
def vb(S:ac)(d:D):Option (List Int):=if uo S d=true then(kg S d).bind λds=>(rM ds).bind λns=>if ns.length<64 then Y ns else L else L
theorem IT{d:D}(hS:SOk K μ S H)(r:Rep K μ H v d)(h:vb S d=Y ns):∃ a,v=.ref a/\qD K H a 7.3/\ns.length<64:=by
 unfold vb at h;split at h
 ·rename_i hl;obtain⟨a,vs,ds,rfl,hq,hs,rs⟩:=sP hS r hl;rw[hs] at h;have h:((rM ds).bind λns=>if ns.length<64 then Y ns else L)=Y ns:=h;obtain⟨ms,h1,h2⟩:=aaa.mp h;split at h2
  ·rename_i h3;cases h2;have:=uZ h1;subst this;exact⟨a,rfl,by rw[<- Aj rs];exact hq,h3⟩
  ·cases h2
 ·cases h
end
section
variable{X:Cx}{K:aeO}{μ:Fp}{H:Hp}{S:ac}
def oz(i j:Nat)(ms:MA):MS:=λenv S=>(ms env S).bind λp=>match p.1 with | [v,w]=>Y (.nx ((env.set i (Y v)).set j (Y w)) p.2) | _=>L
theorem qaS{i j:Nat}{a b:vx}{pt:Pos}(hc:X.calm=true)(hN:X.N.Nodup)(hi:X.N[i]?=Y x)(hj:X.N[j]?=Y y)(hij:i≠j)
  (hx:X.env.scope.names.lookup x=Y .local) (hy:X.env.scope.names.lookup y=Y .local) (ha:DA X [a,b] ms)
  (hw:swappedStores [.Tuple [.Name x px,.Name y py] kt pt] (.Tuple [a,b] k2 pt2) X.env=pure (Y [x,y])) :
  DS X (.Assign [.Tuple [.Name x px,.Name y py] kt pt] (.Tuple [a,b] k2 pt2) pos) (oz i j ms):=
 PS.imp (YB hc hN hi hj hij hx hy ha hw rfl) λE σ H z0=>by
  obtain⟨μ,S,env,o,hS,hE,h,post⟩:=z0;obtain⟨⟨ds,S1⟩,h1,h⟩:=aaa.mp h;refine⟨μ,S,env,ds,S1,hS,hE,h1,λvs H1 μ1 e1 s1 r1=>?_⟩;dsimp only at h;split at h
  ·rename_i v w;cases h;obtain⟨v',w',rfl,rv,rw'⟩:=r1.two;exact⟨v',w',rfl,post _ H1 μ1 e1 s1 (((hE.mono e1).set rv i).set rw' j)⟩
  ·cases h
def xh:vx->Bool
 | .Starred _ _=>false
 | _=>true
theorem On{px py pt:Pos}(hb:X.env.blockKind=.function)(hx:X.env.scope.names.lookup x=Y .local)(hy:X.env.scope.names.lookup y=Y .local)(hne:(x==y)=false)
  (hl:(py.line==px.line)=true) (ha:xh a=true) (hb':xh b=true) (hf:(foldedForSure 8 a&&foldedForSure 8 b)=false) (hcn:(constantsAlone 8 a&&constantsAlone 8 b)=false) :
  swappedStores [.Tuple [.Name x px,.Name y py] kt pt] (.Tuple [a,b] k2 pt2) X.env=pure (Y [x,y]):=by
 have hkx:X.env.kindOf x=Y .local:=hx;have hky:X.env.kindOf y=Y .local:=hy
 have hs:([a,b].any λe=>match e with | .Starred ..=>true | _=>false)=false:=by
  have q:∀ e:vx,xh e=true->(match e with | .Starred ..=>true | _=>false:Bool)=false:=λe h=>by cases e<;>first | rfl | cases h
  simp only[abx,List.any_nil,q a ha,q b hb',Bool.or_self]
 have hxy:(y==x)=false:=by
  rw[Bool.eq_false_iff] at hne ⊢;intro z;exact hne (by rw[beq_iff_eq] at z ⊢;exact z.symm)
 have hed:([x,y]:List Str).eraseDups=[x,y]:=by simp[List.eraseDups_cons,hxy]
 have hl':py.line=px.line:=by simpa using hl
 unfold swappedStores;simp only[aar,List.length_nil,hb];simp only[abi,List.all_nil,adl,hf,hcn];generalize hg:List.filterMap _ [Expr.Name x px,Expr.Name y py]=L4
 have hL:L4=[x,y]:=by
  rw[<- hg];have e0:(Option.map (λ(x:vx)=>x.pos.line) [Expr.Name x px,Expr.Name y py].head?).getD 0=px.line:=rfl;rw[aaV,aaV];have e1:(Expr.Name x px).pos=px:=rfl;simp[hkx,hky,e0,e1,hl']
 subst hL;rw[if_neg 0.1]
 rw[if_neg (by
  intro z;have:([a,b].any λe=>match e with | .Starred ..=>true | _=>false)=true:=z
  rw[hs] at this;cases this)]
 rw[if_neg (by rw[hed];simp),if_neg aeQ,if_neg aeQ]
end
end M
namespace L2
section
variable{X:Cx}{pins:List (tx×Obj)}{σ:St}{H:Hp}{s:gV}{a:tx}{xs:List V}
theorem Inv.tupD(I:Inv X pins σ H s)(h:rR X.K H a xs):∃ ob,s.heap.get? a=Y ob/\ob.cls=.type "tuple"/\ob.dict=L:=by
 rcases h with h | ⟨o,its,n,hk,hc,hdn,hs,hz,r⟩
 ·obtain⟨z,its,r,ob,e,c,d,dn⟩:=h.ok I.hok;exact⟨ob,e,c,dn⟩
 ·exact⟨o,I.kIn a o hk,hc,hdn⟩
variable{o e:vx}{es:List vx}{to:TE}{t:TA}{name:Str}{apos cpos:Pos}{id:String}{r:V->List V->Hp->VK->Prop}
def tBT(K:aeO)(r:V->List V->Hp->VK->Prop)(to:TE)(t:TA):TE:=λσ H Q=>to σ H λx H1=>(∃ p xs,x=.ref p/\rR K H1 p xs)/\t σ H1 λxs H2=>r x xs H2 Q
theorem YR(slot:Slot "tuple" name id)(hty:typeOf 4.9=pure (.type "method_descriptor"))(hm:MtR X id r)(ho:PE X o to)(ha:PA X (e::es) t)
  (hbase:attributeBase o name X.env 8.4=eval o X.env)
  (hfew:((backTo cpos (WP (e::es) X.env)).all (λx=>!x.1)&&(backToKw cpos (keywordEach [] X.env)).all (λx=>x.1.isSome)&&decide ((e::es).length+([]:List Keyword).length+(if ([]:List Keyword).isEmpty then 0 else 1)<30))=true)
  (hline:(apos.endLine==cpos.line)=true) (hs:WP (e::es) X.env=(false,eval e X.env)::WP es X.env) (hplain:(backTo cpos 2.2).any (·.1)=false) :
  PE X (.Call 8.0 (e::es) [] cpos) (tBT X.K r to t):=by
 intro pins s σ H Q I h;refine acO hbase hfew hline rfl (dO 1.13 λv s1 ⟨x,H1,I1,r1,ty,q1⟩=>?_);obtain⟨p,ys,rfl,hq⟩:=ty;cases r1;obtain⟨ob,e1,e2,e3⟩:=I1.tupD hq;refine⟨"tuple",id,F.plainAttrs_tuple,slot,hty,⟨ob,e1,e2⟩,λa z=>by cases z;exact⟨ob,e1,e3⟩,?_⟩;have hA:=ha cpos pins s1 σ H1 _ I1 q1;rw[hs] at hA ⊢;refine acP (by show(false||(backTo cpos 2.2).any (·.1))=false;rw[hplain]<;>rfl) (acw ?_);exact dO hA λus s2 ⟨vs,H2,I2,r2,q2⟩=>hm pins s2 σ H2 (V.ref p) vs _ us Q I2 (show RelV (V.ref p) (Value.ref p) from rfl) r2 q2
end
end L2
namespace M
open L2
section
variable{X:Cx}{K:aeO}{μ:Fp}{H:Hp}{S:ac}
def Oe:D->Bool
 | .tup _=>true
 | _=>false
def gT:MF:=λo ds S=>if Oe o=true then yF o ds S else L
theorem Me(hu:X.A.units+64<cLine):MtR X "tuple.count" (TC X.K gT):=by
 intro pins s σ H x vs v us Q I rx rv h;obtain⟨μ,S,dx,ds,d,S',hS,r1,r2,h,post⟩:=h;unfold gT at h;split at h
 ·rename_i hl;cases dx with
  | tup es=>
   unfold yF at h;split at h
   ·rename_i y;have h:(if cy 40 y=true/\es.all (cy 39)=true then Y (D.int (es.countP λd=>gJ d y),S) else L)=Y (d,S'):=h;split at h
    ·rename_i hk;cases h;obtain⟨a,ws,rfl,hq,re⟩:=r1.sqT;cases rx;obtain⟨w,rfl,rw0⟩:=r2.one;obtain⟨u,rfl,ru⟩:=rv.one;obtain⟨its,rvs,pt,hz⟩:=I.tuple hq;obtain⟨⟨cls,dd,data,sl⟩,e,hc,n,hd⟩:=id pt;simp only at hc hd;subst hc hd;have ok:=aav.mp hk.2;refine aco aeF ⟨_,e,rfl⟩ F.entry_tuple_count (F.args_tuple_count_2 _ _) (SeqAt.tuple_countAt a its.toArray n dd sl u 1.75) ⟨e,λw' hw'=>?_,?_⟩
     ·exact ip I (by show X.A.units+1+40<cLine;omega) ru rw0 hk.1 rvs re ok w' (by simpa using hw')
     ·refine⟨.int _,H,I.tok _,⟨_,rfl⟩,?_⟩;rw[pN I rvs re ok];exact post.here hS (.int _)
    ·cases h
   ·cases h
  | _=>cases hl
 ·cases h
def kZ(o:ME)(ms:MA):ME:=λenv S=>(o env S).bind λp=>if Oe p.1=true then(ms env p.2).bind λq=>gT p.1 q.1 q.2 else if uo p.2 p.1=true then(ms env p.2).bind λq=>qo p.1 q.1 q.2 else L
theorem qb7{e:vx}{es:List vx}{apos:Pos}(hu:X.A.units+64<cLine)(ho:DE X o mo)(ha:DA X (e::es) ms)
  (hbase:attributeBase o "count" X.env 8.4=eval o X.env)
  (hfew:((backTo cpos (WP (e::es) X.env)).all (λx=>!x.1)&&(backToKw cpos (keywordEach [] X.env)).all (λx=>x.1.isSome)&&decide ((e::es).length+([]:List Keyword).length+(if ([]:List Keyword).isEmpty then 0 else 1)<30))=true)
  (hline:(apos.endLine==cpos.line)=true) (hs:WP (e::es) X.env=(false,eval e X.env)::WP es X.env) (hpl:(backTo cpos 2.2).any (·.1)=false) :
  DE X (.Call (.Attribute o "count" apos) (e::es) [] cpos) (kZ mo ms):=by
 have hT:=YR (X:=X) aeF F.type_tuple_count (Me hu) ho ha hbase hfew hline hs hpl;have hL:=Lj (X:=X) adp F.type_list_count (EK hu) ho ha hbase hfew hline hs hpl;intro pins s σ H Q I ⟨μ,S,env,d,S',hS,hE,h,post⟩;obtain⟨⟨x,S1⟩,h1,h⟩:=aaa.mp h;dsimp only at h;split at h
 ·rename_i ht;obtain⟨⟨xs,S2⟩,h2,h⟩:=aaa.mp h;refine hT pins s σ H Q I ⟨μ,S,env,x,S1,hS,hE,h1,λv H1 μ1 e1 s1 r1=>⟨?_,μ1,S1,env,xs,S2,s1,hE.mono e1,h2,λvs H2 μ2 e2 s2 r2=>⟨μ2,S2,x,xs,d,S',s2,r1.mono e2,r2,h,(post.ext e1).ext e2⟩⟩⟩;cases x<;>first | cases ht | skip
  obtain⟨a,ws,rfl,hq,z⟩:=r1.sqT;exact⟨a,ws,rfl,hq⟩
 ·refine hL pins s σ H Q I ⟨μ,S,env,d,S',hS,hE,?_,post⟩;show(mo env S).bind _=_;rw[h1];exact h
end
end M
namespace M
open L2
section
variable{X:Cx}{K:aeO}{μ μ':Fp}{H H':Hp}{S S':ac}
def gE:D->Option cf
 | .int i=>Y (.inl i)
 | .str x=>Y (.inr x)
 | _=>L
theorem qc{d:D}{k:cf}(h:gE d=Y k)(r:Rep K μ H v d):v=kV k:=by
 cases d<;>first | cases h | skip
 ·rw[r.int_inv];rfl
 ·rw[r.str_inv];rfl
def kS(kvs:List (cf×D))(k:cf):Option D:=match kvs with
 | []=>L
 | p::r=>if p.1=k then Y p.2 else kS r k
def MM(kvs:List (cf×D))(k:cf):Bool:=match kvs with
 | []=>false
 | p::r=>if p.1=k then true else MM r k
def Tr(kvs:List (cf×D))(k:cf)(d:D):List (cf×D):=match kvs with
 | []=>[]
 | p::r=>(if p.1=k then(p.1,d) else p)::Tr r k d
def OP(kvs:List (cf×D))(k:cf)(d:D):List (cf×D):=if MM kvs k then Tr kvs k d else kvs++[(k,d)]
def dc(kvs:List (cf×D)):List (cf×D)->List (cf×D)
 | []=>kvs
 | p::r=>dc (OP kvs p.1 p.2) r
inductive KR(K:aeO)(μ:Fp)(H:Hp):List (cf×V)->List (cf×D)->Prop
 | nil:KR K μ H [] []
 | cons {k:cf} {v:V} {d:D} {vs:List (cf×V)} {ds:List (cf×D)} (h:Rep K μ H v d) (t:KR K μ H vs ds):KR K μ H ((k,v)::vs) ((k,d)::ds)
theorem KR.keys:∀ {vs ds},KR K μ H vs ds->vs.map (·.1)=ds.map (·.1)
 | _,_,.nil=>rfl
 | _,_,.cons _ t=>by rw[aak,aak,KR.keys t]
theorem KR.reps:∀ {vs ds},KR K μ H vs ds->Reps K μ H (vs.map (·.2)) (ds.map (·.2))
 | _,_,.nil=>.nil
 | _,_,.cons h t=>.cons h (KR.reps t)
theorem KR.length:∀ {vs ds},KR K μ H vs ds->vs.length=ds.length
 | _,_,.nil=>rfl
 | _,_,.cons _ t=>by rw[aar,aar,KR.length t]
theorem KR.less{p:tx}{cs fb:List tx}:∀ {vs ds},KR K ⟨cs,p::fb⟩ H vs ds->KR K ⟨cs,fb⟩ H vs ds
 | _,_,.nil=>.nil
 | _,_,.cons h t=>.cons h.less (KR.less t)
theorem KR.chg{p:tx}(hp:p∈μ.fb):∀ {vs ds},KR K μ H vs ds->KR K μ 5.2 vs ds
 | _,_,.nil=>.nil
 | _,_,.cons h t=>.cons (h.chg hp) (KR.chg hp t)
theorem KR.of:∀ {kvs:List (cf×V)} {ks:List cf} {ds:List D},ks=kvs.map (·.1)->Reps K μ H (kvs.map (·.2)) ds->KR K μ H kvs (ks.zip ds)
 | [],_,_,e,r=>by subst e;cases r;exact .nil
 | p::q,_,_,e,r=>by
  subst e;rw[aak] at r;cases r with | cons h t=>exact .cons h (KR.of rfl t)
theorem KR.val{k:cf}:∀ {vs ds},KR K μ H vs ds->∀ {d},kS ds k=Y d->∃ v,Bv vs k=Y v/\Rep K μ H v d
 | _,_,.nil,d,h=>by cases h
 | _,_,.cons (k:=k') h t,d,q=>by
  unfold kS at q;split at q
  ·rename_i e;cases q;exact⟨_,DH e,h⟩
  ·rename_i e;obtain⟨v,h1,h2⟩:=KR.val t q;exact⟨v,(DJ e).trans h1,h2⟩
theorem KR.has{k:cf}:∀ {vs ds},KR K μ H vs ds->(vs.any λkv=>decide (kv.1=k))=MM ds k
 | _,_,.nil=>rfl
 | _,_,.cons (k:=k') h t=>by
  rw[abx,KR.has t];unfold MM;by_cases e:k'=k
  ·simp[e]
  ·simp only[aan e,Bool.false_or,if_neg e];cases t<;>rfl
theorem KR.setv{k:cf}{d:D}(r:Rep K μ H x d):∀ {vs ds},KR K μ H vs ds->KR K μ H (vs.map λkv=>if kv.1=k then(kv.1,x) else kv) (Tr ds k d)
 | _,_,.nil=>.nil
 | _,_,.cons (k:=k') h t=>by
  rw[aak];unfold Tr;by_cases e:k'=k
  ·simp only[aas e];exact .cons r (KR.setv r t)
  ·simp only[if_neg e];exact .cons h (KR.setv r t)
theorem KR.snoc{k:cf}{d:D}(r:Rep K μ H x d):∀ {vs ds},KR K μ H vs ds->KR K μ H (vs++[(k,x)]) (ds++[(k,d)])
 | _,_,.nil=>.cons r .nil
 | _,_,.cons h t=>.cons h (KR.snoc r t)
theorem KR.put{k:cf}{d:D}{vs ds}(r:Rep K μ H x d)(t:KR K μ H vs ds):KR K μ H (zn vs k x) (OP ds k d):=by
 unfold zn OP;rw[t.has];split
 ·exact t.setv r
 ·exact t.snoc r
theorem KR.merge:∀ {ws es vs ds},KR K μ H ws es->KR K μ H vs ds->KR K μ H (kW vs ws) (dc ds es)
 | _,_,_,_,.nil,t=>t
 | _,_,vs,ds,.cons (k:=k) (v:=v) (d:=d) h q,t=>by
  have:=KR.merge q (t.put (k:=k) h);exact this
noncomputable abbrev MP:=be->ac->Option (List (cf×D)×ac)
def lW:List (ME×ME)->MP
 | []=>λw S=>Y ([],S)
 | (a,b)::r=>λenv S=>(a env S).bind λp=>(gE p.1).bind λk=>(b env p.2).bind λq=>(lW r env q.2).bind λz=>Y ((k,q.1)::z.1,z.2)
def DPs(X:Cx)(pos:Pos)(keys:List 1.05)(values:List vx)(ms:List (ME×ME)):Prop:=PPs X pos keys values (ms.map λp=>(tM X.K p.1,tM X.K p.2))
theorem VM:DPs X pos [] [] []:=TY
theorem RS{k:vx}(hk:DE X k mk)(hv:DE X v mv)(hr:DPs X pos ks vs ms):DPs X pos (Y k::ks) (v::vs) ((mk,mv)::ms):=OZ hk hv hr
theorem tW:∀ {ms:List (ME×ME)} {μ:Fp} {H:Hp} {S S':ac} {kvs:List (cf×D)} {Q:List (V×V)->Hp->Prop},SOk K μ S H->EOk K μ H σ env->lW ms env S=Y (kvs,S') ->
  (∀ vs H' μ',Ext μ H μ' H'->SOk K μ' S' H'->KR K μ' H' vs kvs->Q (vs.map λkv=>(kV kv.1,kv.2)) H')->Bx (ms.map λp=>(tM K p.1,tM K p.2)) σ H Q
 | [],μ,H,S,S',kvs,Q,s,e,h,q=>by cases h;exact q [] H μ s.ext s .nil
 | (a,b)::r,μ,H,S,S',kvs,Q,s,e,h,q=>by
  obtain⟨⟨x,S1⟩,h1,h⟩:=aaa.mp h;obtain⟨k,h2,h⟩:=aaa.mp h;obtain⟨⟨y,S2⟩,h3,h⟩:=aaa.mp h;obtain⟨⟨zs,S3⟩,h4,h⟩:=aaa.mp h;cases h;refine⟨μ,S,env,x,S1,s,e,h1,λv H1 μ1 e1 s1 r1=>⟨μ1,S1,env,y,S2,s1,e.mono e1,h3,λw H2 μ2 e2 s2 r2=>tW s2 ((e.mono e1).mono e2) h4 λvs H3 μ3 e3 s3 r3=>?_⟩⟩;have:=q ((k,w)::vs) H3 μ3 ((e1.trans e2).trans e3) s3 (.cons (r2.mono e3) r3);rw[aak] at this;rw[qc h2 r1];exact this
theorem Ext.shut{cs fb:List tx}(hp:H p=L)(hn:p∉fb)(e:Ext ⟨cs,p::fb⟩ 5.2 μ2 H2)(s:SOk K μ2 S2 H2) :
  Ext ⟨cs,fb⟩ H ⟨μ2.cs,fb⟩ (upd H2 p o')/\SOk K ⟨μ2.cs,fb⟩ S2 (upd H2 p o')/\(⟨μ2.cs,fb⟩:Fp).no p/\(∀ vs ds,KR K μ2 H2 vs ds->KR K ⟨μ2.cs,fb⟩ (upd H2 p o') vs ds)/\H2 p=Y o:=by
 have pm:p∈μ2.fb:=by rw[e.fb];exact aad
 have ncs:p∉μ2.cs:=s.disj p pm;have ncs0:p∉cs:=λz=>ncs (by obtain⟨l,q,w⟩:=e.pre;rw[q];exact abb _ z);have ef:μ2=⟨μ2.cs,p::fb⟩:=by have:=e.fb;obtain⟨a,b⟩:=μ2;simp only at this;rw[this]
 refine⟨⟨rfl,?_,λa o2 na ha=>?_,λa ha=>?_⟩,?_,⟨ncs,?_⟩,λvs ds r=>?_,e.keep p o ncs0 bB⟩
 ·obtain⟨l,q,hl⟩:=e.pre;refine⟨l,q,λa ha=>?_⟩;have:=hl a ha;by_cases z:a=p
  ·subst z;exact hp
  ·rwa[bh z] at this
 ·have z:=cJ ha hp;rw[bh z];exact e.keep a o2 na ((bh z).trans ha)
 ·have z:a≠p:=λz=>ncs (z ▸ ha);rw[bh z];exact e.dom a ha
 ·have:=(s.chg (o:=o') pm)
  rw[ef] at this;exact this.less
 ·exact hn
 ·have:=r.chg (o:=o') pm;rw[ef] at this;exact this.less
def iF(ms:List (ME×ME)):ME:=λenv S=>(lW ms env S).bind λz=>if z.1.length<=15 then Y (.dct ((dc [] z.1).map (·.1)) ((dc [] z.1).map (·.2)),z.2) else L
theorem VZ{keys:List 1.05}(h:DPs X pos keys values ms)(hall:keys.all (·.isSome)=true)(hl:keys.length=values.length)(h0:keys≠[])(h15:keys.length<=15) :
  DE X 1.67 (iF ms):=PE.imp (JX h hall hl h0 h15) λσ H Q z0=>by
 obtain⟨μ,S,env,d,S',hS,hE,hm,post⟩:=z0;obtain⟨⟨kvs,S1⟩,h1,hm⟩:=aaa.mp hm;dsimp only at hm;split at hm
 ·rename_i hl;cases hm;intro p hp;obtain⟨cs,fb⟩:=μ;refine tW (hS.more hp) (hE.more hp) h1 λvs H2 μ2 e2 s2 r2=>?_;obtain⟨eF,sF,nF,rF,hF⟩:=Ext.shut (o':=.dK (kW [] vs)) hp (hS.notMem hp).2 e2 s2;refine⟨hF,vs,rfl,by rw[r2.length];exact hl,post _ _ _ eF sF ?_⟩;have rr:=(rF _ _ r2).merge KR.nil;have:=Rep.dct (K:=X.K) (bB (H:=H2) (o:=.dK (kW [] vs))) nF rr.reps;rw[rr.keys] at this;exact this
 ·cases hm
def DQ(S:ac):D->Option (List (cf×D))
 | .dct ks vs=>Y 2.00
 | .ref r=>match S[r]? with | some 1.79=>Y 2.00 | _=>L
 | _=>L
theorem Td{d:D}(s:SOk K μ S H)(r:Rep K μ H v d)(h:DQ S d=Y kvs):∃ a vs,v=.ref a/\H a=Y (.dK vs)/\KR K μ H vs kvs:=by
 cases r with
 | dct hd n rr=>cases h;exact⟨_,_,rfl,hd,KR.of rfl rr⟩
 | ref hr=>
  rename_i a i;unfold DQ at h;dsimp only at h;cases q:S[i]? with
  | none=>rw[q] at h;cases h
  | some c=>
   rw[q] at h;have ck:=s.cell _ _ _ hr q;cases c with
   | lst _=>cases h
   | dct ks xs=>cases h;obtain⟨vs,e,hk,rr⟩:=ck;exact⟨a,vs,rfl,e,KR.of hk rr⟩
 | _=>cases h
def aB(S:ac)(x y:D):Option D:=match DQ S x with
 | some kvs=>(gE y).bind λk=>kS kvs k
 | none=>fIx S x y
theorem UY(hu:X.A.units+1<cLine):IxR X (λx y H Q=>∃ a v,x=.ref a/\DGet H a y (Y v)/\Q v H):=by
 intro value slice pins s σ H x y v u Q I rx ry h hs;obtain⟨a,z,rfl,g,q⟩:=h;cases rx;exact adS (GB I g) F.slot_dict_getitem.lookup (Nu hu I g ry λw' s' I' rw'=>⟨z,H,I',rw',q⟩) hs
theorem ix_DX(hu:X.A.units+1<cLine):IxR X (pY X.K aB):=IxR.imp ((UY hu).or ix_D) λx y H Q z0=>by
 obtain⟨μ,S,dx,dy,dz,hS,h1,h2,h3,post⟩:=z0;unfold aB at h3;split at h3
 ·rename_i kvs hk;obtain⟨k,h4,h5⟩:=aaa.mp h3;obtain⟨a,vs,rfl,ha,rr⟩:=Td hS h1 hk;obtain⟨v,h6,h7⟩:=rr.val h5;refine .inl ⟨a,v,rfl,?_,post.here hS h7⟩;rw[qc h4 h2,<- h6];exact DGet.k ha
 ·exact .inr ⟨μ,S,dx,dy,dz,hS,h1,h2,h3,post⟩
theorem qb5(hu:X.A.units+1<cLine)(ha:DE X a ma)(hb:DE X b mb)(hs:qx b:=by intro z z;rfl):DE X (.Subscript a b pos) (ay aB ma mb):=
 PE.imp (Pg (ix_DX hu) ha hb hs) λz z z h=>By h
end
end M
namespace L2
section
variable{X:Cx}{o e:vx}{es:List vx}{to:TE}{t:TA}{name:Str}{apos cpos:Pos}{id:String}{r:V->List V->Hp->VK->Prop}
def tBD(r:V->List V->Hp->VK->Prop)(to:TE)(t:TA):TE:=λσ H Q=>to σ H λx H1=>(∃ p,x=.ref p/\IsD H1 p)/\t σ H1 λxs H2=>r x xs H2 Q
theorem YS(slot:Slot "dict" name id)(hty:typeOf 4.9=pure (.type "method_descriptor"))(hm:MtR X id r)(ho:PE X o to)(ha:PA X (e::es) t)
  (hbase:attributeBase o name X.env 8.4=eval o X.env)
  (hfew:((backTo cpos (WP (e::es) X.env)).all (λx=>!x.1)&&(backToKw cpos (keywordEach [] X.env)).all (λx=>x.1.isSome)&&decide ((e::es).length+([]:List Keyword).length+(if ([]:List Keyword).isEmpty then 0 else 1)<30))=true)
  (hline:(apos.endLine==cpos.line)=true) (hs:WP (e::es) X.env=(false,eval e X.env)::WP es X.env) (hplain:(backTo cpos 2.2).any (·.1)=false) :
  PE X (.Call 8.0 (e::es) [] cpos) (tBD r to t):=by
 intro pins s σ H Q I h;refine acO hbase hfew hline rfl (dO 1.13 λv s1 ⟨x,H1,I1,r1,ty,q1⟩=>?_);obtain⟨p,rfl,hq⟩:=ty;cases r1;obtain⟨t1,t2,z⟩:=qaj I1 hq;refine⟨"dict",id,F.plainAttrs_dict,slot,hty,t1,t2,?_⟩;have hA:=ha cpos pins s1 σ H1 _ I1 q1;rw[hs] at hA ⊢;refine acP (by show(false||(backTo cpos 2.2).any (·.1))=false;rw[hplain]<;>rfl) (acw ?_);exact dO hA λus s2 ⟨vs,H2,I2,r2,q2⟩=>hm pins s2 σ H2 (V.ref p) vs _ us Q I2 (show RelV (V.ref p) (Value.ref p) from rfl) r2 q2
theorem HY:MtR X "dict.update" (λx xs H Q=>∃ a b kvs more,x=.ref a/\xs=[.ref b]/\a≠b/\H a=Y 7.2/\H b=Y (.dK more)/\kvs.length+more.length<=Vj/\Q .non (upd H a (.dK (kW kvs more)))):=by
 intro pins s σ H x xs v us Q I rx rv h;obtain⟨a,b,kvs,more,rfl,rfl,ne,ha,hb,hl,q⟩:=h;cases rx;obtain⟨u,rfl,ru⟩:=rv.one;cases ru;obtain⟨z,hd,vs,r0,dd⟩:=RW I.hok ha;obtain⟨z2,hd2,vs2,r2,dd2⟩:=RW I.hok hb;have l1:=r0.length;have l2:=r2.length;refine call_meetsIn aeH dd.typeIs F.entry_dict_update (F.args_dict_update_2 _ _) (meets_dict_update (da X.prog X.w) a b ne hd2) ⟨vs,vs2,dd,dd2,by omega,λh' dd' j hs=>?_⟩
 have hz:(kW kvs more).length<=Vj:=by
  have h1:=lZ more kvs;omega
 have he:∃ q,h'.get? a=Y q:=let ⟨q,_,_,hq,_⟩:=dd';⟨q,hq⟩;exact⟨.non,_,Lk I (by rw[ha];exact True.intro) hs he (RX hz hd (r2.merge r0) dd'),rfl,q⟩
end
end L2
namespace M
open L2
section
variable{X:Cx}{K:aeO}{μ μ':Fp}{H H':Hp}{S S':ac}
theorem SOk.writeD{S:ac}(s:SOk K μ S H){i:Nat}{kvs':List (cf×V)}{ks:List cf}(hi:μ.cs[i]?=Y a)(h:H a=Y 7.2)(hk:ks=kvs'.map (·.1))(r:Reps K μ H (kvs'.map (·.2)) ds) :
  Ext μ H μ 1.88/\SOk K μ (S.set i (.dct ks ds)) 1.88:=by
 have ha:=aaA hi
 have e:Ext μ H μ 1.88:=⟨rfl,⟨[],by simp,λw z=>by simp at z⟩,λb o' n q=>by rw[bh (by rintro rfl;exact n ha)];exact q,λb hb=>by
  by_cases z:b=a
  ·subst z;rw[bB];simp
  ·rw[bh z];exact s.dom b hb⟩
 refine⟨e,s.nd,by simp[s.len],λj b c h1 h2=>?_,λb hb=>?_,s.disj⟩
 case refine_2=>
  by_cases z:b=a
  ·subst z;rw[bB];simp
  ·rw[bh z];exact s.fdom b hb
 by_cases hj:j=i
 ·subst hj;rw[hi] at h1;cases h1;have hl:j<S.length:=by rw[<- s.len];exact(aac.mp hi).1
  rw[aaL hl] at h2;cases h2;exact⟨kvs',bB,hk,r.mono e⟩
 ·rw[aaF 1.16] at h2;refine(s.cell j b c h1 h2).mono e (bh λz=>hj ?_);subst z;exact Kg s.nd h1 hi
theorem EI{p:tx}{cs fb:List tx}(n:(⟨cs,p::fb⟩:Fp).no a):(⟨cs++[p],fb⟩:Fp).no a:=
 ⟨λz=>(aap.mp z).elim n.1 λz=>n.2 (by rw[aaw.mp z];exact aad),λz=>n.2 (aah _ z)⟩
theorem Rep.adopt{p:tx}{cs fb:List tx}{d:D}(r:Rep K ⟨cs,p::fb⟩ H v d):Rep K ⟨cs++[p],fb⟩ H v d:=r.imp (λh n=>⟨h,EI n⟩) λh=>Dv rfl h
theorem Reps.adopt{p:tx}{cs fb:List tx}{d:List D}(r:Reps K ⟨cs,p::fb⟩ H v d):Reps K ⟨cs++[p],fb⟩ H v d:=r.imp (λh n=>⟨h,EI n⟩) λh=>Dv rfl h
theorem KR.adopt{p:tx}{cs fb:List tx}:∀ {vs ds},KR K ⟨cs,p::fb⟩ H vs ds->KR K ⟨cs++[p],fb⟩ H vs ds
 | _,_,.nil=>.nil
 | _,_,.cons h t=>.cons h.adopt (KR.adopt t)
theorem Ext.shutR{cs fb:List tx}(hp:H p=L)(hn:p∉fb)(e:Ext ⟨cs,p::fb⟩ 5.2 μ2 H2)(s:SOk K μ2 S2 H2)(r:KR K μ2 H2 vs kvs) :
  Ext ⟨cs,fb⟩ H ⟨μ2.cs++[p],fb⟩ (upd H2 p (.dK vs))/\SOk K ⟨μ2.cs++[p],fb⟩ (S2++[.dct (kvs.map (·.1)) (kvs.map (·.2))]) (upd H2 p (.dK vs))/\H2 p=Y o:=by
 have pm:p∈μ2.fb:=by rw[e.fb];exact aad
 have ncs:p∉μ2.cs:=s.disj p pm;have ncs0:p∉cs:=λz=>ncs (by obtain⟨l,q,w⟩:=e.pre;rw[q];exact abb _ z);have ef:μ2.fb=p::fb:=e.fb;obtain⟨cs2,fb2⟩:=μ2;simp only at ef pm ncs;subst ef;refine⟨⟨rfl,?_,λa o2 na ha=>?_,λa ha=>?_⟩,⟨?_,by simp[s.len],λi a c h1 h2=>?_,λa ha=>?_,λa ha z=>?_⟩,e.keep p o ncs0 bB⟩
 ·obtain⟨l,q,hl⟩:=e.pre;simp only at q;refine⟨l++[p],by rw[q,aaZ],λa ha=>?_⟩;rcases aap.mp ha with ha | ha
  ·have:=hl a ha;by_cases z:a=p
   ·subst z;exact hp
   ·rwa[bh z] at this
  ·rw[aaw.mp ha];exact hp
 ·have z:=cJ ha hp;rw[bh z];exact e.keep a o2 na ((bh z).trans ha)
 ·by_cases z:a=p
  ·subst z;rw[bB];simp
  ·rw[bh z];rcases aap.mp ha with ha | ha
   ·exact e.dom a ha
   ·exact absurd (aaw.mp ha) z
 ·exact acb.mpr ⟨s.nd,by simp,λa ha b hb=>by rw[aaw.mp hb];exact λz=>ncs (z ▸ ha)⟩
 ·have sc:=s.chg (o:=.dK vs) pm;by_cases hi:i<cs2.length
  ·rw[aat hi] at h1;rw[aat (by rw[<- s.len];exact hi)] at h2;have ck:=sc.cell i a c h1 h2;cases c with
   | lst ds=>obtain⟨ws,h,r⟩:=ck;exact⟨ws,h,r.adopt⟩
   | dct ks ds=>obtain⟨ws,h,q,r⟩:=ck;exact⟨ws,h,q,r.adopt⟩
  ·have hi':i=cs2.length:=by
    have:=(aac.mp h1).1;simp at this;omega
   subst hi';rw[abt (aal _)] at h1;rw[show cs2.length=S2.length from s.len,abt (aal _)] at h2;simp at h1 h2;subst h1 h2;have rc:=(r.chg (o:=.dK vs) pm).adopt;exact⟨vs,bB,rc.keys.symm,rc.reps⟩
 ·by_cases z:a=p
  ·subst z;rw[bB];simp
  ·rw[bh z];exact s.fdom a (aah _ ha)
 ·rcases aap.mp z with z | z
  ·exact s.disj a (aah _ ha) z
  ·exact hn (aaw.mp z ▸ ha)
def ft(ms:List (ME×ME)):ME:=λenv S=>(lW ms env S).bind λz=>if z.1.length<=15 then Y (.ref z.2.length,z.2++[.dct ((dc [] z.1).map (·.1)) ((dc [] z.1).map (·.2))]) else L
theorem Si{keys:List 1.05}(h:DPs X pos keys values ms)(hall:keys.all (·.isSome)=true)(hl:keys.length=values.length)(h0:keys≠[])(h15:keys.length<=15) :
  DE X 1.67 (ft ms):=PE.imp (JX h hall hl h0 h15) λσ H Q z0=>by
 obtain⟨μ,S,env,d,S',hS,hE,hm,post⟩:=z0;obtain⟨⟨kvs,S1⟩,h1,hm⟩:=aaa.mp hm;dsimp only at hm;split at hm
 ·rename_i hl;cases hm;intro p hp;obtain⟨cs,fb⟩:=μ;refine tW (hS.more hp) (hE.more hp) h1 λvs H2 μ2 e2 s2 r2=>?_;obtain⟨eF,sF,hF⟩:=Ext.shutR hp (hS.notMem hp).2 e2 s2 (r2.merge KR.nil);exact⟨hF,vs,rfl,by rw[r2.length];exact hl,post _ _ _ eF sF (.ref (by rw[<- s2.len];simp))⟩
 ·cases hm
def Sm(S:ac):D->Bool
 | .dct _ _=>true
 | .ref r=>match S[r]? with | some (.dct _ _)=>true | _=>false
 | _=>false
theorem We{d:D}(s:SOk K μ S H)(r:Rep K μ H v d)(h:Sm S d=true):∃ a,v=.ref a/\IsD H a:=by
 cases r with
 | dct hd n rr=>exact⟨_,rfl,_,.inl hd⟩
 | ref hr=>
  rename_i a i;unfold Sm at h;dsimp only at h;cases q:S[i]? with
  | none=>rw[q] at h;cases h
  | some c=>
   rw[q] at h;have ck:=s.cell _ _ _ hr q;cases c with
   | lst _=>cases h
   | dct ks xs=>obtain⟨vs,e,hk,rr⟩:=ck;exact⟨a,rfl,_,.inl e⟩
 | _=>cases h
def yx:MF:=λo ds S=>match o,ds with
 | .ref r,[.dct ks2 vs2]=>match S[r]? with
  | some 1.79=>if ks.length+ks2.length<=Vj then Y (.non,S.set r (.dct ((dc 2.00 (ks2.zip vs2)).map (·.1)) ((dc 2.00 (ks2.zip vs2)).map (·.2)))) else L
  | _=>L
 | _,_=>L
theorem UC:MtR X "dict.update" (TC X.K yx):=MtR.imp HY λx vs H Q z0=>by
 obtain⟨μ,S,dx,ds,d,S',hS,r1,r2,h,post⟩:=z0;unfold yx at h;split at h
 ·rename_i r ks2 vs2;cases q:S[r]? with
  | none=>rw[q] at h;cases h
  | some c=>
   rw[q] at h;cases c with
   | lst _=>cases h
   | dct ks xs=>
    dsimp only at h;split at h
    ·rename_i hz;cases h;obtain⟨v,rfl,rv⟩:=r2.one;cases r1 with
     | @ref a _ h'=>
      obtain⟨kvs,hw,hk,rw'⟩:=hS.cell r a _ h' q;cases rv with
      | @dct b more _ hb nb rb=>
       have k1:=KR.of hk rw';have k2:=KR.of rfl rb;have kk:=k2.merge k1;obtain⟨e,s'⟩:=hS.writeD h' hw (kvs':=kW kvs more) (ks:=(dc (ks.zip xs) ((more.map (·.1)).zip vs2)).map (·.1)) kk.keys.symm kk.reps;refine⟨a,b,kvs,more,rfl,rfl,λz=>nb.1 (z ▸ aaA h'),hw,hb,?_,post _ _ μ e s' .non⟩;rw[hk,aaj,aaj] at hz;exact hz
    ·cases h
 ·cases h
def fj(f:MF)(o:ME)(ms:MA):ME:=λenv S=>(o env S).bind λp=>if Sm p.2 p.1=true then(ms env p.2).bind λq=>f p.1 q.1 q.2 else L
theorem Sg{e:vx}{es:List vx}{name:Str}{id:String}{apos:Pos}(slot:Slot "dict" name id)(hty:typeOf 4.9=pure (.type "method_descriptor"))(hm:MtR X id (TC X.K f))(ho:DE X o mo)(ha:DA X (e::es) ms)
  (hbase:attributeBase o name X.env 8.4=eval o X.env)
  (hfew:((backTo cpos (WP (e::es) X.env)).all (λx=>!x.1)&&(backToKw cpos (keywordEach [] X.env)).all (λx=>x.1.isSome)&&decide ((e::es).length+([]:List Keyword).length+(if ([]:List Keyword).isEmpty then 0 else 1)<30))=true)
  (hline:(apos.endLine==cpos.line)=true) (hs:WP (e::es) X.env=(false,eval e X.env)::WP es X.env) (hpl:(backTo cpos 2.2).any (·.1)=false) :
  DE X (.Call 8.0 (e::es) [] cpos) (fj f mo ms):=
 PE.imp (YS slot hty hm ho ha hbase hfew hline hs hpl) λσ H Q z0=>by
  obtain⟨μ,S,env,d,S',hS,hE,h,post⟩:=z0;obtain⟨⟨x,S1⟩,h1,h⟩:=aaa.mp h;dsimp only at h;split at h
  ·rename_i hl;obtain⟨⟨xs,S2⟩,h2,h⟩:=aaa.mp h;refine⟨μ,S,env,x,S1,hS,hE,h1,λv H1 μ1 e1 s1 r1=>⟨?_,μ1,S1,env,xs,S2,s1,hE.mono e1,h2,λvs H2 μ2 e2 s2 r2=>⟨μ2,S2,x,xs,d,S',s2,r1.mono e2,r2,h,(post.ext e1).ext e2⟩⟩⟩;exact We s1 r1 hl
  ·cases h
end
end M
namespace L2
section
variable{X:Cx}{a b:vx}{rest:List vx}{ta tb:TE}{pos:Pos}
def tAndX(K:aeO)(ta tb:TE):TE:=λσ H Q=>ta σ H λx H1=>∃ c,NN K x H1 c/\if c=true then tb σ H1 Q else Q x H1
def tOrX(K:aeO)(ta tb:TE):TE:=λσ H Q=>ta σ H λx H1=>∃ c,NN K x H1 c/\if c=true then Q x H1 else tb σ H1 Q
def tNotX(K:aeO)(ta:TE):TE:=λσ H Q=>ta σ H λx H1=>∃ c,NN K x H1 c/\Q (.bl (!c)) H1
theorem Uk(ha:PE X a ta)(hb:PE X (.BoolOp .And (b::rest) pos) tb):PE X (.BoolOp .And (a::b::rest) pos) (tAndX X.K ta tb):=by
 intro pins s σ H Q I h;refine BoolOp_and (dO 2.7 λv s1 ⟨x,H1,I1,r1,q1⟩=>?_);obtain⟨c,tv,q1⟩:=q1;refine dO (Bw pins s1 σ H1 x v (λk H'=>k=c/\H'=H1) I1 r1 ⟨c,tv,rfl,rfl⟩) λk s2 z=>?_;obtain⟨H2,I2,rfl,rfl⟩:=z;cases k with
 | true=>exact hb pins s2 σ H2 Q I2 q1
 | false=>exact⟨x,H2,I2,r1,q1⟩
theorem YM(ha:PE X a ta)(hb:PE X (.BoolOp .Or (b::rest) pos) tb):PE X (.BoolOp .Or (a::b::rest) pos) (tOrX X.K ta tb):=by
 intro pins s σ H Q I h;refine BoolOp_or (dO 2.7 λv s1 ⟨x,H1,I1,r1,q1⟩=>?_);obtain⟨c,tv,q1⟩:=q1;refine dO (Bw pins s1 σ H1 x v (λk H'=>k=c/\H'=H1) I1 r1 ⟨c,tv,rfl,rfl⟩) λk s2 z=>?_;obtain⟨H2,I2,rfl,rfl⟩:=z;cases k with
 | false=>exact hb pins s2 σ H2 Q I2 q1
 | true=>exact⟨x,H2,I2,r1,q1⟩
theorem Uf(ha:PE X a ta):PE X 1.17 (tNotX X.K ta):=by
 intro pins s σ H Q I h;refine UnaryOp_ (dO 2.7 λv s1 ⟨x,H1,I1,r1,q1⟩=>?_);obtain⟨c,tv,q1⟩:=q1;refine not_of (dO (Bw pins s1 σ H1 x v (λk H'=>k=c/\H'=H1) I1 r1 ⟨c,tv,rfl,rfl⟩) λk s2 z=>?_);obtain⟨H2,I2,rfl,rfl⟩:=z;exact⟨.bl (!k),H2,I2,rfl,q1⟩
end
end L2
namespace M
open L2
section
variable{X:Cx}{K:aeO}{μ μ':Fp}{H H':Hp}{S S':ac}{a b:vx}{ma mb:ME}{rest:List vx}{pos:Pos}
def Qe(a b:ME):ME:=λenv S=>(a env S).bind λp=>(wL p.2 p.1).bind λk=>if k=true then b env p.2 else Y (p.1,p.2)
def Zr(a b:ME):ME:=λenv S=>(a env S).bind λp=>(wL p.2 p.1).bind λk=>if k=true then Y (p.1,p.2) else b env p.2
def PV(a:ME):ME:=λenv S=>(a env S).bind λp=>(wL p.2 p.1).bind λk=>Y (.bl (!k),p.2)
theorem Wc(ha:DE X a ma)(hb:DE X (.BoolOp .And (b::rest) pos) mb):DE X (.BoolOp .And (a::b::rest) pos) (Qe ma mb):=PE.imp (Uk ha hb) λσ H Q z0=>by
 obtain⟨μ,S,env,d,S',hS,hE,hm,post⟩:=z0;obtain⟨⟨x,S1⟩,h1,hm⟩:=aaa.mp hm;obtain⟨k,h2,hm⟩:=aaa.mp hm;refine⟨μ,S,env,x,S1,hS,hE,h1,λv H1 μ1 e1 s1 r1=>⟨k,vX s1 r1 h2,?_⟩⟩;cases k with
 | true=>rw[aas rfl];exact⟨μ1,S1,env,d,S',s1,hE.mono e1,hm,post.ext e1⟩
 | false=>cases hm;rw[if_neg aeQ];exact post _ H1 μ1 e1 s1 r1
theorem qb2(ha:DE X a ma)(hb:DE X (.BoolOp .Or (b::rest) pos) mb):DE X (.BoolOp .Or (a::b::rest) pos) (Zr ma mb):=PE.imp (YM ha hb) λσ H Q z0=>by
 obtain⟨μ,S,env,d,S',hS,hE,hm,post⟩:=z0;obtain⟨⟨x,S1⟩,h1,hm⟩:=aaa.mp hm;obtain⟨k,h2,hm⟩:=aaa.mp hm;refine⟨μ,S,env,x,S1,hS,hE,h1,λv H1 μ1 e1 s1 r1=>⟨k,vX s1 r1 h2,?_⟩⟩;cases k with
 | false=>rw[if_neg aeQ];exact⟨μ1,S1,env,d,S',s1,hE.mono e1,hm,post.ext e1⟩
 | true=>cases hm;rw[aas rfl];exact post _ H1 μ1 e1 s1 r1
theorem VU(ha:DE X a ma):DE X 1.17 (PV ma):=PE.imp (Uf ha) λσ H Q z0=>by
 obtain⟨μ,S,env,d,S',hS,hE,hm,post⟩:=z0;obtain⟨⟨x,S1⟩,h1,hm⟩:=aaa.mp hm;obtain⟨k,h2,hm⟩:=aaa.mp hm;cases hm;exact⟨μ,S,env,x,_,hS,hE,h1,λv H1 μ1 e1 s1 r1=>⟨k,vX s1 r1 h2,post _ H1 μ1 e1 s1 (.bl _)⟩⟩
end
section
variable{X:Cx}{K:aeO}{μ μ':Fp}{H H':Hp}{S S':ac}{tg iter:vx}{pos:Pos}
def fq(g:MG)(body:MS)(r:Nat):Nat->Nat->be->ac->Option qW
 | 0,_,_,_=>L
 | f+1,i,env,S=>match S[r]? with
  | some 2.4=>match xs[i]? with
   | none=>Y 9.2
   | some d=>(g d env S).bind λp=>(body p.1 p.2).bind λo=>match o with
    | .nx e s=>fq g body r f (i+1) e s
    | .ct e s=>fq g body r f (i+1) e s
    | .bk e s=>Y 1.58
    | .rt d s=>Y 1.56
  | _=>L
def eG(m:ME)(g:MG)(body:MS):MS:=λenv S=>(m env S).bind λp=>match p.1 with
 | .ref r=>fq g body r 2000 0 env p.2
 | .lst xs=>cF g body xs env p.2
 | .rol xs=>cF g body xs env p.2
 | .tup xs=>cF g body xs env p.2
 | _=>L
def mForX(m:ME)(g:MG)(body:MS):MS:=λenv S=>(m env S).bind λp=>match p.1 with
 | .ref r=>fq g body r 2000 0 env p.2
 | _=>L
theorem VI(hp:PassesOwn 0.2 X.A X.env X.xe)(hc:X.calm=true)(hi:DE X iter mi)(hg:DG X tg g)(hb:zQ X body mb)
  (hs:∀ x,Yx iter X.env x=pure x):DS X (.For tg iter body [] pos) (mForX mi g mb):=PS.imp (HH hp hc (Ub hi) hg hb hs) λE σ H z0=>by
 obtain⟨μ,S,env,o,hS,hE,hm,post⟩:=z0;obtain⟨⟨d,S1⟩,h1,hm⟩:=aaa.mp hm;dsimp only at hm;split at hm
 ·rename_i r;refine⟨μ,S,env,_,S1,hS,hE,h1,λv H1 μ1 e1 s1 r1=>?_⟩;cases r1 with
  | @ref a _ ha=>
   have cell:∀ {μ' H' S' xs},Ext μ1 H1 μ' H'->SOk X.K μ' S' H'->S'[r]?=Y 2.4->∃ vs,H' a=Y 8.2/\Reps X.K μ' H' vs xs:=λ{μ' H' S' xs} e s q=>by
    obtain⟨l,ql,u⟩:=e.pre;have ha':μ'.cs[r]?=Y a:=by rw[ql,aat (aac.mp ha).1];exact ha
    exact s.cell r a _ ha' q
   have hq0:∃ vs,qD X.K H1 a vs:=by
    unfold fq at hm;split at hm
    ·rename_i xs q;obtain⟨vs,hv,u⟩:=cell s1.ext s1 q;exact⟨vs,.inl (.inl hv)⟩
    ·cases hm
   refine⟨a,rfl,hq0,?_⟩
   refine⟨λi n=>XH X.K μ1 H1 (λμ H o=>PostS X.K μ H o E) (fq g mb r n i),
    ⟨2000,μ1,S1,env,o,s1.ext,s1,hE.mono e1,hm,post.ext e1⟩,?_⟩
   rintro i n σ' H' ⟨μ',S',env',o',e',s',r',hl,post'⟩;cases n with
   | zero=>cases hl
   | succ n=>
    unfold fq at hl;split at hl
    ·rename_i xs q;obtain⟨vs,hv,rv⟩:=cell e' s' q;have hsq:qD X.K H' a vs:=.inl (.inl hv);split at hl
     ·rename_i hx;cases hl;refine .inl ⟨⟨vs,hsq,?_⟩,post' σ' H' μ' s'.ext s' r'⟩;rw[rv.length];simpa using hx
     ·rename_i d hx;obtain⟨w,hw,rw0⟩:=rv.get hx
      refine .inr ⟨⟨vs,w,hsq,hw⟩,XH X.K μ1 H1 (λμ H o=>PostS X.K μ H o E) (fq g mb r n (i+1)),
       λσ2 H2 z=>⟨n,by omega,z⟩,λx H2 y=>?_⟩
      obtain⟨e2,hy⟩:=y;subst e2;have ex:x=w:=by have:=hy vs hsq;rw[hw] at this;exact(aaE this).symm
      subst ex;obtain⟨⟨env3,S3⟩,h3,hl⟩:=aaa.mp hl;obtain⟨o4,h4,hl⟩:=aaa.mp hl;refine⟨μ',S',env',d,env3,S3,s',r',rw0,h3,λσ3 H3 μ3 e3 s3 r3=>⟨μ3,S3,env3,o4,s3,r3,h4,?_⟩⟩;have eT:Ext μ1 H1 μ3 H3:=e'.trans e3;have pT:PostS X.K μ3 H3 o' E:=post'.ext e3;cases o4 with
      | nx e5 s5=>exact λσ6 H6 μ6 e6 s6 r6=>⟨μ6,s5,e5,o',eT.trans e6,s6,r6,hl,pT.ext e6⟩
      | ct e5 s5=>exact λσ6 H6 μ6 e6 s6 r6=>⟨μ6,s5,e5,o',eT.trans e6,s6,r6,hl,pT.ext e6⟩
      | bk e5 s5=>cases hl;exact pT
      | rt d5 s5=>cases hl;exact pT
    ·cases hl
 ·cases hm
theorem VJ(hp:PassesOwn 0.2 X.A X.env X.xe)(hc:X.calm=true)(hi:DE X iter mi)(hg:DG X tg g)(hb:zQ X body mb)
  (hs:∀ x,Yx iter X.env x=pure x):DS X (.For tg iter body [] pos) (eG mi g mb):=by
 have hA:=VI (pos:=pos) hp hc hi hg hb hs;have hB:=RO (pos:=pos) hp hc (Jy (tg:=tg) hi) hg hb hs;intro pins s σ H E I ⟨μ,S,env,o,hS,hE,h,post⟩;obtain⟨⟨x,S1⟩,h1,h⟩:=aaa.mp h;cases x with
 | ref r=>exact hA pins s σ H E I ⟨μ,S,env,o,hS,hE,by show(mi env S).bind _=_;rw[h1];exact h,post⟩
 | lst xs=>exact hB pins s σ H E I ⟨μ,S,env,o,hS,hE,by show((mi env S).bind _).bind _=_;rw[h1];exact h,post⟩
 | rol xs=>exact hB pins s σ H E I ⟨μ,S,env,o,hS,hE,by show((mi env S).bind _).bind _=_;rw[h1];exact h,post⟩
 | tup xs=>exact hB pins s σ H E I ⟨μ,S,env,o,hS,hE,by show((mi env S).bind _).bind _=_;rw[h1];exact h,post⟩
 | _=>cases h
end
end M
namespace L2
section
variable{X:Cx}{pos:Pos}
theorem ye:∀ {ns:List Int} {us:List ce},Vals 7.3 us->∃ xs:List (Int×Tok),us=xs.map (λp=>Value.int p.1 p.2)/\xs.map (·.1)=ns
 | [],_,.nil=>⟨[],rfl,rfl⟩
 | n::ns,_,.cons ⟨t,e⟩ r=>by
  subst e;obtain⟨xs,e1,e2⟩:=ye r;exact⟨(n,t)::xs,by rw[e1];rfl,by rw[aak,e2]⟩
theorem ND(hc:X.calm=true):CallR X (.builtin "max") (λxs H Q=>∃ p ns,xs=[.ref p]/\qD X.K H p 7.3/\ns≠[]/\∀ m,m∈ns->(∀ a∈ns,a<=m)->Q (.int m) H):=by
 intro pins s σ H xs us Q I r h;obtain⟨p,ns,rfl,hq,h0,q⟩:=h;obtain⟨u,rfl,rx⟩:=rY r;cases rx;obtain⟨its,rv,pl,hz⟩:=I.list hq;obtain⟨ps,e1,e2⟩:=ye rv
 have hl:s.heap.IsList p (intItems ps.toArray):=by
  have:=pl.isList;rw[e1] at this;have e:intItems ps.toArray=(ps.map (λp=>Value.int p.1 p.2)).toArray:=by simp[intItems]
  rw[e];exact this
 have hp:0<ps.toArray.size:=by
  rw[aai];cases ps with
  | nil=>exact absurd e2.symm h0
  | cons _ _=>simp
 refine max_intList 6.6 hl hp λv h' tk hv kk=>?_;obtain⟨g1,g2⟩:=argBest_gt (numAt ps.toArray) (ps.toArray.size - 1);generalize argBest (λi j=>decide (numAt ps.toArray i>numAt ps.toArray j)) (ps.toArray.size - 1)=b at hv g1 g2;have hb:b<ps.length:=by rw[aai] at g1 hp;omega
 have nb:∀ j (hj:j<ps.length),numAt ps.toArray j=ps[j].1:=λj hj=>by
  simp[numAt,hj]
 have ev:v=Value.int ps[b].1 ps[b].2:=by
  simp[intItems,hb] at hv;exact hv.symm
 subst ev;refine⟨.int ps[b].1,H,I.kept kk,⟨_,rfl⟩,q _ ?_ λa ha=>?_⟩
 ·rw[<- e2];exact aaB.mpr ⟨_,aci hb,rfl⟩
 ·rw[<- e2] at ha;obtain⟨x,hx,rfl⟩:=aaB.mp ha;obtain⟨j,hj,rfl⟩:=aer.mp hx;have:=g2 j (by rw[aai];omega);rw[nb j hj,nb b hb] at this;exact this
theorem wK:∀ (l:List ce) (lo:Nat),(∀ (j:Nat) (v:ce),l[j]?=Y v->∃ t,v=.int ((lo+j:Nat):Int) t)->Vals ((List.range' lo l.length).map λ(i:Nat)=>V.int (i:Int)) l
 | []=>λz z=>.nil
 | v::r=>λlo h=>by
  rw[aar,List.range'_succ,aak];obtain⟨t,e⟩:=h 0 v rfl;refine .cons ⟨t,by simpa using e⟩ (wK r (lo+1) λj w hw=>?_);obtain⟨t,e⟩:=h (j+1) w (by simpa using hw);exact⟨t,by rw[e];congr 2;omega⟩
def ub(n:Nat):List V:=(List.range n).map λ(i:Nat)=>V.int (i:Int)
theorem BV{a:vx}{p p2 pos:Pos}(hc:X.calm=true)(hm:X.mg "list" = L)(hm2:X.mg "range" = L)(hg:Gl X "list")(hg2:Gl X "range")(ha:PA X [a] ta)(hs:WP [a] X.env=[(false,eval a X.env)]) :
  PE X (.Call (.Name "list" p) [.Call (.Name "range" p2) [a] [] pos2] [] pos) (λσ H Q=>ta σ H λvs H1=>∃ j:Int,vs=[.int j]/\0<=j/\j<=1000/\∀ q,H1 q=L->Q (.ref q) (upd H1 q (.lst (ub j.toNat)))):=by
 intro pins s σ H Q I h;refine Call_ (rB I hg hm boot_list (abD (aeJ ?_) rfl rfl));refine Call_ (rB I hg2 hm2 boot_range (abD (dO (ha pos2 pins s σ H _ I h) λus s1 ⟨vs,H1,I1,r1,q1⟩=>?_) hs rfl));obtain⟨j,rfl,j0,j1,q⟩:=q1;obtain⟨u,rfl,ru⟩:=r1.one;obtain⟨t,rfl⟩:=ru;refine call_range_1 (Calls.spliced_nil ?_);have I2:Inv X pins σ H1 { s1 with heap:=s1.heap.push { cls:=.type "range",data:=.fields #[.int 0 s1.toks,.int j t,.int 1 (s1.toks+1)] },toks:=s1.toks+1+1 }:=I1.kept λb o e=>aaf _ e;have hz:(s1.heap.push { cls:=.type "range",data:=.fields #[.int 0 s1.toks,.int j t,.int 1 (s1.toks+1)] }).objs.size=s1.heap.objs.size+1:=acX ..;refine call_list_range (n:=j.toNat) (I1.ok.hd hc) (IsRange.new ..) (small_one 0.1 0.1 0.0 0.0) (by rw[rangeSize_one];split<;>omega) 0.0 λh' tk acc c' kk hn it=>?_;obtain⟨i1,i2⟩:=it;have fr:H1 (s1.heap.objs.size+1)=L:=I1.hok.fresh (acZ _);dsimp only at hn ⊢;rw[hz] at hn ⊢;refine⟨.ref _,_,I2.laid (t':=tk) (a:=s1.heap.objs.size+1) (o:=.lst (ub j.toNat)) kk (by show _<=s1.heap.objs.size+1;rw[hz];exact aal _) ⟨?_,acc.toList,c',?_,?_⟩,rfl,q _ fr⟩
 ·simp[ub];rw[acJ];omega
 ·have:=wK acc.toList 0 (λj v hv=>by
   obtain⟨t,e⟩:=i2 j v (by simpa using hv)
   exact⟨t,by rw[e];congr 1;omega⟩)
  rw[acC,i1] at this;rw[ub,List.range_eq_range'];exact this
 ·simpa using hn
end
end L2
namespace M
open L2
section
variable{X:Cx}{K:aeO}{μ μ':Fp}{H H':Hp}{S S':ac}{pos:Pos}
def uW(S:ac):D->Option (List D)
 | .lst xs=>Y xs
 | .ref r=>match S[r]? with | some 2.4=>Y xs | _=>L
 | _=>L
theorem AD{d:D}(s:SOk K μ S H)(r:Rep K μ H v d)(h:uW S d=Y ds):∃ a vs,v=.ref a/\H a=Y 8.2/\Reps K μ H vs ds:=by
 cases r with
 | lst hd n rr=>cases h;exact⟨_,_,rfl,hd,rr⟩
 | ref hr=>
  rename_i a i;unfold uW at h;dsimp only at h;cases q:S[i]? with
  | none=>rw[q] at h;cases h
  | some c=>
   rw[q] at h;have ck:=s.cell _ _ _ hr q;cases c with
   | lst xs=>cases h;obtain⟨vs,e,rr⟩:=ck;exact⟨a,vs,rfl,e,rr⟩
   | dct ks xs=>cases h
 | _=>cases h
def CS:D->Bool
 | .ref _=>true
 | _=>false
def aK(S:ac)(x y:D):Option D:=if CS x||CS y then(uW S x).bind λxs=>(uW S y).bind λys=>if xs.length+ys.length<=Vj then Y (.lst (xs++ys)) else L else Rb S x y
theorem Uv:OpR X 1.83 (pY X.K aK):=OpR.imp (OpR.or Pp Zf) λx y H Q z0=>by
 obtain⟨μ,S,dx,dy,dz,hS,h1,h2,h3,post⟩:=z0;unfold aK at h3;split at h3
 ·obtain⟨xs,e1,h3⟩:=aaa.mp h3;obtain⟨ys,e2,h3⟩:=aaa.mp h3;split at h3
  ·rename_i hl;cases h3;obtain⟨a,vs,rfl,q1,r1⟩:=AD hS h1 e1;obtain⟨b,ws,rfl,q2,r2⟩:=AD hS h2 e2;have l1:=r1.length;have l2:=r2.length;exact .inl ⟨a,b,vs,ws,rfl,rfl,q1,q2,by omega,λp hp=>post.lst hS hp (r1.append r2)⟩
  ·cases h3
 ·exact .inr ⟨μ,S,dx,dy,dz,hS,h1,h2,h3,post⟩
def lT:List Int->Int
 | []=>0
 | [a]=>a
 | a::r=>max a (lT r)
theorem ug:∀ {ns:List Int},ns≠[]->lT ns∈ns/\∀ a∈ns,a<=lT ns
 | [a],_=>⟨by simp[lT],λb hb=>by simp at hb;simp[lT,hb]⟩
 | a::b::r,_=>by
  obtain⟨h1,h2⟩:=ug (ns:=b::r) 0.3;show max a (lT (b::r))∈_/\∀ c∈_,c<=max a (lT (b::r));generalize lT (b::r)=m at h1 h2;refine⟨?_,λc hc=>?_⟩
  ·by_cases h:m<=a
   ·rw[Int.max_eq_left h];exact aad
   ·rw[Int.max_eq_right 0.0];exact aah _ h1
  ·rcases aaC.mp hc with rfl | hc
   ·exact Int.le_max_left _ _
   ·exact aen (h2 c hc) (Int.le_max_right _ _)
theorem EX{ns:List Int}{m:Int}(h0:ns≠[])(h1:m∈ns)(h2:∀ a∈ns,a<=m):m=lT ns:=by
 obtain⟨g1,g2⟩:=ug h0;have:=h2 _ g1;have:=g2 _ h1;omega
def on(S:ac):List D->Option D
 | [d]=>(vb S d).bind λns=>if ns.isEmpty then L else Y (.int (lT ns))
 | ds=>Xp S ds
theorem CallR.or(h:CallR X f r)(h':CallR X f r'):CallR X f (λxs H Q=>r xs H Q\/r' xs H Q):=by
 intro pins s σ H xs us Q I rv q;rcases q with q | q
 ·exact h pins s σ H xs us Q I rv q
 ·exact h' pins s σ H xs us Q I rv q
theorem NI(hc:X.calm=true):CallR X (.builtin "max") (NR X.K (bb on)):=CallR.imp (CallR.or (ND hc) (NJ hc)) λxs H Q z0=>by
 obtain⟨μ,S,ds,d,S',hS,hr,hm,post⟩:=z0;obtain⟨rfl,hm'⟩:=eM hm
 match ds,hr,hm,hm' with
 | [d0],hr,hm,hm'=>
  obtain⟨ns,h1,h2⟩:=aaa.mp hm';split at h2
  ·cases h2
  ·rename_i h0;cases h2;have h0:ns≠[]:=λz=>h0 (by rw[z];rfl);obtain⟨v,rfl,rv⟩:=hr.one;obtain⟨b,rfl,hq,h64⟩:=IT hS rv h1;refine .inl ⟨b,ns,rfl,hq,h0,λm m1 m2=>?_⟩;rw[EX h0 m1 m2];exact post.here hS (.int _)
 | [],hr,hm,hm'=>cases hm'
 | _::_::_,hr,hm,hm'=>exact .inr ⟨μ,_,_,d,_,hS,hr,hm,post⟩
def fo(ms:MA):ME:=λenv S=>(ms env S).bind λp=>match p.1 with | [.int j]=>if 0<=j/\j<=1000 then Y (.lst (cT 0 j.toNat),p.2) else L | _=>L
theorem HE(n:Nat):Reps K μ H (ub n) (cT 0 n):=by
 unfold ub cT;generalize List.range n=l
 induction l with
 | nil=>exact .nil
 | cons a r ih=>rw[aak,aak,Int.zero_add];exact .cons (.int _) ih
theorem Sh{a:vx}{p p2:Pos}(hc:X.calm=true)(hm:X.mg "list" = L)(hm2:X.mg "range" = L)(hg:Gl X "list")(hg2:Gl X "range")(ha:DA X [a] ms)(hs:WP [a] X.env=[(false,eval a X.env)]) :
  DE X (.Call (.Name "list" p) [.Call (.Name "range" p2) [a] [] pos2] [] pos) (fo ms):=PE.imp (BV hc hm hm2 hg hg2 ha hs) λσ H Q z0=>by
 obtain⟨μ,S,env,d,S',hS,hE,h,post⟩:=z0;obtain⟨⟨ds,S1⟩,h1,h⟩:=aaa.mp h;refine⟨μ,S,env,ds,S1,hS,hE,h1,λvs H1 μ1 e1 s1 r1=>?_⟩;dsimp only at h;split at h
 ·rename_i j;split at h
  ·rename_i hj;cases h;obtain⟨v,rfl,rv⟩:=r1.one;exact⟨j,by rw[rv.int_inv],hj.1,hj.2,λq hq=>(post.ext e1).lst s1 hq (HE _)⟩
  ·cases h
 ·cases h
def iD(t:MT)(body:MS):Nat->be->ac->Option qW
 | 0,_,_=>L
 | f+1,env,S=>(t env S).bind λp=>if p.1=true then(body env p.2).bind λo=>match o with
   | .nx e s=>iD t body f e s
   | .ct e s=>iD t body f e s
   | .bk e s=>Y 1.58
   | .rt d s=>Y 1.56
  else Y (.nx env p.2)
def fh(t:MT)(body:MS):MS:=iD t body 5000
theorem RM(hp:PassesOwn 0.2 X.A X.env X.xe)(hc:DT X c t)(hb:zQ X body mb):DS X (.While c body [] pos) (fh t mb):=PS.imp (OT hp hc hb) λE σ H z0=>by
 obtain⟨μ,S,env,o,hS,hE,hm,post⟩:=z0;refine⟨λn=>XH X.K μ H (λμ H o=>PostS X.K μ H o E) (iD t mb n),⟨5000,μ,S,env,o,hS.ext,hS,hE,hm,post⟩,?_⟩;rintro n σ' H' ⟨μ',S',env',o',e',s',r',hl,post'⟩;cases n with
 | zero=>cases hl
 | succ n=>
  obtain⟨⟨b,S1⟩,h1,hl⟩:=aaa.mp hl;refine⟨μ',S',env',b,S1,s',r',h1,λH2 μ2 e2 s2=>?_⟩;have eT:Ext μ H μ2 H2:=e'.trans e2;have pT:PostS X.K μ2 H2 o' E:=post'.ext e2;cases b with
  | false=>cases hl;dsimp only;rw[if_neg aeQ];exact pT σ' H2 μ2 s2.ext s2 (r'.mono e2)
  | true=>
   dsimp only;rw[aas rfl];obtain⟨o4,h4,hl⟩:=aaa.mp hl;refine⟨XH X.K μ H (λμ H o=>PostS X.K μ H o E) (iD t mb n),λσ2 H2 z=>⟨n,by omega,z⟩,?_⟩;refine⟨μ2,S1,env',o4,s2,r'.mono e2,h4,?_⟩;cases o4 with
   | nx e5 s5=>exact λσ6 H6 μ6 e6 s6 r6=>⟨μ6,s5,e5,o',eT.trans e6,s6,r6,hl,pT.ext e6⟩
   | ct e5 s5=>exact λσ6 H6 μ6 e6 s6 r6=>⟨μ6,s5,e5,o',eT.trans e6,s6,r6,hl,pT.ext e6⟩
   | bk e5 s5=>cases hl;exact pT
   | rt d5 s5=>cases hl;exact pT
end
inductive TabRel:List (cf×ce)->List (cf×D)->Prop
 | nil:TabRel [] []
 | cons {k:cf} {v:ce} {d:D} {vs:List (cf×ce)} {ds:List (cf×D)} (x:V) (h:RelV x v) (r:∀ K μ H,Rep K μ H x d) (t:TabRel vs ds):TabRel ((k,v)::vs) ((k,d)::ds)
theorem TabRel.val{k:cf}:∀ {vs ds},TabRel vs ds->∀ {d},kS ds k=Y d->∃ v x,valueAt vs k=Y v/\RelV x v/\∀ K μ H,Rep K μ H x d
 | _,_,.nil,d,h=>by cases h
 | _,_,.cons (k:=k') (v:=v) x h r t,d,q=>by
  unfold kS at q;split at q
  ·rename_i e;cases q;refine⟨v,x,?_,h,r⟩;simp only at e;simp[valueAt,e]
  ·rename_i e;obtain⟨v',x',h1,h2,h3⟩:=TabRel.val t q;refine⟨v',x',?_,h2,h3⟩;simp only at e;rw[<- h1];simp[valueAt,e]
structure yU(w:Qa)(K:aeO)(mg:Str->Option ce)(x:Str)(l:List (cf×D)):Prop where
 ex:∃ (a:tx) (vs:List (cf×ce)),mg x=Y (.ref a)/\(∀ (P:Op) (h:TF),K.In h->h.DictOf (da P w) a vs)/\TabRel vs l
section
variable{X:Cx}
theorem Qx(hd:∀ (P:Op) (h:TF),X.K.In h->h.DictOf (da P X.w) a vs):IxR X (λx y H Q=>∃ k v z,x=.ref a/\y=kV k/\valueAt vs k=Y v/\RelV z v/\Q z H):=by
 intro value slice pins s σ H x y v u Q I rx ry h hs;obtain⟨k,v',z,rfl,rfl,hv,rz,q⟩:=h;cases rx;have dd:=hd X.prog s.heap I.kIn;exact adS dd.typeIs F.slot_dict_getitem.lookup (wpAny_getItem_of (FH ry) dd.mapOf hv ⟨z,H,I.tok _,rz,q⟩) hs
def dU(l:List (cf×D))(mi:ME):ME:=λenv S=>(mi env S).bind λp=>(gE p.1).bind λk=>(kS l k).bind λd=>Y (d,p.2)
theorem Sd(g:yU X.w X.K X.mg x l)(hg:Gl X x)(hx:(x==("__debug__":Str))=false)(hi:DE X i mi)(hs:qx i:=by intro q q;rfl):DE X (.Subscript 6.0 i pos) (dU l mi):=by
 obtain⟨a,vs,h1,h2,h3⟩:=g.ex;refine PE.imp (Pg (Qx h2) (BW (v:=.ref a) hg h1 rfl hx) hi hs) λσ H Q ⟨μ,S,env,d,S',hS,hE,hm,post⟩=>?_;obtain⟨⟨y,S1⟩,e1,hm⟩:=aaa.mp hm;obtain⟨k,e2,hm⟩:=aaa.mp hm;obtain⟨d',e3,hm⟩:=aaa.mp hm;cases hm;obtain⟨v,z,v1,v2,v3⟩:=h3.val e3;exact⟨μ,S,env,y,_,hS,hE,e1,λu H1 μ1 ex s1 r1=>⟨k,v,z,rfl,qc e2 r1,v1,v2,post _ H1 μ1 ex s1 (v3 _ _ _)⟩⟩
end
theorem DN{K:aeO}(hl:K.lookup a=Y ⟨.type "dict",L,.dict es n,#[]⟩)(hp:∀ P,Pairs (da P w) es.toList vs)(hk:∀ P,KeysOf (da P w) es)(hn:(vs.map (·.1)).Nodup) :
  ∀ (P:Op) (h:TF),K.In h->h.DictOf (da P w) a vs:=λP h KX=>⟨_,es,n,KX a _ hl,⟨rfl,rfl,rfl⟩,rfl,hk P,hp P,hn⟩
inductive TabLit(w:Qa):List DictEntry->List (cf×ce)->Prop
 | nil:TabLit w [] []
 | cons {x:Str} {t:Tok} {v:ce} {es:List DictEntry} {vs:List (cf×ce)} (h:TabLit w es vs):TabLit w (⟨PyData.keyHash w.params x,.str x t,v⟩::es) ((.inr x,v)::vs)
theorem TabLit.pairs:∀ {es vs},TabLit w es vs->Pairs (da P w) es vs
 | _,_,.nil=>.nil
 | _,_,.cons (x:=x) (t:=t) h=>.cons (FH (k:=.inr x) (show RelV (V.str x) (Value.str x t) from ⟨t,rfl⟩)) rfl h.pairs
theorem TabLit.keys:∀ {es vs},TabLit w es vs->∀ e∈es,∃ k,(da P w).is k e.key=true/\e.hash=(da P w).hash k
 | _,_,.nil,e,h=>by simp at h
 | _,_,.cons (x:=x) (t:=t) h,e,he=>by
  rcases aaC.mp he with rfl | he
  ·exact⟨.inr x,FH (k:=.inr x) (show RelV (V.str x) (Value.str x t) from ⟨t,rfl⟩),rfl⟩
  ·exact h.keys e he
theorem Og{K:aeO}{mg:Str->Option ce}{es:List DictEntry}(hg:mg x=Y (.ref a))(hl:K.lookup a=Y ⟨.type "dict",L,.dict es.toArray n,#[]⟩)(t:TabLit w es vs)(hn:(vs.map (·.1)).Nodup)(r:TabRel vs l):yU w K mg x l:=
 ⟨a,vs,hg,DN hl (λP=>by simpa using t.pairs) (λP e he=>t.keys e (by simpa using he)) hn,r⟩
section
variable{X:Cx}{K:aeO}{μ:Fp}{H:Hp}{S:ac}
def pH:MF:=λo ds S=>match ds with
 | [x]=>if uo S o=true then(kg S o).bind λys=>if cy 40 x=true/\ys.all (cy 39)=true/\ys.length<=Vj then(ys.findIdx? λd=>gJ d x).bind λj=>Y (.int (j:Nat),S) else L else L
 | _=>L
theorem yJ{s:gV}(I:Inv X pins σ H s):∀ {vs:List V} {us:List ce} {ds:List D},Vals vs us->Reps X.K μ H vs ds->(∀ d∈ds,cy 39 d=true) ->
  us.map (fR X.K μ H x)=ds.map λd=>gJ d x
 | _,_,_,.nil,.nil,_=>rfl
 | _,_,_,.cons rv tv,.cons r t,ok=>by
  rw[aak,aak,tK I rv r (ok _ aad),yJ I tv t λd m=>ok d 1.51]
theorem Pz(hu:X.A.units+64<cLine):MtR X "list.index" (TC X.K pH):=by
 intro pins s σ H x vs v us Q I rx rv h;obtain⟨μ,S,dx,ds,d,S',hS,r1,r2,h,post⟩:=h;unfold pH at h;split at h
 ·rename_i y;split at h
  ·rename_i hl;obtain⟨a,ws,es,rfl,hq,hse,re⟩:=sP hS r1 hl;rw[hse] at h;dsimp only[Option.bind_some] at h;split at h
   ·rename_i hk;obtain⟨j,hj,h⟩:=aaa.mp h;cases h;cases rx;obtain⟨w,rfl,rw0⟩:=r2.one;obtain⟨u,rfl,ru⟩:=rv.one;obtain⟨its,rvs,⟨⟨cls,dd,data,sl⟩,n,e,hc,hdd,hd⟩,hz⟩:=I.list hq;simp only at hc hdd hd;subst hc hdd hd;have ok:=aav.mp hk.2.1;have em:=yJ (x:=y) I rvs re ok;have ln:its.length=es.length:=by rw[<- re.length,rvs.length]
    obtain⟨hj1,hj2,hj3⟩:=adf.mp hj
    have at_:∀ (m:Nat) (h1:m<its.length) (h2:m<es.length),fR X.K μ H y its[m]=gJ es[m] y:=λm h1 h2=>by
     have:(its.map 1.75)[m]?=(es.map λd=>gJ d y)[m]?:=by rw[em]
     rw[abv,abv,aag h1,aag h2] at this;simpa using this
    have sz:Vj<2^63 - 1:=by decide
    refine aco F.slot_list_index ⟨_,e,rfl⟩ F.entry_list_index (F.args_list_index_2 _ _) (SeqAt.list_indexAt a its.toArray n L sl u 1.75 j (by simpa[ln] using hj1) (by have:=hk.2.2;omega) ?_ ?_) ⟨e,λw' hw'=>?_,?_⟩
    ·rw[aes,at_ j 0.0 hj1];exact hj2
    ·intro m hm hmj;rw[aes,at_ m (by simpa using hm) 0.0];have:=hj3 m hmj;simpa using this
    ·exact ip I (by show X.A.units+1+40<cLine;omega) ru rw0 hk.1 rvs re ok w' (by simpa using hw')
    ·exact⟨.int _,H,I.tok _,⟨_,rfl⟩,post.here hS (.int _)⟩
   ·cases h
  ·cases h
 ·cases h
end
end M
namespace L2
def qak(e iter:vx)(acc:ce)(env:Env):Sem Unit:=do
 let x <- eval iter env
 standAt iter.pos
 let x <- Yx iter env x;let it <- holding [x] (pyIter x);let _ <- runOwn (.compStart e 1 it acc env) env
 pure ()
theorem qS(elt tg iter tg2 iter2:vx)(ifs ifs2:List vx)(scope:Scope)(pos:Pos)(it acc:ce)(env:Env) :
  compTurn (.ListComp elt [⟨tg,iter,ifs,0⟩,⟨tg2,iter2,ifs2,0⟩] scope pos) 0 it acc env=oH (.ListComp elt [⟨tg,iter,ifs,0⟩,⟨tg2,iter2,ifs2,0⟩] scope pos) tg iter.pos ifs 0 it acc env (qak (.ListComp elt [⟨tg,iter,ifs,0⟩,⟨tg2,iter2,ifs2,0⟩] scope pos) iter2 acc env):=by
 unfold oH qak;simp only[bind_assoc,pure_bind];rfl
theorem zN(elt tg iter tg2 iter2:vx)(ifs ifs2:List vx)(scope:Scope)(pos:Pos)(it acc:ce)(env:Env) :
  compTurn (.ListComp elt [⟨tg,iter,ifs,0⟩,⟨tg2,iter2,ifs2,0⟩] scope pos) 1 it acc env=oH (.ListComp elt [⟨tg,iter,ifs,0⟩,⟨tg2,iter2,ifs2,0⟩] scope pos) tg2 iter2.pos ifs2 1 it acc env (RD elt acc env):=rfl
theorem oA{s:gV}{g1:Comprehension}{tg2 iter2:vx}{ifs2:List vx}
  (h0:codeAny 1.0 A (.compLoop (.ListComp elt [g1,⟨tg2,iter2,ifs2,0⟩] scope pos) 1 it acc env) R s)
  (h:aeN 1.0 A (pyIter it) (λit' s'=>codeAny 1.0 A (.compLoop (.ListComp elt [g1,⟨tg2,iter2,ifs2,0⟩] scope pos) 1 it' acc env) R s') (notedBy 1.0 A env λx s'=>R (.error x) s') s) :
  codeAny 1.0 A (.compStart (.ListComp elt [g1,⟨tg2,iter2,ifs2,0⟩] scope pos) 1 it acc env) R s:=by
 refine codeAny_of_tree ?_;refine wpAny_notedAt ?_;show aeN _ _ (compStart _ 1 _ _ _) _ _ _;refine aab (wpAny_askSetting (wpAny_ite ?_));by_cases hq:({ program:=(model prog w).prog,params:=(model prog w).w.params:Setting }.params.followText "comprehension-iter-twice")=true
 ·rw[aas hq];exact aab (aam (aam ⟨rfl,h0⟩))
 ·rw[if_neg hq];exact aab (adJ (aab (abF (aab (aaO h (λit' s' h'=>aam ⟨rfl,h'⟩) λq q z=>z)))))
def tIn(wi:TI)(g:TG)(tt:TT)(te:TE)(p:tx):TB:=λσ H Q=>wi σ H λJ H1=>Hg J g tt (tEm te p) σ H1 Q
theorem WS{X:Cx}{tg iter:vx}{ifs:List vx}(hc:X.calm=true)(hx:∀ e s,X.xe e s->False)
  (hi:PI X tg2 iter2 wi) (hg:PG X tg2 g) (ht:SU X ifs2 tt) (he:PE X elt te) (hs:∀ x,Yx iter2 X.env x=pure x) :
  PB X (qak (.ListComp elt [⟨tg,iter,ifs,0⟩,⟨tg2,iter2,ifs2,0⟩] scope pos) iter2 (.ref p) X.env) (tIn wi g tt te p):=λpins s σ H Q I h=>by
 refine aab (dO 1.70 λx s1 h1=>aab (abF ?_));rw[hs];refine aab (aam (aab (abe (dO h1 λitv s2 h2=>?_))));obtain⟨it,fp,tn,J,H1,e,I2,T,st2,f2,hL⟩:=h2;subst e;have loop:=Bh (d:=1) hc hx rfl (zN elt tg iter tg2 iter2 ifs ifs2 scope pos _ _ _) hg ht (BX (p:=p) he) T I2 st2 f2 hL;refine aab (wpAny_runOwn ?_);rw[Around.mark_none];refine abY (oA loop (T.self _ 0 _ _ _ st2 loop)) λr s' ⟨σ',H',hr,J',q'⟩=>?_;subst hr;exact aam ⟨σ',H',J',q'⟩
end L2
namespace M
open L2
section
variable{X:Cx}{K:aeO}{H:Hp}{pos:Pos}
inductive iMs(K:aeO)(m:MA)(σ:L2.St)(H:Hp)(R:It->Hp->Prop):Prop
 | mk (μ:Fp) (S:ac) (env:be) (xs:List D) (S':ac) (hS:SOk K μ S H) (hE:EOk K μ H σ env) (h:m env S=Y (xs,S')) (post:∀ J H' μ',Ext μ H μ' H'->SOk K μ' S' H'->(∀ μ2 H2,(∀ v d,Rep K μ' H' v d->Rep K μ2 H2 v d)->NP K μ2 H2 J xs)->R J H')
def XI(X:Cx)(tg iter:vx)(m:MA):Prop:=PI X tg iter (iMs X.K m)
theorem Jx{a:vx}{p:Pos}(hm:X.mg "range" = L)(ha:DA X [a] ms)(hg:Gl X "range":=by rfl)(hs:WP [a] X.env=[(false,eval a X.env)]:=by rfl):XI X tg (.Call (.Name "range" p) [a] [] pos) (cD ms):=
 PI.imp (Al hg hm ha hs) λσ H R z0=>by
  obtain⟨μ,S,env,xs,S',hS,hE,hm,post⟩:=z0;obtain⟨⟨ds,S1⟩,h1,hm⟩:=aaa.mp hm;refine⟨μ,S,env,ds,S1,hS,hE,h1,λvs H1 μ1 e1 s1 r1=>?_⟩;dsimp only at hm;split at hm
  ·split at hm
   ·rename_i hb;cases hm;obtain⟨v,rfl,r⟩:=r1.one;exact⟨_,by rw[r.int_inv],hb.1,hb.2,post _ H1 μ1 e1 s1 λz z z=>xZ 0 _⟩
   ·cases hm
  ·cases hm
theorem VQ(h:DE X iter m):XI X tg iter (cR m):=PI.imp (Pc h) λσ H R z0=>by
 obtain⟨μ,S,env,xs,S',hS,hE,hm,post⟩:=z0;obtain⟨⟨d,S1⟩,h1,hm⟩:=aaa.mp hm;refine⟨μ,S,env,d,S1,hS,hE,h1,λv H1 μ1 e1 s1 r1=>?_⟩;cases d with
 | lst ys=>
  cases hm;have r1':=r1;obtain⟨a,vs,rfl,q,z,rs⟩:=r1.sqL;exact⟨a,rfl,.inl ⟨⟨vs,.inl (.inl q)⟩,post _ H1 μ1 e1 s1 λz z f=>qe 3.7 (f _ _ r1') rfl⟩⟩
 | tup ys=>
  cases hm;have r1':=r1;obtain⟨a,vs,rfl,q,rs⟩:=r1.sqT;exact⟨a,rfl,.inr ⟨⟨vs,q⟩,post _ H1 μ1 e1 s1 λz z f=>FP (f _ _ r1')⟩⟩
 | rol ys=>
  cases hm;have r1':=r1;obtain⟨a,vs,rfl,q,rs⟩:=r1.sqR;exact⟨a,rfl,.inl ⟨⟨vs,q⟩,post _ H1 μ1 e1 s1 λz z f=>qe (.inr rfl) (f _ _ r1') rfl⟩⟩
 | _=>cases hm
def kj(g:MG)(t:MT)(e:ME):List D->be->ac->Option (List D×be×ac)
 | [],env,S=>Y ([],env,S)
 | d::ds,env,S=>(g d env S).bind λp=>(t p.1 p.2).bind λb=>if b.1=true then(e p.1 b.2).bind λq=>(kj g t e ds p.1 q.2).bind λr=>Y (q.1::r.1,r.2) else kj g t e ds p.1 b.2
def ju(g:MG)(t:MT)(mi2:MA)(g2:MG)(t2:MT)(e:ME):List D->be->ac->Option (List D×ac)
 | [],_,S=>Y ([],S)
 | d::ds,env,S=>(g d env S).bind λp=>(t p.1 p.2).bind λb=>if b.1=true then(mi2 p.1 b.2).bind λq=>(kj g2 t2 e q.1 p.1 q.2).bind λr=>(ju g t mi2 g2 t2 e ds r.2.1 r.2.2).bind λz=>Y (r.1++z.1,z.2) else ju g t mi2 g2 t2 e ds p.1 b.2
def dL(mi:MA)(g:MG)(t:MT)(mi2:MA)(g2:MG)(t2:MT)(e:ME)(cap:List 4.7):ME:=λenv S=>(mi env S).bind λp=>(ju g t mi2 g2 t2 e p.1 1.43 p.2).bind λq=>if q.1.length<=Vj then Y (.lst q.1,q.2) else L
structure CpI(K:aeO)(μ1:Fp)(H1:Hp)(p:tx)(σ:L2.St)(H:Hp)(cs:List tx)(S:ac)(env:be)(vs:List V)(zs:List D):Prop where
 ext:ExtP μ1 H1 ⟨cs,p::μ1.fb⟩ H
 sok:SOk K ⟨cs,p::μ1.fb⟩ S H
 eok:EOk K ⟨cs,p::μ1.fb⟩ H σ env
 lst:H p=Y 8.2
 rep:Reps K ⟨cs,p::μ1.fb⟩ H vs zs
theorem CpI.go{H:Hp}{cs':List tx}(c:CpI K μ1 H1 p σ H cs S env vs zs)(e:Ext ⟨cs,p::μ1.fb⟩ H ⟨cs',p::μ1.fb⟩ H')(s:SOk K ⟨cs',p::μ1.fb⟩ S' H')(r:EOk K ⟨cs',p::μ1.fb⟩ H' σ' env'):CpI K μ1 H1 p σ' H' cs' S' env' vs zs:=
 ⟨c.ext.then e,s,r,(e.keeps c.lst λz=>c.sok.disj p aad z).1,c.rep.mono e⟩
theorem CpI.app{H:Hp}{d:D}(c:CpI K μ1 H1 p σ H cs S env vs zs)(hp:H1 p=L)(r:Rep K ⟨cs,p::μ1.fb⟩ H v d):CpI K μ1 H1 p σ (upd H p (.lst (vs++[v]))) cs S env (vs++[v]) (zs++[d]):=
 ⟨c.ext.chg hp,c.sok.chg aad,c.eok.chg aad,bB,Reps.chg aad (c.rep.append (.cons r .nil))⟩
noncomputable abbrev CoJ(K:aeO)(μ1:Fp)(H1:Hp)(p:tx)(f:List D->be->ac->Option (List D×ac))(xs ys:List D)(S9:ac)(i n:Nat)(σ':L2.St)(H':Hp):Prop:=n=xs.length - i/\i<=xs.length/\∃ (cs:List tx) (S':ac) (env':be) (vs:List V) (zs rest:List D),CpI K μ1 H1 p σ' H' cs S' env' vs zs/\f (xs.drop i) env' S'=Y (rest,S9)/\ys=zs++rest
noncomputable abbrev CeJ(K:aeO)(μ1:Fp)(H1:Hp)(p:tx)(cs5:List tx)(H5:Hp)(f:List D->be->ac->Option (List D×be×ac))(us ys:List D)(env6:be)(S6:ac)(j n:Nat)(σ':L2.St)(H':Hp):Prop:=n=us.length - j/\j<=us.length/\∃ (cs:List tx) (S':ac) (env':be) (vs:List V) (zs' rest:List D),CpI K μ1 H1 p σ' H' cs S' env' vs zs'/\(∀ v d,Rep K ⟨cs5,p::μ1.fb⟩ H5 v d->Rep K ⟨cs,p::μ1.fb⟩ H' v d)/\f (us.drop j) env' S'=Y (rest,env6,S6)/\ys=zs'++rest
theorem zY(h:tM K (dL mi g t mi2 g2 t2 e cap) σ H Q):wM (iM K mi) (Oi K g) (DB K t) (tIn (iMs K mi2) (Oi K g2) (DB K t2) (tM K e)) cap σ H Q:=by
 obtain⟨μ,S,env,d,S9,hS,hE,hm,post⟩:=h;obtain⟨⟨xs,S1⟩,h1,hm⟩:=aaa.mp hm;obtain⟨⟨ys,S2⟩,h2,hm⟩:=aaa.mp hm;dsimp only at hm;split at hm
 case isFalse=>cases hm
 rename_i hsz;cases hm;refine⟨μ,S,env,xs,S1,hS,hE,h1,λJ H1 μ1 e1 s1 it p hp=>?_⟩;have hpn:=s1.notMem hp
 refine⟨CoJ K μ1 H1 p (ju g t mi2 g2 t2 e) xs ys S9,
  ⟨xs.length,by simp,acy _,μ1.cs,S1,oB cap env,[],[],ys,⟨?_,s1.more hp,((hE.mono e1).block cap).more hp,bB,.nil⟩,by rw[abR];exact h2,rfl⟩,?_⟩
 ·exact⟨⟨[p],rfl,λa z=>by rw[aaw.mp z];exact hp⟩,⟨[],by simp,λw z=>by simp at z⟩,λa o' n h=>by rw[bh (cJ h hp)];exact h,λa ha=>by
   by_cases z:a=p
   ·subst z;rw[bB];simp
   ·rw[bh z];exact s1.dom a ha⟩
 rintro i n σ' H' ⟨rfl,hi,cs,S',env',vs,zs,rest,c,hl,rfl⟩;have iti:=it _ H' S' c.ext c.sok i;by_cases hlt:i<xs.length
 ·refine .inr ⟨(iti.1 xs[i] 1.52).1,λx H2 y=>?_⟩;obtain⟨e2,s2,rx⟩:=(iti.1 xs[i] 1.52).2 x H2 y;rw[abw hlt] at hl;obtain⟨⟨env3,S3⟩,h3,hl⟩:=aaa.mp hl;obtain⟨⟨b,S4⟩,h4,hl⟩:=aaa.mp hl;refine⟨_,S',env',xs[i],env3,S3,s2,c.eok.mono e2,rx,h3,λσ3 H3 μ3 e3 s3 r3=>⟨μ3,S3,env3,b,S4,s3,r3,h4,λH4 μ4 e4 s4=>?_⟩⟩;have eA:=(e2.trans e3).trans e4;obtain⟨cs4,fb4⟩:=μ4;have hfb:fb4=p::μ1.fb:=eA.fb;subst hfb;have c4:=c.go eA s4 (r3.mono e4);cases b with
  | false=>
   rw[if_neg aeQ] at hl;rw[if_neg aeQ];exact⟨xs.length - (i+1),by omega,rfl,hlt,cs4,S4,env3,vs,zs,rest,c4,hl,rfl⟩
  | true=>
   rw[aas rfl] at hl;rw[aas rfl];obtain⟨⟨us,S5⟩,h5,hl⟩:=aaa.mp hl;obtain⟨⟨ws,env6,S6⟩,h6,hl⟩:=aaa.mp hl;obtain⟨⟨rs,S7⟩,h7,hl⟩:=aaa.mp hl;cases hl;refine⟨_,S4,env3,us,S5,s4,r3.mono e4,h5,λJ2 H5 μ5 e5 s5 it2=>?_⟩;obtain⟨cs5,fb5⟩:=μ5;have hfb:fb5=p::μ1.fb:=e5.fb;subst hfb
   refine⟨CeJ K μ1 H1 p cs5 H5 (kj g2 t2 e) us (zs++ws) env6 S6,
    ⟨us.length,by simp,acy _,cs5,S5,env3,vs,zs,ws,c4.go e5 s5 (c4.eok.mono e5),λw w z=>z,by rw[abR];exact h6,rfl⟩,?_⟩
   rintro j n σ' H' ⟨rfl,hj,cs,S',env',vs',zs',rest',c',rk,hl',hz⟩;have itj:=it2 _ _ rk _ H' S' c'.sok.ext.toP c'.sok j;by_cases hlj:j<us.length
   ·refine .inr ⟨(itj.1 us[j] (aag hlj)).1,λx2 H2 y2=>?_⟩;obtain⟨f2,q2,rx2⟩:=(itj.1 us[j] (aag hlj)).2 x2 H2 y2;rw[abw hlj] at hl';obtain⟨⟨env3',S3'⟩,k3,hl'⟩:=aaa.mp hl';obtain⟨⟨b',S4'⟩,k4,hl'⟩:=aaa.mp hl';refine⟨_,S',env',us[j],env3',S3',q2,c'.eok.mono f2,rx2,k3,λσ3 H3 μ3 e3 s3 r3=>⟨μ3,S3',env3',b',S4',s3,r3,k4,λH4 μ4 e4 s4=>?_⟩⟩;have eA:=(f2.trans e3).trans e4;obtain⟨cs4,fb4⟩:=μ4;have hfb:fb4=p::μ1.fb:=eA.fb;subst hfb;have c4:=c'.go eA s4 (r3.mono e4);cases b' with
    | false=>
     rw[if_neg aeQ] at hl';rw[if_neg aeQ];exact⟨us.length - (j+1),by omega,rfl,hlj,cs4,S4',env3',vs',zs',rest',c4,λv d z=>(rk v d z).mono eA,hl',hz⟩
    | true=>
     rw[aas rfl] at hl';rw[aas rfl];obtain⟨⟨dv,S8⟩,k5,hl'⟩:=aaa.mp hl';obtain⟨⟨rs',q8⟩,k6,hl'⟩:=aaa.mp hl';cases hl';refine⟨_,S4',env3',dv,S8,s4,c4.eok,k5,λv H5 μ5 e5 s5 r5=>?_⟩;obtain⟨cs5,fb5⟩:=μ5;have hfb:fb5=p::μ1.fb:=e5.fb;subst hfb;have c5:=c4.go e5 s5 (c4.eok.mono e5);have hv:=c5.rep.length;have hlen:=congrArg List.length hz;simp only[aau,aar] at hlen hsz;exact⟨vs',c5.lst,by omega,us.length - (j+1),by omega,rfl,hlj,cs5,S8,env3',vs'++[v],zs'++[dv],rs',c5.app hp r5,λv d z=>Rep.chg aad ((((rk v d z).mono eA)).mono e5),k6,by rw[hz];simp⟩
   ·have e:j=us.length:=by omega
    subst e;rw[acv] at hl';cases hl';rw[aaN] at hz;subst hz;exact .inl ⟨itj.2 (aal _),xs.length - (i+1),by omega,rfl,hlt,cs,S6,env6,vs',zs++ws,rs,c',h7,by simp⟩
 ·have e:i=xs.length:=by omega
  subst e;refine .inl ⟨iti.2 (aal _),?_⟩;rw[acv] at hl;cases hl;have eF:Ext μ1 H1 ⟨cs,μ1.fb⟩ H':=⟨rfl,c.ext.pre,c.ext.keep,c.ext.dom⟩
  rw[aaN] at post;exact post _ H' ⟨cs,μ1.fb⟩ (e1.trans eF) c.sok.less (.lst c.lst ⟨λz=>c.sok.disj p aad z,hpn.2⟩ c.rep.less)
variable{elt tg iter tg2 iter2:vx}{ifs ifs2:List vx}{scope:Scope}{spos py:Pos}{N':List Str}{cap:List (Option Nat)}{mi mi2:MA}{g g2:MG}{t t2:MT}{me:ME}{y:Str}{i:Nat}
theorem Sj(hc:X.calm=true)(B:BlockOk X N' scope cap)(hi:DI X tg iter mi)(hg:∀ C s H fp,DG 0.6 tg g)(ht:∀ C s H fp,NW 0.6 ifs t)
  (hi2:∀ C s H fp,XI 0.6 tg2 iter2 mi2) (hg2:∀ C s H fp,DG 0.6 tg2 g2) (ht2:∀ C s H fp,NW 0.6 ifs2 t2) (he:∀ C s H fp,DE 0.6 elt me)
  (hs:∀ x,Yx iter X.env x=pure x) (hs2:∀ env x,Yx iter2 env x=pure x):DE X (.ListComp elt [⟨tg,iter,ifs,0⟩,⟨tg2,iter2,ifs2,0⟩] scope pos) (dL mi g t mi2 g2 t2 me cap):=
 PE.imp (Es (g:=Oi X.K g) (tt:=DB X.K t) (tb:=tIn (iMs X.K mi2) (Oi X.K g2) (DB X.K t2) (tM X.K me)) hc B hi hg ht (λw w w=>qS ..) (λC s H fp p=>WS hc (λw w z=>z) (hi2 C s H fp) (hg2 C s H fp) (ht2 C s H fp) (he C s H fp) (hs2 _)) hs) λw w w h=>zY h
theorem Gw(hN:X.N.Nodup)(hy:X.N[i]?=Y y)(hx:NV X.env.scope y)
  (hc:X.calm=true) (B:BlockOk X N' scope cap) (hi:DI X tg iter mi) (hg:∀ C s H fp,DG 0.6 tg g) (ht:∀ C s H fp,NW 0.6 ifs t)
  (hi2:∀ C s H fp,XI 0.6 tg2 iter2 mi2) (hg2:∀ C s H fp,DG 0.6 tg2 g2) (ht2:∀ C s H fp,NW 0.6 ifs2 t2) (he:∀ C s H fp,DE 0.6 elt me)
  (hsw:swapsWith (.ListComp elt [⟨tg,iter,ifs,0⟩,⟨tg2,iter2,ifs2,0⟩] scope pos) 1.02 spos.line X.env=pure true)
  (hs:∀ x,Yx iter X.env x=pure x) (hs2:∀ env x,Yx iter2 env x=pure x) (hf:X.fn y=true\/X.env.scope.names.lookup y=Y .local) :
  DS X (.Assign [.Name y py] (.ListComp elt [⟨tg,iter,ifs,0⟩,⟨tg2,iter2,ifs2,0⟩] scope pos) spos) (aT (dL mi g t mi2 g2 t2 me cap) (aj i)):=
 PS.imp (uQ (g:=Oi X.K g) (tt:=DB X.K t) (tb:=tIn (iMs X.K mi2) (Oi X.K g2) (DB X.K t2) (tM X.K me)) hN hy hx hc B hi hg ht (λw w w=>qS ..) (λC s H fp p=>WS hc (λw w z=>z) (hi2 C s H fp) (hg2 C s H fp) (ht2 C s H fp) (he C s H fp) (hs2 _)) hsw hs hf) λE σ H h=>by
  obtain⟨μ,S,env,o,hS,hE,hm,post⟩:=h;obtain⟨⟨d,S1⟩,h1,hm⟩:=aaa.mp hm;cases hm;exact zY ⟨μ,S,env,d,S1,hS,hE,h1,λv H1 μ1 e1 s1 r1=>post _ H1 μ1 e1 s1 ((hE.mono e1).set r1 i)⟩
end
structure WC(P:Op)(w:Qa)(K:aeO)(mg:Str->Option ce)(base:TF)(k:Nat)(a:tx)(n:Nat)(f:List D->ac->Option (D×ac)):Prop where
 ex:∃ (fd:FuncData) (ps:List Str),ps.length=n/\FnOk P w K mg base GX k a fd ps (OA K n f)/\W.keepIn K (.ref a)=true/\Binds K fd ps []
theorem Fn.at{K:aeO}{k:Nat}(F:Fn P w K mg base k x n f)(h:mg x=Y (.ref a)):WC P w K mg base k a n f:=by
 obtain⟨b,fd,ps,h1,h2,h3,h4,h5⟩:=F.ex;rw[h] at h3;cases h3;exact⟨fd,ps,h1,h2,h4,h5⟩
inductive FRel(P:Op)(w:Qa)(K:aeO)(mg:Str->Option ce)(base:TF)(k:Nat):List (cf×ce)->List (cf×Nat×(List D->ac->Option (D×ac)))->Prop
 | nil:FRel P w K mg base k [] []
 | cons {y:cf} {a:tx} {n:Nat} {f:List D->ac->Option (D×ac)} {vs:List (cf×ce)} {l:List (cf×Nat×(List D->ac->Option (D×ac)))} (h:WC P w K mg base k a n f) (t:FRel P w K mg base k vs l):FRel P w K mg base k ((y,.ref a)::vs) ((y,n,f)::l)
def DK:List (cf×Nat×(List D->ac->Option (D×ac)))->cf->Option (Nat×(List D->ac->Option (D×ac)))
 | [],_=>L
 | (y,p)::l,k=>if y=k then Y p else DK l k
section
variable{P:Op}{w:Qa}{K:aeO}{mg:Str->Option ce}{base:TF}{k:Nat}
theorem FRel.val:∀ {vs l},FRel P w K mg base k vs l->DK l y=Y p->∃ a,valueAt vs y=Y (.ref a)/\WC P w K mg base k a p.1 p.2
 | _,_,.nil,q=>by cases q
 | _,_,.cons (y:=y') (a:=a) h t,q=>by
  unfold DK at q;split at q
  ·rename_i e;cases q;exact⟨a,by simp[valueAt,e],h⟩
  ·rename_i e;obtain⟨b,h1,h2⟩:=FRel.val t q;refine⟨b,?_,h2⟩;rw[<- h1];simp[valueAt,e]
structure FTab(P:Op)(w:Qa)(K:aeO)(mg:Str->Option ce)(base:TF)(k:Nat)(x:Str)(l:List (cf×Nat×(List D->ac->Option (D×ac)))):Prop where
 ex:∃ (a:tx) (vs:List (cf×ce)),mg x=Y (.ref a)/\(∀ (P:Op) (h:TF),K.In h->h.DictOf (da P w) a vs)/\FRel P w K mg base k vs l
end
theorem EOk.setN{K:aeO}:∀ {σ:L2.St} {env:be} (i:Nat),EOk K μ H σ env->EOk K μ H (σ.set i x) 1.63
 | _,_,_,.nil=>.nil
 | _,_,0,.no t=>.no t
 | _,_,0,.yes _ t=>.no t
 | _,_,i+1,.no t=>.no (EOk.setN i t)
 | _,_,i+1,.yes h t=>.yes h (EOk.setN i t)
section
variable{X:Cx}{k i:Nat}{x b:Str}{e ix:vx}{es:List vx}{mi:ME}{ms:MA}{p pb pt ps pa pc pr:Pos}{l:List (cf×Nat×(List D->ac->Option (D×ac)))}
theorem Pl(hN:X.N[i]?=Y b)(hv:Wz X.env.scope b)(hr:Room k X.A)(ha:PA X (e::es) t)(hd:(b==("__debug__":Str))=false)(hc:(b==("__classdict__":Str))=false)
  (he:WP (e::es) X.env=(false,eval e X.env)::WP es X.env) (hpl:(backTo pc 2.2).any (·.1)=false) :
  PE X (.Call (.Name b p) (e::es) [] pc) (λσ H Q=>∃ a n f,σ[i]?=Y (Y (.ref a))/\WC X.prog X.w X.K X.mg X.base k a n f/\Aa (OA X.K n f) [] E0 t σ H Q):=by
 intro pins s σ H Q I ⟨a,n,f,hσ,F,h⟩;obtain⟨fd,qs,hn,F,hk,hb⟩:=F.ex;refine abT (dO (HL hN hv hd hc pins s σ H (λv H'=>v=.ref a/\H'=H) I ⟨_,hσ,rfl,rfl⟩) λu s1 ⟨v,H1,I1,r,e1,e2⟩=>?_);subst e1 e2;cases r;refine aek (h₀:=X.base) I1.ok.mod.kin hk (dO (ha pc pins s1 σ H1 _ I1 h) λus s2 ⟨vs,H2,I2,r2,q⟩=>⟨I2.kIn,?_⟩) he hpl;exact HA F hr hb .nil Pn I2 r2 q
def jJ(l:List (cf×Nat×(List D->ac->Option (D×ac))))(i:Nat)(mi:ME)(ms:MA):MS:=λenv S=>(mi env S).bind λp=>(gE p.1).bind λk=>(DK l k).bind λq=>(ms 1.63 p.2).bind λr=>if r.1.length=q.1 then(q.2 r.1 r.2).bind λz=>Y (.rt z.1 z.2) else L
theorem RK(g:FTab X.prog X.w X.K X.mg X.base k x l)(hg:Gl X x)(hx:(x==("__debug__":Str))=false)(hi:DE X ix mi)(hs:qx ix)(hr:Room k X.A)(ha:DA X (e::es) ms)(nd:X.N.Nodup)(hN:X.N[i]?=Y b)(hl:NV X.env.scope b)(hv:Wz X.env.scope b)
  (hf:X.fn b=true\/X.env.scope.names.lookup b=Y .local) (hd:(b==("__debug__":Str))=false) (hc:(b==("__classdict__":Str))=false) (hlen:i<X.N.length)
  (he:WP (e::es) X.env=(false,eval e X.env)::WP es X.env) (hpl:(backTo pc 2.2).any (·.1)=false) :
  zQ X [.Assign [.Name b pb] (.Subscript (.Name x pt) ix ps) pa,.Return (Y (.Call (.Name b p) (e::es) [] pc)) pr] (jJ l i mi ms):=by
 obtain⟨a,vs,h1,h2,h3⟩:=g.ex;intro pins s σ H E I h
 have hlσ:i < σ.length:=by
  have:σ.length=X.N.length:=I.len;omega
 refine wY (OU (i:=i) nd hN hl (Pg (Qx h2) (BW (v:=.ref a) hg h1 rfl hx) hi hs) rfl hf) (wc (OV (Pl hN hv hr ha hd hc he hpl))) pins s σ H E I ?_;obtain⟨μ,S,env,o,hS,hE,hm,post⟩:=h;obtain⟨⟨y,S1⟩,e1,hm⟩:=aaa.mp hm;obtain⟨z,e2,hm⟩:=aaa.mp hm;obtain⟨q,e3,hm⟩:=aaa.mp hm;obtain⟨fa,v1,F⟩:=h3.val e3;refine⟨μ,S,env,y,S1,hS,hE,e1,λu H1 μ1 ex s1 r1=>⟨z,.ref fa,.ref fa,rfl,qc e2 r1,v1,rfl,?_⟩⟩;obtain⟨⟨ws,S2⟩,e4,hm⟩:=aaa.mp hm;dsimp only at hm;split at hm
 ·rename_i hn;obtain⟨⟨d,S3⟩,e5,hm⟩:=aaa.mp hm;cases hm;refine⟨fa,q.1,q.2,by rw[aaL hlσ],F,DU ⟨μ1,S1,env.set i L,d,S3,s1,(hE.mono ex).setN i,?_,Post.ext ex post⟩⟩;show(ms 1.63 S1).bind _=_;rw[e4];exact(aas hn).trans e5
 ·cases hm
end
inductive FNs(mg:Str->Option ce):List (cf×ce)->List (Str×Str)->Prop
 | nil:FNs mg [] []
 | cons {x y:Str} {a:tx} {vs:List (cf×ce)} {l:List (Str×Str)} (h:mg y=Y (.ref a)) (t:FNs mg vs l):FNs mg ((.inr x,.ref a)::vs) ((x,y)::l)
structure FNm(w:Qa)(K:aeO)(mg:Str->Option ce)(x:Str)(l:List (Str×Str)):Prop where
 ex:∃ (a:tx) (vs:List (cf×ce)),mg x=Y (.ref a)/\(∀ (P:Op) (h:TF),K.In h->h.DictOf (da P w) a vs)/\FNs mg vs l
theorem qat{K:aeO}{mg:Str->Option ce}{es:List DictEntry}(hg:mg x=Y (.ref a))(hl:K.lookup a=Y ⟨.type "dict",L,.dict es.toArray n,#[]⟩)(t:TabLit w es vs)(hn:(vs.map (·.1)).Nodup)(r:FNs mg vs l):FNm w K mg x l:=
 ⟨a,vs,hg,DN hl (λP=>by simpa using t.pairs) (λP e he=>t.keys e (by simpa using he)) hn,r⟩
section
variable{P:Op}{w:Qa}{K:aeO}{mg:Str->Option ce}{base:TF}{k:Nat}
def FFs(P:Op)(w:Qa)(K:aeO)(mg:Str->Option ce)(base:TF)(k:Nat):List (Str×Str)->List (cf×Nat×(List D->ac->Option (D×ac)))->Prop
 | [],[]=>True
 | (x,y)::l,(z,n,f)::r=>z=.inr x/\Fn P w K mg base k y n f/\FFs P w K mg base k l r
 | _,_=>False
theorem FNs.rel:∀ {vs l r},FNs mg vs l->FFs P w K mg base k l r->FRel P w K mg base k vs r
 | _,_,[],.nil,_=>.nil
 | _,_,(z,n,f)::r,.cons h t,q=>by
  obtain⟨q1,q2,q3⟩:=q;subst q1;exact .cons (q2.at h) (t.rel q3)
theorem Vf(T:FNm w K mg x l)(h:FFs P w K mg base k l r):FTab P w K mg base k x r:=by
 obtain⟨a,vs,h1,h2,h3⟩:=T.ex;exact⟨a,vs,h1,h2,h3.rel h⟩
theorem FRel.up{k':Nat}(h:k<=k'):∀ {vs l},FRel P w K mg base k vs l->FRel P w K mg base k' vs l
 | _,_,.nil=>.nil
 | _,_,.cons q t=>.cons (by obtain⟨fd,ps,a,b,c⟩:=q.ex;exact⟨fd,ps,a,b.mono h,c⟩) (t.up h)
theorem FTab.up{k':Nat}(T:FTab P w K mg base k x l)(h:k<=k'):FTab P w K mg base k' x l:=by
 obtain⟨a,vs,h1,h2,h3⟩:=T.ex;exact⟨a,vs,h1,h2,h3.up h⟩
end
section
variable{X:Cx}{e:vx}{m:ME}{pos:Pos}
theorem LP(bs:List Bool):((List.range bs.length).any λi=>(bs[i]?).getD true)=bs.any id:=by
 rw[aaJ,aaX,aaX];constructor
 ·rintro⟨i,hi,h⟩;have hi':=acg.mp hi;rw[aag hi'] at h;exact⟨bs[i],aci hi',h⟩
 ·rintro⟨b,hb,h⟩;obtain⟨i,hi,e⟩:=aer.mp hb;exact⟨i,acg.mpr hi,by rw[aag hi,e];exact h⟩
theorem QZ{d:D}(h:Da S ds=Y d):∃ zs bs,ds=[.lst zs]/\iR zs=Y bs/\d=.bl (bs.any id):=by
 unfold Da at h;split at h
 ·obtain⟨bs,h1,h2⟩:=aaa.mp h;cases h2;exact⟨_,_,rfl,h1,rfl⟩
 ·cases h
theorem Sz(hc:X.calm=true):CallR X (.builtin "any") (NR X.K (bb Da)):=by
 intro pins s σ H xs us Q I rv ⟨μ,S,ds,d,S',hS,hr,hm,post⟩;obtain⟨rfl,hm⟩:=eM hm;obtain⟨zs,bs,rfl,h1,rfl⟩:=QZ hm;obtain⟨v,rfl,r⟩:=hr.one;obtain⟨u,rfl,ru⟩:=rY rv;obtain⟨a,vs,rfl,q,n,r⟩:=r.sqL;cases ru;obtain⟨its,rv',pl,hz⟩:=I.list 9.3;have hl:=pl.isList;have hb:=vA r rv' h1;have hlt:a<s.heap.objs.size:=by obtain⟨z,e,z⟩:=hl;exact aaq e
 refine call_any_walk (acm hl ⟨s.heap.objs.size,[s.heap.objs.size,a],[s.heap.objs.size],its.toArray.size,_,_,λi=>(bs[i]?).getD true,rfl,Walks.list (A:=X.A.in1) 6.6 _ a (aaM hlt) its.toArray,
  ⟨⟨_,aay _ rfl,rfl,rfl⟩,hl.push _⟩,λi v s' Q' E' hP hQ=>?_,λh' tk hk=>?_⟩)
 ·obtain⟨b,e,rfl⟩:=hb.get i v (by simpa using hP);simp only[e,adw] at hQ;exact abI hQ
 ·rw[aai,hb.length,LP];exact⟨.bl _,H,I.kept (LSm.kept_iter hk),rfl,post.here hS (.bl _)⟩
end
end M
namespace HT
section
variable{prog:Op}{w:Qa}{A:SN}{E:ce->gV->Prop}{h:TF}{g:Array GenState}{d:Drawn}{t:Nat}{os:OsState}
variable{nm q:Str}{C N:tx}{bs bm bmB:List ce}{hdct:Bool}{sn:List Str}{sub:List ce}{ab:Bool}{col:Option Bool}{dd:Option tx}{k0 k1 k2 k3 k5:Option ce}{B newId initId:String}
noncomputable abbrev yI(h:TF)(C:tx)(rest:List ce):TF:=(h.push { cls:=.type "tuple",data:=.seq rest.toArray }).push { cls:=.ref C,data:=.fields #[.ref h.objs.size,.none,.none,.none,.bool false,.none] }
theorem jO(e:h.get? b=Y o):(yI h C rest).get? b=Y o:=aaf _ (aaf _ e)
theorem uB:(yI h C rest).get? (h.objs.size+1)=Y { cls:=.ref C,data:=.fields #[.ref h.objs.size,.none,.none,.none,.bool false,.none] }:=by heap_get
theorem rZ(F:ExcBaseFacts B newId initId bmB)(T:OwnTail h bmB bm){rest:List ce}{Q:Fin->gV->Prop}
  (hC:h.get? C=Y 1.3) (hn:h.Ns N mN) (hni:mN "__init__" = Y (.ref f))
  {of:Obj} (hfo:h.get? f=Y of) (hfc:of.cls=.type "function") (hrest:rest.length<=Vj)
  (hq:aeN 1.0 A (call (.ref f) (.ref (h.objs.size+1)::rest)) (λv s'=>v=.none/\Q (.done (.ret (.ref (h.objs.size+1)))) s') E ⟨yI h C rest,g,d,t,os⟩) :
  aeN 1.0 A (Builtin.«type.__call__» ⟨.ref C::rest,[]⟩) Q E ⟨h,g,d,t,os⟩:=by
 repeat (first | wp_step | with_reducible refine wpAny_madeBy_exc hC ?_ | with_reducible refine abJ hC ?_)
 refine codeAny_call_builtin_code (aeI _ F.quiet) (wpAny_check_new_subT F T hC (codeAny_exc_new_subT F T hC ?_ hrest));show aeN _ _ _ _ _ _;have kC:=jO (C:=C) (rest:=rest) hC;have at0:=uB (h:=h) (C:=C) (rest:=rest);have own:(Value.ref C::bm).contains (.ref C)=true:=by simp
 unfold isInstance
 repeat (first | wp_step | with_reducible refine abJ at0 ?_ | (with_reducible refine acx kC ?_;rw[own]))
 show aeN _ _ (typeLookup (.ref C) _) _ _ _;refine wpAny_typeLookup_tail kC (hn.keeps λb o e=>jO e) (T.keeps λb o e=>jO e) F.mroIs F.init.lookup ?_;rw[hni];refine abe (aab (wpAny_bindSpecial_def (of:=of) (jO hfo) hfc (aab (aaO hq (λv s' z=>aam ?_) λw w x=>x))));obtain⟨rfl,z⟩:=z;show aeN _ _ (if (Value.none != Value.none)=true then _ else ret _) _ _ _;rw[if_neg 0.3];exact aam z
theorem Dr(F:ExcBaseFacts B newId initId bmB)(T:OwnTail h bmB bm){rest:List ce}{Q:ce->gV->Prop}
  (hC:h.get? C=Y 1.3) (hn:h.Ns N mN) (hni:mN "__init__" = Y (.ref f))
  {of:Obj} (hfo:h.get? f=Y of) (hfc:of.cls=.type "function") (hrest:rest.length<=Vj)
  (hq:aeN 1.0 (A.under (.builtin "type.__call__" ⟨.ref C::rest,[]⟩)) (call (.ref f) (.ref (h.objs.size+1)::rest)) (λv s'=>v=.none/\Q (.ref (h.objs.size+1)) s') E ⟨yI h C rest,g,d,t,os⟩) :
  aeN 1.0 A (call (.ref C) rest) Q E ⟨h,g,d,t,os⟩:=by
 have f1:=tc_lookup;have f2:=tc_bind (.ref C);have hT:(⟨h,g,d,t,os⟩:gV).TypeIs (.ref C) "type":=⟨_,hC,rfl⟩
 refine adM (codeAny_of_tree ?_);show aeN _ _ (callAny (.ref C) _) _ _ _
 repeat (any_goals (first | assumption | with_reducible refine abJ hC ?_ | wp_step))
 refine⟨rfl,?_⟩;refine codeAny_call_builtin_at (aeI _ (by decide +kernel)) entry_typeCall (wpAny_check_type_call_sub hC (rZ F T hC hn hni hfo hfc hrest ?_));exact hq
theorem wX{s:gV}(hbase:bm.contains (.type "BaseException")=true)(hh:A.handled=L)
  (h:aeN M A x (λv s₁=>∃ e t dx,v=.ref e/\s₁.heap.get? C=Y 1.3 /\
   s₁.heap.get? e=Y { cls:=.ref C,dict:=dx,data:=.fields #[.ref t,.none,.none,.none,.bool false,.none] }/\E (.ref e) s₁) E s) :
  aeN M A (raiseStmt env (Y x) L) Q E s:=by
 have hcB:(Value.ref C::bm).contains (.type "BaseException")=true:=by rw[adh,hbase,aeo]
 unfold raiseStmt;refine aab (aaO h (λv s₁ h₁=>?_) λz z x=>x);obtain⟨e,t,dx,rfl,hC,he,hE⟩:=h₁;obtain⟨hp,g,d,tk,os⟩:=s₁
 repeat (first | with_reducible refine abJ he ?_ | with_reducible refine abJ hC ?_ | (with_reducible refine acx hC ?_;rw[hcB]) | wp_step)
 exact wpAny_raiseNew_none hh hE
end
section
open PySem.W Builtin Builtin.ObjectAttr Builtin.Getset_descriptor
def oG:List ce:=[.type "ValueError",.type "Exception",.type "BaseException",.type "object"]
def IR:ce->Bool
 | .ref _=>true
 | _=>false
inductive uM:List ce->Prop
 | base:uM oG
 | own {c:tx} {r:List ce}:uM r->uM (.ref c::r)
theorem WF:∀ {l:List ce},(l.dropWhile IR==oG)=true->uM l
 | [],e=>absurd e 0.1
 | x::r,e=>by
  cases hx:IR x with
  | true=>
   rw[List.dropWhile_cons_of_pos hx] at e;cases x with
   | ref c=>exact .own (WF e)
   | _=>cases hx
  | false=>
   rw[List.dropWhile_cons_of_neg (by simp[hx])] at e;rw[eq_of_beq e];exact .base
theorem LO(self:ce)(h:uM l):refuseLoop self "__setattr__" l=pure ():=by
 induction h with
 | base=>exact F.store_ValueError.passes self
 | own _ ih=>rw[refuseLoop_ref];exact ih
theorem Od(h:uM l):l.contains (.type "object")=true:=by
 induction h with
 | base=>decide
 | own _ ih=>rw[adh,ih,aeo]
def wf(K:Frag)(C:tx):Bool:=(clsIn K C).any λcd=>cd.mro.dropWhile IR==oG
variable{prog:Op}{w:Qa}{A:SN}{E:ce->gV->Prop}{s:gV}{K:Frag}{x C:tx}{R:Result->gV->Prop}
theorem Uo(X:K.In s.heap)(I:InstAt s.heap x ox C od)(hp:wf K C=true)(ht:takerIn K C name=Y r)
  (h:∀ b,aeN 1.0 A.in1 (match r with | some a=>setByDescriptor a (.ref x) v | none=>storeInOwnDict (.ref x) (.ref C) (.str name tk) name v b)
   (λfin s'=>match fin with | .done f=>R (.ok f) s' | .again c'=>c'.quiet=true/\codeAny 1.0 A c' R s') (λe s'=>R (.error e) s') s) :
  codeAny 1.0 A (.call (.builtin "object.__setattr__") ⟨[.ref x,.str name tk,v],[]⟩) R s:=by
 have SF:=F.store_object;obtain⟨cd,hc,ho⟩:=any_some hp;have ho:=WF ho
 have ne:cd.mro.isEmpty=false:=by
  cases q:cd.mro with
  | nil=>rw[q] at ho;exact absurd (Od ho) 0.1
  | cons _ _=>rfl
 have sub:Looks 1.0 s.heap (isInstance (.ref x) (.type "object")) true:=I.type.andThen (looks_mroIn X (by unfold mroIn;rw[hc,Option.bind_some,if_neg (by rw[ne];decide),Od ho]));refine codeAny_call_builtin SF.slot.plain SF.entry (@check_slot 1.0 _ _ s "object.__setattr__" "object" "__setattr__" (.ref x) [.str name tk,v] [] _ SF.kind SF.split sub (SF.args (.ref x) (.str name tk) v) ?_);obtain⟨attr,ha,hr⟩:=aaa.mp ht;have hm:Looks 1.0 s.heap (mroOf (.ref C)) cd.mro:=(looks_clsIn X hc).andThen .now
 have L3:Looks 1.0 s.heap (storeTaker? attr) r:=by
  cases attr with
  | none=>cases hr;exact .now
  | some a=>
   obtain⟨b,hb,rfl⟩:=aed.mp hr;refine(looks_takesIn X hb).andThen ?_;cases b<;>exact .now
 rw[osa_eq,refuse_eq];refine aab (aab (I.type.here (aab (hm.here ?_))));rw[LO _ ho];refine aam (aab (I.type.here (aab ((looks_findIn X ha).here (aab (L3.here ?_))))));exact h _
theorem Tq{fs:Array ce}{Q:Unit->gV->Prop}(X:K.In s.heap)(I:InstAt s.heap x ⟨.ref C,L,.fields fs,#[]⟩ C L)
  (hs:findIn K (.ref C) "__setattr__" = Y (Y (.builtin "object.__setattr__"))) (hp:wf K C=true) (ht:takerIn K C name=Y L) (hh:hasDictIn K C=true)
  (h:∀ h' t',h'.get? x=Y ⟨.ref C,Y s.heap.objs.size,.fields fs,#[]⟩->h'.Ns1 s.heap.objs.size (λy=>if y=name then Y v else L) ->
   (∀ b o,b≠x->s.heap.get? b=Y o->h'.get? b=Y o)->Q () { s with heap:=h',toks:=t' }) :
  aeN 1.0 A (setAttr (.ref x) name v) Q E s:=by
 refine set_plain X I hs (Uo (s:={ s with toks:=s.toks+1 }) (r:=L) X I hp ht λb=>?_);obtain⟨cd,hc,hd'⟩:=any_some hh;have hx:=I.at_;refine aab (aam (aab (aab (wpAny_loadPart hx (aab (Looks.here (s:={ s with toks:=s.toks+1 }) (looks_clsIn X hc) ?_))))));rw[hd',if_neg 0.1];obtain⟨h0,g,d,tk,os⟩:=s;have hx₁:(h0.push { cls:=.type "dict",data:=.dict #[] }).get? x=Y ⟨.ref C,L,.fields fs,#[]⟩:=aaf _ hx;have hxs:x≠h0.objs.size:=aaM (aaq hx);dsimp only;rw[if_neg (by simp[typeHasDict])];refine aab (wpAny_alloc' ?_);refine aab (wpAny_update' hx₁ ?_);refine aam ?_
 have hgd:((h0.push { cls:=.type "dict",data:=.dict #[] }).update x λo=>{ cls:=o.cls,dict:=Y h0.objs.size,data:=o.data,slots:=o.slots }).get? h0.objs.size
   = Y { cls:=.type "dict",data:=.dict #[] }:=
  (aey _ _ _ _ hxs.symm).trans (Heap.get?_push_at rfl rfl)
 have hnd:((h0.push { cls:=.type "dict",data:=.dict #[] }).update x λo=>{ cls:=o.cls,dict:=Y h0.objs.size,data:=o.data,slots:=o.slots }).Ns h0.objs.size (λz=>L):=
  ⟨_,#[],_,hgd,rfl,λe he=>absurd he 0.3,λz=>rfl⟩
 show aeN _ _ (storeInDict h0.objs.size (.str name tk) name v) _ _ _;unfold storeInDict newKeyGuard;refine aab (aam (aab (wpAny_nsSet1 (Heap.Ns1.of_empty hnd) λh' hn' hs=>?_)));obtain⟨oD,esD,epD,hoD,hdD,hcD⟩:=hn'.count (Within.cons name v Within.nil);refine aab (wpAny_lookBehind hoD (by rw[hdD];exact pastItsLine_dict (aaD hcD (by rw[aar,List.length_nil,acJ];omega))) ?_);refine aam (h h' _ ?_ hn' λb ob hbx hb=>?_)
 ·exact(hs.2 x hxs).trans (abd _ hx₁ rfl)
 ·exact(hs.2 b (aaM (aaq hb))).trans ((aey _ _ _ _ hbx).trans (aaf _ hb))
end
end HT
namespace HT
section
variable{M:Model}{A:SN}{E:ce->gV->Prop}{s:gV}
structure Fly(h:TF)(e T:tx)(C:ce)(dx:Option tx):Prop where
 ne:T≠e
 exc:∃ oe vs,h.get? e=Y oe/\oe.cls=C/\oe.dict=dx/\oe.data=.fields vs/\vs[1]?=Y (.ref T)
 ent:∃ oT ts,h.get? T=Y oT/\oT.data=.fields ts/\ts[3]?=Y .none
structure Left(fs:List tx)(no:tx->Prop)(h h':TF):Prop where
 keep:∀ b o,b∉fs->¬ no b->h.get? b=Y o->h'.get? b=Y o
 slot:∀ b o,b∈fs->h.get? b=Y o->∃ sl,h'.get? b=Y { o with slots:=sl }
theorem sH(g:Array ce->Array ce)(o:Obj):(o.mapFields g).cls=o.cls/\(o.mapFields g).dict=o.dict:=by
 obtain⟨c,d,dt,sl⟩:=o;cases dt<;>exact⟨rfl,rfl⟩
theorem FE{env:Env}{outer:List Env}{Q:Unit->gV->Prop}
  (hfr:A.frames=Y (env::outer)) (hl:s.heap.FunFrames base (env::outer)) (hf:env.frame=Y L4)
  (he:s.heap.get? e=Y oe) (hd:oe.data=.fields vs) (h1:vs[1]?=Y .none)
  (h:∀ h' T,s.heap.objs.size<=T->Fly h' e T oe.cls oe.dict->Left ((env::outer).filterMap (·.frame)) (λb=>b=e) s.heap h'->Q () { s with heap:=h' }):aeN M A (leaving env (.ref e)) Q E s:=by
 have hsz:1<vs.size:=(ace.mp h1).1
 have enf:e∉(env::outer).filterMap (·.frame):=λhm=>by
  obtain⟨w,o,ho,hnf⟩:=hl.mem hm;rw[he] at ho;cases ho;exact hnf vs hd
 unfold leaving noteFrame;simp only[hf];refine aab (aab (abn he hd h1 ?_));rw[if_neg 0.1];refine aab (wpAny_frameOf_fun hfr hl hf λh₁ hs=>aab (aeA λpl hpl=>?_));have e1:h₁.get? e=Y oe:=(hs.2.1 e enf).trans he;unfold EntryCells.newEntry newFields;refine aab (aaS ?_ (hpl.sizeOk5 _ _ _ _ _));generalize hts:(([Value.none,.ref L4,.none,rawInt L4,.none]++(if pl.isEmpty then aeP 6 Value.none else pl)).toArray)=ts;have t3:3<ts.size:=by rw[<- hts];simp
 have e2:(h₁.push { cls:=.type "traceback",dict:=L,data:=.fields ts }).get? e=Y oe:=aaf _ e1;have T2:(h₁.push { cls:=.type "traceback",dict:=L,data:=.fields ts }).get? h₁.objs.size=Y { cls:=.type "traceback",dict:=L,data:=.fields ts }:=aay _ rfl;have ne:h₁.objs.size≠e:=aca (aaq e1);refine abQ e2 hd hsz ?_;have d3:=abV hd (·.setIfInBounds 1 5.9);have e3:=abd (Obj.mapFields (·.setIfInBounds 1 5.9)) e2 (abZ d3);have T3:=(aax _ (Obj.mapFields (·.setIfInBounds 1 5.9)) (Ne.symm ne)).trans T2;unfold setFlight;refine aab (abn e3 d3 (x:=.ref h₁.objs.size) (by simp[hsz]) ?_);rw[aas (show(Value.ref h₁.objs.size != Value.none)=true from by simp)];refine abQ T3 rfl t3 (h _ h₁.objs.size (by rw[hs.1];exact aal _) ⟨ne,?_,?_⟩ ⟨λb o nb ne' hb=>?_,λb o hm hb=>?_⟩)
 ·exact⟨_,_,(aax _ _ ne).trans e3,(sH _ _).1,(sH _ _).2,d3,by simp[hsz]⟩
 ·exact⟨_,_,abd _ T3 rfl,rfl,by simp[t3]⟩
 ·have b1:h₁.get? b=Y o:=(hs.2.1 b nb).trans hb;have nT:h₁.objs.size≠b:=aca (aaq b1);exact(aax _ _ nT).trans ((aax _ _ (Ne.symm ne')).trans (aaf _ b1))
 ·obtain⟨sl,b1⟩:=hs.2.2 b o hb;have nT:h₁.objs.size≠b:=aca (aaq b1);have nE:e≠b:=λz=>enf (z ▸ hm);exact⟨sl,(aax _ _ nT).trans ((aax _ _ nE).trans (aaf _ b1))⟩
theorem UH{env:Env}{outer:List Env}{Q:Unit->gV->Prop}
  (hfr:A.frames=Y (env::outer)) (hl:s.heap.FunFrames base (env::outer)) (hf:env.frame=Y L4) (F:Fly s.heap e T C dx)
  (h:∀ h' T',s.heap.objs.size<=T'->Fly h' e T' C dx->Left ((env::outer).filterMap (·.frame)) (λb=>b=e\/b=T) s.heap h'->Q () { s with heap:=h' }):aeN M A (noteFrame (.ref e) env) (λw s₂=>aeN M A (setFlight (.ref e) L) Q E s₂) E s:=by
 obtain⟨neT,⟨oe,vs,he,hc,hdx,hd,h1⟩,oT,ts0,hT,hdT,h3⟩:=F;have hsz:1<vs.size:=(ace.mp h1).1;have h3z:3<ts0.size:=(ace.mp h3).1
 have enf:e∉(env::outer).filterMap (·.frame):=λhm=>by
  obtain⟨w,o,ho,hnf⟩:=hl.mem hm;rw[he] at ho;cases ho;exact hnf vs hd
 have tnf:T∉(env::outer).filterMap (·.frame):=λhm=>by
  obtain⟨w,o,ho,hnf⟩:=hl.mem hm;rw[hT] at ho;cases ho;exact hnf ts0 hdT
 unfold noteFrame;simp only[hf];refine aab (abn he hd h1 ?_);rw[aas (show(Value.ref T != Value.none)=true from by simp)];refine aab (abn hT hdT h3 ?_);rw[if_neg (by simp[rawInt])];refine aab (abQ hT hdT h3z ?_);have dT1:=abV hdT (·.setIfInBounds 3 Value.none);have hT1:=abd (Obj.mapFields (·.setIfInBounds 3 Value.none)) hT (abZ dT1);have he1:=(aax s.heap (Obj.mapFields (·.setIfInBounds 3 Value.none)) neT).trans he;have hl1:(s.heap.update T (Obj.mapFields (·.setIfInBounds 3 Value.none))).FunFrames base (env::outer):=hl.of_keeps λb o hb hnf=>⟨o,(aax s.heap _ λq=>by rw[<- q,hT] at hb;cases hb;exact hnf ts0 hdT).trans hb,rfl⟩
 refine aab (wpAny_frameOf_fun hfr hl1 hf λh₁ hs=>aab (aeA λpl hpl=>?_));have e1:h₁.get? e=Y oe:=(hs.2.1 e enf).trans he1;unfold EntryCells.newEntry newFields;refine aab (aaS ?_ (hpl.sizeOk5 _ _ _ _ _));generalize hts:(([Value.ref T,.ref L4,.none,rawInt L4,.none]++(if pl.isEmpty then aeP 6 Value.none else pl)).toArray)=ts;have t3:3<ts.size:=by rw[<- hts];simp
 have e2:(h₁.push { cls:=.type "traceback",dict:=L,data:=.fields ts }).get? e=Y oe:=aaf _ e1;have T2:(h₁.push { cls:=.type "traceback",dict:=L,data:=.fields ts }).get? h₁.objs.size=Y { cls:=.type "traceback",dict:=L,data:=.fields ts }:=aay _ rfl;have ne:h₁.objs.size≠e:=aca (aaq e1);have sz:h₁.objs.size=s.heap.objs.size:=hs.1.trans 0.3;refine abQ e2 hd hsz ?_;have d3:=abV hd (·.setIfInBounds 1 5.9);have e3:=abd (Obj.mapFields (·.setIfInBounds 1 5.9)) e2 (abZ d3);have T3:=(aax _ (Obj.mapFields (·.setIfInBounds 1 5.9)) (Ne.symm ne)).trans T2;unfold setFlight;refine aab (abn e3 d3 (x:=.ref h₁.objs.size) (by simp[hsz]) ?_);rw[aas (show(Value.ref h₁.objs.size != Value.none)=true from by simp)];refine abQ T3 rfl t3 (h _ h₁.objs.size (by rw[sz];exact aal _) ⟨ne,?_,?_⟩ ⟨λb o nb ne' hb=>?_,λb o hm hb=>?_⟩)
 ·exact⟨_,_,(aax _ _ ne).trans e3,(sH _ _).1.trans hc,(sH _ _).2.trans hdx,d3,by simp[hsz]⟩
 ·exact⟨_,_,abd _ T3 rfl,rfl,by simp[t3]⟩
 ·have b0:=(aax s.heap (Obj.mapFields (·.setIfInBounds 3 Value.none)) (a:=T) (b:=b) (λz=>ne' (.inr z.symm))).trans hb;have b1:h₁.get? b=Y o:=(hs.2.1 b nb).trans b0;have nT:h₁.objs.size≠b:=aca (aaq b1);exact(aax _ _ nT).trans ((aax _ _ (λz=>ne' (.inl z.symm))).trans (aaf _ b1))
 ·have b0:=(aax s.heap (Obj.mapFields (·.setIfInBounds 3 Value.none)) (a:=T) (b:=b) (λz=>tnf (z ▸ hm))).trans hb;obtain⟨sl,b1⟩:=hs.2.2 b o b0;have nT:h₁.objs.size≠b:=aca (aaq b1);have nE:e≠b:=λz=>enf (z ▸ hm);exact⟨sl,(aax _ _ nT).trans ((aax _ _ nE).trans (aaf _ b1))⟩
end
end HT
namespace L2
def qX(P:Op)(w:Qa):NQ:=λouter H s E e s'=>∃ x T C dx H',e=.ref x/\HT.Fly s'.heap x T (.ref C) (Y dx)/\H' x=L/\H' T=L/\s.heap.get? x=L/\s.heap.get? T=L /\
 s'.os=s.os/\AllBare s'.gens/\Un (AU outer) [] H H' s.heap s'.heap/\HOk P w H' s'.heap/\E (.ref C) (Y dx) H'
theorem KJ{h h':TF}:∀ {l:List Env},h.FunFrames base l->(∀ b o,b∈AU l->h.get? b=Y o->∃ sl,h'.get? b=Y { o with slots:=sl })->h'.FunFrames base l
 | [],_,_=>trivial
 | env::r,hl,k=>by
  obtain⟨hk,⟨L4,o,hf,hn,ho,hd⟩,hr⟩:=hl;obtain⟨sl,e⟩:=k L4 o (by unfold AU;rw[aaV,hf];exact aad) ho;exact⟨hk,⟨L4,_,hf,hn,e,hd⟩,KJ hr λb o hb=>k b o (by unfold AU at hb ⊢;rw[aaV,hf];exact aah _ hb)⟩
section
variable{X:Cx}{pins:List (tx×Obj)}{σ:St}{H:Hp}{s s':gV}{E:XK}{e:ce}
theorem Gi(hs:X.stack=X.env::X.outer)(hfm:X.env.frame=Y X.env.locals)(hex:X.ex=[])(I:Inv X pins σ H s)(he:s.heap.get? x=Y oe)(hc:oe.cls=.ref C)
  (hdx:oe.dict=Y dx) (hd:oe.data=.fields vs) (h1:vs[1]?=Y .none) (nx:H x=L) (x0:X.s₀.heap.get? x=L) (q:E (.ref C) (Y dx) H) :
  aeN 0.2 X.A (leaving X.env (.ref x)) (λj s''=>qX X.prog X.w X.outer X.H₀ X.s₀ E (.ref x) s'') E' s:=by
 have hl:=I.stack;have hfr:X.A.frames=Y (X.env::X.outer):=by rw[<- hs];exact I.ok.frames
 have fin:∀ b∈(X.env::X.outer).filterMap (·.frame),H b=L:=λb hb=>I.stkFree b (by rw[hs];exact hb);rw[hs] at hl
 have inL:∀ b o,X.s₀.heap.get? b=Y o->b∉AU X.outer->b∉(X.env::X.outer).filterMap (·.frame):=λb o h0 nb z=>by
  rw[aaV,hfm] at z;rcases aaC.mp z with z | z
  ·exact absurd (aaq h0) (by rw[z];exact adP.mpr I.ok.above)
  ·exact nb z
 have nxe:∀ b:tx,b∉X.ex:=λb=>by rw[hex];simp
 have no:∀ b o,X.s₀.heap.get? b=Y o->¬ (b=x):=λb o h0 z=>by rw[z,x0] at h0;cases h0
 refine HT.FE hfr hl hfm he hd h1 λh' T sz F Lf=>⟨x,T,C,dx,H,rfl,by rw[<- hc,<- hdx];exact F,nx,I.hok.fresh sz,x0,?_,I.os,I.bare,?_,?_,q⟩
 ·cases q0:X.s₀.heap.get? T with
  | none=>rfl
  | some o=>obtain⟨o',e'⟩:=I.base.there T o q0 (nxe T);exact absurd (aaq e') (adP.mpr sz)
 ·refine⟨λb o h0 n nb j=>?_,λb o h0 n hb j=>?_,λb o h0 n j=>I.base.free b o h0 n (nxe b),λb o h0 j=>?_,I.base.tups,I.base.frzs,I.base.tbls⟩
  ·exact Lf.keep b o (inL b o h0 nb) (no b o h0) (I.base.keep b o h0 n nb (nxe b))
  ·obtain⟨sl,e1⟩:=I.base.slot b o h0 n hb (nxe b);obtain⟨sl3,e3⟩:=Lf.slot b _ (by rw[aaV,hfm];exact aah _ hb) e1;exact⟨sl3,e3⟩
  ·obtain⟨o',e'⟩:=I.base.there b o h0 (nxe b);by_cases hb:b∈(X.env::X.outer).filterMap (·.frame)
   ·obtain⟨sl,e3⟩:=Lf.slot b o' hb e';exact⟨_,e3⟩
   ·exact⟨o',Lf.keep b o' hb (no b o h0) e'⟩
 ·intro a o ha
  have tr:∀ b,(b=a\/H b=Y (.own a))->H b≠L:=λb hb z=>by
   rcases hb with hb | hb
   ·rw[hb,ha] at z;cases z
   ·rw[hb] at z;cases z
  exact(I.hok a o ha).stay (λb u hb hu=>Lf.keep b u (λz=>tr b hb (fin b z)) (λz=>tr b hb (z ▸ nx)) hu) (λj z=>z) λj j z=>z
end
def zM(x C t:tx)(h:TF):Prop:=h.get? x=Y ⟨.ref C,L,.fields #[.ref t,.none,.none,.none,.bool false,.none],#[]⟩
def zL(x C t dx:tx)(h:TF):Prop:=h.get? x=Y ⟨.ref C,Y dx,.fields #[.ref t,.none,.none,.none,.bool false,.none],#[]⟩
structure yX(K:aeO)(C:tx)(f:Str):Prop where
 sa:W.findIn K (.ref C) "__setattr__" = Y (Y (.builtin "object.__setattr__"))
 ve:HT.wf K C=true
 tk:W.takerIn K C f=Y L
 hd:W.hasDictIn K C=true
def sFldX(K:aeO)(ta tv:TE)(f:Str):TS:=λD σ H=>tv σ H λy H1=>ta σ H1 λx H2=>∃ a C t,x=.ref a/\H2 a=Y (.ext (zM a C t))/\yX K C f /\
 ∀ dx,H2 dx=L->D.nx σ (upd (upd H2 a (.ext (zL a C t dx))) dx (.xd [(f,y)]))
section
variable{X:Cx}{o value:vx}{f:Str}{pos pos':Pos}{ta tv:TE}
theorem DZ{s:gV}{Q:Unit->gV->Prop}(I:Inv X pins σ H s)(ea:H a=Y (.ext (zM a C t)))(c:yX X.K C f)(ry:RelV y u)
  (h:∀ s' dx,H dx=L->Inv X pins σ (upd (upd H a (.ext (zL a C t dx))) dx (.xd [(f,y)])) s'->Q () s'):aeN 0.2 X.A (setAttr (.ref a) f u) Q E s:=by
 have e0:zM a C t s.heap:=(show ObjOk X.prog X.w H s.heap a (.ext (zM a C t)) from I.hok a _ ea).1;have hn:=I.hok.fresh (aal s.heap.objs.size);have na:a≠s.heap.objs.size:=λz=>by rw[<- z,ea] at hn;cases hn
 refine HT.Tq I.kIn ⟨e0,rfl,rfl,trivial⟩ c.sa c.ve c.tk c.hd λh' t' hx hd k=>h _ s.heap.objs.size hn ?_;have up:∀ b,b≠a->b≠s.heap.objs.size->upd (upd H a (.ext (zL a C t s.heap.objs.size))) s.heap.objs.size (.xd [(f,y)]) b=H b:=λb h1 h2=>by rw[bh h2,bh h1]
 have nT:∀ b o,H b=Y o->b≠s.heap.objs.size:=λb o q z=>by rw[z,hn] at q;cases q
 have lt:∀ b o,s.heap.get? b=Y o->b≠s.heap.objs.size:=λb o q=>aaM (aaq q);refine I.un (s:=s) (h':=h') (t':=t') ⟨λb o q n j j=>k b o (λz=>by rw[z,ea] at n;cases n) q,λb o q n j j=>⟨o.slots,k b o (λz=>by rw[z,ea] at n;cases n) q⟩,λb o q n j=>?_,λb o q j=>?_,λb xs q=>?_,λb o u q=>?_,λb ps q=>⟨#[],?_⟩⟩ λb o q=>?_
 ·rw[up b (λz=>by rw[z,ea] at n;cases n) (lt b o q)];exact n
 ·by_cases z:b=a
  ·subst z;exact⟨_,hx⟩
  ·exact⟨o,k b o z q⟩
 ·rw[up b (λz=>by rw[z,ea] at q;cases q) (nT b _ q)];exact q
 ·rw[up b (λz=>by rw[z,ea] at q;cases q) (nT b _ q)];exact q
 ·rw[up b (λz=>by rw[z,ea] at q;cases q) (nT b _ q),q];simp
 ·by_cases z:b=s.heap.objs.size
  ·subst z;rw[bB] at q;cases q;refine⟨_,hd,λg=>?_⟩;by_cases hg:g=f
   ·subst hg;rw[aas rfl];simp[List.lookup,RelO,ry]
   ·rw[if_neg hg];have hb:(g==f)=false:=abj.mpr hg;simp only[List.lookup,hb,RelO]
  ·by_cases z':b=a
   ·subst z';rw[bh z,bB] at q;cases q;exact⟨hx,⟨_,hx⟩,λh1 h2 e1 e2=>e2 _ e1⟩
   ·rw[up b z' z] at q;refine(I.hok b o q).stay (λc' u hc hu=>k c' u (λw=>?_) hu) (λc' hc=>?_) λc' xs hc=>?_
    ·rcases hc with hc | hc
     ·exact z' (hc ▸ w)
     ·rw[w,ea] at hc;cases hc
    ·rw[up c' (λw=>by rw[w,ea] at hc;cases hc) (nT c' _ hc)];exact hc
    ·rw[up c' (λw=>by rw[w,ea] at hc;cases hc) (nT c' _ hc)];exact hc
theorem TW(ha:PE X o ta)(hv:PE X value tv)(hs:swapsWith value (Y (.Attribute o f pos')) pos.line X.env=pure false):PS X (.Assign [.Attribute o f pos'] value pos) (sFldX X.K ta tv f):=by
 intro pins s σ H D I h;refine plainObj_wpAny_Assign_Attribute (dO (hv pins s σ H _ I h) λu s1 ⟨y,H1,I1,ry,q⟩=>dO (ha pins s1 σ H1 _ I1 q) λov s2 ⟨x,H2,I2,rx,a,C,t,ex,ea,c,q2⟩=>?_) hs;subst ex;obtain rfl:ov=Value.ref a:=rx;exact DZ I2 ea c ry λs3 dx hn I3=>⟨σ,_,I3,q2 dx hn⟩
end
section
variable{X:Cx}{pins:List (tx×Obj)}{σ:St}{H:Hp}{s:gV}
theorem Inv.letgo(I:Inv X pins σ H s)(hx:H x=Y 1.78):Inv X pins σ (λb=>if b=x then L else H b) s:=by
 have ne:∀ {b:tx} {o:HO},H b=Y o->(∀ ψ,o≠.ext ψ)->(if b=x then L else H b)=Y o:=λ{b o} q n=>by
  rw[if_neg λz=>?_];exact q;rw[z,hx] at q;cases q;exact n _ rfl
 refine I.un (s:=s) (h':=s.heap) (t':=s.toks) ⟨λb o q j j j=>q,λb o q j j j=>⟨o.slots,q⟩,λb o q n j=>?_,λb o q j=>⟨o,q⟩,λb xs q=>ne q (by intro ψ z;cases z),λb o u q=>ne q (by intro ψ z;cases z),λb ps q=>⟨#[],by rw[ne q (by intro ψ z;cases z)];simp⟩⟩ λb o q=>?_
 ·show(if b=x then L else H b)=L;split
  ·rfl
  ·exact n
 ·by_cases z:b=x
  ·simp[z] at q
  ·have q:H b=Y o:=by simpa[z] using q
   exact(I.hok b o q).stay (λj j j hu=>hu) (λc hc=>ne hc (by intro ψ w;cases w)) λc xs hc=>ne hc (by intro ψ w;cases w)
end
def GW(K:aeO)(C f:tx):Prop:=∃ nm q N bs bm hdct sn sub ab col dd k0 k1 k2 k3 k5 newId mN bmB B initId,mN "__init__" = Y (.ref f)/\ExcBaseFacts B newId initId bmB/\bm.contains (.type "BaseException")=true /\
 ∀ h:TF,K.In h->h.get? C=Y 1.3/\h.Ns N mN/\OwnTail h bmB bm/\∃ of,h.get? f=Y of/\of.cls=.type "function"
def JN(P:Op)(w:Qa)(K:aeO)(mg:Str->Option ce)(base:TF)(k:Nat)(C f:tx)(fl:Str):Prop:=∀ (A:SN) (outer:List Env) (s:gV) (H:Hp) (x t:tx) (v:V) (u:ce),Room k A->Env0 P w K mg base A outer s H ->
 RelV v u->H x=Y (.ext (zM x C t))->codeAny 1.03 A (.call (.ref f) ⟨[.ref x,u],[]⟩) (CR GX outer P w H s (λr H'=>r=.non/\∃ dx,H dx=L/\H'=upd (upd H x (.ext (zL x C t dx))) dx (.xd [(fl,v)])) E0) s
section
variable{X:Cx}{e:vx}{x:Str}{np cpos pos:Pos}{te:TE}{C f:tx}{fl:Str}{k:Nat}
def Yn(C:tx)(fl:Str)(E:XK)(te:TE):TS:=λz σ H=>te σ H λy H1=>∀ dx,H1 dx=L->E (.ref C) (Y dx) (upd H1 dx (.xd [(fl,y)]))
theorem OW(R:GW X.K C f)(N:JN X.prog X.w X.K X.mg X.base k C f fl)(hr:∀ us,Room k (X.A.under (.builtin "type.__call__" ⟨.ref C::us,[]⟩)))(hg:Gl X x)(hm:X.mg x=Y (.ref C))(he:PE X e te)(hcalm:X.calm=true)
  (hs:X.stack=X.env::X.outer) (hfm:X.env.frame=Y X.env.locals) (hex:X.ex=[])
  (hxe:∀ e' s',aeN 0.2 X.A (leaving X.env e') (λj s''=>qX X.prog X.w X.outer X.H₀ X.s₀ E e' s'') (λj j=>False) s'->X.xe e' s')
  (hd:(x==("__debug__":Str))=false:=by decide) (hst:WP [e] X.env=(false,eval e X.env)::WP [] X.env:=by rfl) :
  PS X (.Raise (Y (.Call (.Name x np) [e] [] cpos)) L pos) (Yn C fl E te):=by
 intro pins s σ H D I h;have hh:=I.ok.hd hcalm;obtain⟨nm,q,Nn,bs,bm,hdct,sn,sub,ab,col,dd,k0,k1,k2,k3,k5,newId,mN,bmB,B,initId,hni,F,hb,R⟩:=R;rw[arm_exec_Raise];refine aab (abF (HT.wX (C:=C) (nm:=nm) (q:=q) (N:=Nn) (bs:=bs) (bm:=bm) (hdct:=hdct) (sn:=sn) (sub:=sub) (ab:=ab) (col:=col) (dd:=dd) (k0:=k0) (k1:=k1) (k2:=k2) (k3:=k3) (k5:=k5) (newId:=newId) hb hh ?_));refine aab (aaO (wpAny_Call_ofName (sQ I hg hm ?_ hd)) (λv s₃ h₃=>aab (abF (aam h₃))) λj j z=>z)
 have ev:aeN 0.2 X.A (evalArgs (.ref C) true (backTo cpos (WP [e] X.env)) []) (λa s₂=>∃ y u H1,a=⟨[u],[]⟩/\Inv X pins σ H1 s₂/\RelV y u/\∀ dx,H1 dx=L->E (.ref C) (Y dx) (upd H1 dx (.xd [(fl,y)]))) X.xe s:=by
  rw[hst];refine acw (show aeN _ _ (spliced (backTo cpos ((false,eval e X.env)::WP [] X.env))) _ _ _ from ?_);rw[<- hst];exact spliced_more (dO 4.0 λu s1 ⟨y,H1,I1,ry,q1⟩=>spliced_none ⟨y,u,H1,rfl,I1,ry,q1⟩) hst
 have hplain:(backTo cpos (WP [e] X.env)).any (·.1)=false:=by rw[hst];rfl
 unfold callWith;refine aab (abe (aaO ev (λa s₂ h₂=>aab (abF ?_)) λj j z=>z));obtain⟨y,u,H1,rfl,I1,ry,q1⟩:=h₂;obtain⟨hC,hn,T,of,hf,hfc⟩:=R s₂.heap I1.kIn;obtain⟨hp,g,d,tk,os⟩:=s₂;simp only[hplain];refine aab (wpAny_keeperOf_exc hC ?_);refine aab (HT.Dr F T hC hn hni hf hfc (by rw[acJ];simp) ?_);have I2:Inv X pins σ (upd H1 (hp.objs.size+1) (.ext (zM (hp.objs.size+1) C hp.objs.size))) ⟨HT.yI hp C [u],g,d,tk,os⟩:=I1.laid (a:=hp.objs.size+1) (o:=.ext (zM (hp.objs.size+1) C hp.objs.size)) (t':=tk) (λb w z=>HT.jO z) (acZ _) ⟨HT.uB,⟨_,HT.uB⟩,λh1 h2 e1 e2=>e2 _ e1⟩;refine adM (abY (N _ X.stack _ _ (hp.objs.size+1) hp.objs.size y u (hr [u]) (I2.env0.make C [u] []) ry bB) λr s' z=>?_)
 match r,z with
 | .ok (.ret v),z=>
  obtain⟨v',H',I3,rv,rfl,dx,hdx,rfl⟩:=I2.after z;cases(show v=Value.none from rv);have ndx:dx≠hp.objs.size+1:=λw=>by rw[w,bB] at hdx;cases hdx
  have hx:(upd (upd (upd H1 (hp.objs.size+1) (.ext (zM (hp.objs.size+1) C hp.objs.size))) (hp.objs.size+1) (.ext (zL (hp.objs.size+1) C hp.objs.size dx))) dx (.xd [(fl,y)])) (hp.objs.size+1)=Y (.ext (zL (hp.objs.size+1) C hp.objs.size dx)):=by rw[bh (Ne.symm ndx),bB]
  have e1:zL (hp.objs.size+1) C hp.objs.size dx s'.heap:=(show ObjOk X.prog X.w _ s'.heap _ (.ext (zL (hp.objs.size+1) C hp.objs.size dx)) from I3.hok _ _ hx).1;have I4:=I3.letgo hx;refine⟨rfl,aab (abe (wpAny_point (aam ⟨_,_,Y dx,rfl,(R s'.heap I3.kIn).1,e1,hxe _ _ ?_⟩)))⟩;refine Gi hs hfm hex I4 e1 rfl rfl rfl rfl 0.3 ?_ ?_
  ·exact aet (Nat.le_succ_of_le I1.sz)
  ·have n1:H1 (hp.objs.size+1)=L:=I1.hok.fresh (acZ _);rw[bh ndx] at hdx
   have eq:(λb=>if b=hp.objs.size+1 then L else upd (upd (upd H1 (hp.objs.size+1) (.ext (zM (hp.objs.size+1) C hp.objs.size))) (hp.objs.size+1) (.ext (zL (hp.objs.size+1) C hp.objs.size dx))) dx (.xd [(fl,y)]) b)=upd H1 dx (.xd [(fl,y)]):=by
    funext b;by_cases z1:b=hp.objs.size+1
    ·rw[aas z1,z1,bh (Ne.symm ndx),n1]
    ·rw[if_neg z1];by_cases z2:b=dx
     ·rw[z2,bB,bB]
     ·rw[bh z2,bh z2,bh z1,bh z1]
   rw[eq];exact q1 dx hdx
end
section
variable{X:Cx}{pins:List (tx×Obj)}{σ:St}{H:Hp}{s s':gV}{E:XK}{e:ce}
theorem Inv.track(I:Inv X pins σ H s){φ:TF->Prop}(hx:s.heap.get? x=Y ox)(hd:ox.data=.fields vs)(n:H x=L)(x0:X.s₀.heap.get? x=L)(hp:∀ p∈X.pn++pins,p.1≠x)
  (ok:φ s.heap) (st:∀ h1 h2:TF,φ h1->(∀ o,h1.get? x=Y o->h2.get? x=Y o)->φ h2):Inv X pins σ (upd H x 1.78) s:=by
 have nl:X.env.locals≠x:=λz=>by
  obtain⟨m,⟨o,es,ep,ho,hdo,w⟩,w⟩:=I.loc;rw[z,hx] at ho;cases ho;rw[hd] at hdo;cases hdo
 have ne0:∀ b o,X.s₀.heap.get? b=Y o->b≠x:=λb o q z=>by rw[z,x0] at q;cases q
 have sm:∀ b o,H b=Y o->upd H x 1.78 b=Y o:=λb o q=>by rw[bh λz=>?_];exact q;rw[z,n] at q;cases q
 refine⟨I.ok,I.os,I.bare,⟨I.base.keep,I.base.slot,λb o q m ne=>by rw[bh (ne0 b o q)];exact I.base.free b o q m ne,I.base.there,λb xs q=>sm b _ (I.base.tups b xs q),λb o u q=>sm b _ (I.base.frzs b o u q),λb ps q=>?_⟩,I.loc,I.cell,?_,λy c q=>?_,λp q=>?_,λb o q=>?_,I.len⟩
 ·obtain⟨more,z⟩:=I.base.tbls b ps q;exact⟨more,sm b _ z⟩
 ·rw[bh nl];exact I.free
 ·rw[bh λz=>?_];exact I.freeC y c q;obtain⟨v,o,ho,hdo⟩:=I.cell y c q;rw[z,hx] at ho;cases ho;rw[hd] at hdo;cases hdo
 ·obtain⟨h1,h2,h3⟩:=I.pin p q;exact⟨h1,by rw[bh (hp p q)];exact h2,h3⟩
 ·by_cases z:b=x
  ·subst z;rw[bB] at q;cases q;exact⟨ok,⟨_,hx⟩,st⟩
  ·rw[bh z] at q;exact(I.hok b o q).stay (λw w w hu=>hu) (λc hc=>sm c _ hc) λc xs hc=>sm c _ hc
structure Dz(X:Cx)(pins:List (tx×Obj))(H:Hp)(s:gV)(x T C dx:tx):Prop where
 fly:HT.Fly s.heap x T (.ref C) (Y dx)
 no:H T=L
 old:X.s₀.heap.objs.size<=T
 pin:∀ p∈X.pn++pins,p.1≠T
theorem IW(hs:X.stack=X.env::X.outer)(hfm:X.env.frame=Y X.env.locals)(hex:X.ex=[])(I:Inv X pins σ H s)(hx:qX X.prog X.w X.stack H s E e s'){Q:Unit->gV->Prop}
  (h:∀ s'' x T C dx H',e=.ref x->Inv X pins σ 1.18 s''->H' x=L->E (.ref C) (Y dx) H'->Dz X pins H' s'' x T C dx->Q () s'') :
  aeN 0.2 X.A (noteFrame e X.env) (λj s₂=>aeN 0.2 X.A (setFlight e L) Q E' s₂) E' s':=by
 obtain⟨x,T,C,dx,H',rfl,F,nx,nT,fx,fT,os,bare,un,hok,q⟩:=hx;have fin:∀ b∈AU X.stack,H b=L:=I.stkFree;have hl:s'.heap.FunFrames X.base X.stack:=KJ I.stack λb o hb ho=>un.slot b o ho (fin b hb) hb 0.3;have hfr:X.A.frames=Y (X.env::X.outer):=by rw[<- hs];exact I.ok.frames
 rw[hs] at hl;have nn:∀ b:tx,b∉([]:List tx):=λb=>by simp
 have fr':∀ b∈(X.env::X.outer).filterMap (·.frame),H' b=L:=λb hb=>by
  have hb:b∈AU X.stack:=by rw[hs];exact hb
  obtain⟨j,o,ho,j⟩:=I.stack.mem hb;exact un.free b o ho (fin b hb) (nn b)
 have no:∀ b o,s.heap.get? b=Y o->¬ (b=x\/b=T):=λb o h0 z=>by
  rcases z with z | z
  ·rw[z,fx] at h0;cases h0
  ·rw[z,fT] at h0;cases h0
 refine HT.UH hfr hl hfm F λh' T' sz F' Lf=>?_
 have un':Un (AU X.stack) [] H H' s.heap h':=by
  refine⟨λb o h0 n nb j=>?_,λb o h0 n hb j=>?_,un.free,λb o h0 j=>?_,un.tups,un.frzs,un.tbls⟩
  ·exact Lf.keep b o (by rw[hs] at nb;exact nb) (no b o h0) (un.keep b o h0 n nb (nn b))
  ·obtain⟨sl2,e2⟩:=un.slot b o h0 n hb (nn b);obtain⟨sl3,e3⟩:=Lf.slot b _ (by rw[hs] at hb;exact hb) e2;exact⟨sl3,e3⟩
  ·obtain⟨o',e'⟩:=un.there b o h0 (nn b);by_cases hb:b∈(X.env::X.outer).filterMap (·.frame)
   ·obtain⟨sl,e3⟩:=Lf.slot b o' hb e';exact⟨_,e3⟩
   ·exact⟨o',Lf.keep b o' hb (no b o h0) e'⟩
 have hok':HOk X.prog X.w H' h':=λa o ha=>by
  have tr:∀ b,(b=a\/H' b=Y (.own a))->H' b≠L:=λb hb z=>by
   rcases hb with hb | hb
   ·rw[hb,ha] at z;cases z
   ·rw[hb] at z;cases z
  refine(hok a o ha).stay (λb u hb hu=>Lf.keep b u (λz=>tr b hb (fr' b z)) (λz=>?_) hu) (λj z=>z) λj j z=>z;rcases z with z | z
  ·exact tr b hb (z ▸ nx)
  ·exact tr b hb (z ▸ nT)
 have I2:Inv X pins σ H' { s' with heap:=h' }:=I.call' (s':={ s' with heap:=h' }) (ch:=[]) os un' hok' bare λb z=>absurd z 0.3;obtain⟨j,⟨oe,vs,he,hc,hdx,hd,j⟩,j⟩:=id F'
 have x0:X.s₀.heap.get? x=L:=by
  cases q0:X.s₀.heap.get? x with
  | none=>rfl
  | some o=>obtain⟨o1,e1⟩:=I.base.there x o q0 (by rw[hex];simp);rw[fx] at e1;cases e1
 have s0:X.s₀.heap.objs.size<=s'.heap.objs.size:=by
  refine aaD I.ok.above (adt ?_);obtain⟨m,⟨o,es,ep,ho,j⟩,j⟩:=I.loc;obtain⟨o',ho'⟩:=un.there _ o ho (nn _);exact aaq ho'
 refine h _ x T' C dx H' rfl (I2.track he hd nx x0 (λp hp z=>?_) ⟨oe,vs,he,hc,hdx,hd⟩ λh1 h2 ⟨o,ws,z1,z2⟩ k=>⟨o,ws,k o z1,z2⟩) nx q ⟨F',hok.fresh sz,aaD s0 sz,λp hp z=>?_⟩
 rotate_left
 ·obtain⟨o',ho'⟩:=un.there p.1 p.2 (I.pin p hp).1 (nn _);exact absurd (aaq ho') (by rw[z];exact adP.mpr sz)
 have:=(I.pin p hp).1;rw[z,fx] at this;cases this
theorem MR{Q:Unit->gV->Prop}(I:Inv X pins σ (upd H' x 1.78) s)(L4:Dz X pins H' s x T C dx)
  (h:∀ s',Inv X pins σ (upd H' x 1.78) s'->Dz X pins H' s' x T C dx->Q () s'):aeN 0.2 A (setFlight (.ref x) L) Q E' s:=by
 obtain⟨neT,⟨oe,vs,he,hc,hdx,hd,h1⟩,oT,ts,hT,hdT,h3⟩:=id L4.fly;have h3z:3<ts.size:=(ace.mp h3).1;unfold setFlight;refine aab (abn he hd h1 ?_);rw[aas (show(Value.ref T != Value.none)=true from by simp)];refine abQ hT hdT h3z ?_;have dT1:=abV hdT (·.setIfInBounds 3 Value.none);have hT1:=abd (Obj.mapFields (·.setIfInBounds 3 Value.none)) hT (abZ dT1);have ot:∀ b,b≠T->(s.heap.update T (Obj.mapFields (·.setIfInBounds 3 Value.none))).get? b=s.heap.get? b:=λb hb=>aax s.heap _ (Ne.symm hb);have nT:upd H' x 1.78 T=L:=by rw[bh neT];exact L4.no
 have I2:=I.call (h':=s.heap.update T (Obj.mapFields (·.setIfInBounds 3 Value.none))) (g':=s.gens) (d':=s.drawn) (t':=s.toks) (ch:=[T]) (H':=upd H' x 1.78)
  ⟨λb o q w w nb=>(ot b λz=>nb (by simp[z])).trans q,λb o q w w nb=>⟨o.slots,(ot b λz=>nb (by simp[z])).trans q⟩,λb o w n w=>n,λb o q nb=>⟨o,(ot b λz=>nb (by simp[z])).trans q⟩,λw w z=>z,λw w w z=>z,λb ps z=>⟨#[],by rw[z];simp⟩⟩
  (λa o ha=>(I.hok a o ha).stay (λb u hb hu=>(ot b λz=>by
   rcases hb with hb | hb
   ·rw[<- hb,z,nT] at ha;cases ha
   ·rw[z,nT] at hb;cases hb).trans hu) (λw z=>z) λw w z=>z) I.bare (λb hb=>by
   obtain rfl:b=T:=by simpa using hb
   refine⟨.inr L4.old,λz=>?_,λy c hc' z=>?_,L4.pin⟩
   ·obtain⟨m,⟨o,es,ep,ho,hdo,w⟩,w⟩:=I.loc;rw[<- z,hT] at ho;cases ho;rw[hdT] at hdo;cases hdo
   ·obtain⟨v,o,ho,hdo⟩:=I.cell y c hc'
    rw[z,hT] at ho;cases ho;rw[hdT] at hdo;cases hdo)
 exact h _ I2 ⟨⟨neT,⟨oe,vs,(ot x (Ne.symm neT)).trans he,hc,hdx,hd,h1⟩,⟨_,_,hT1,dT1,by simp[h3z]⟩⟩,L4.no,L4.old,L4.pin⟩
end
section
variable{X:Cx}{k:Nat}{f:tx}{fd:FuncData}{ps:List Str}{sp:Sp}{dvs:List V}{ds:List ce}{E:XK}{x:Str}{p pos:Pos}{e:vx}{es:List vx}{t:TA}{pins:List (tx×Obj)}{σ:St}{H:Hp}{s:gV}{Q:VK}
def qbo(X:Cx)(pins:List (tx×Obj))(σ:St)(E:XK)(e:ce)(s':gV):Prop:=∃ H1 s1,Inv X pins σ H1 s1/\qX X.prog X.w X.stack H1 s1 E e s'
theorem GL(F:FnOk X.prog X.w X.K X.mg X.base (qX X.prog X.w) k f fd ps sp)(hr:Room k X.A)(hg:Gl X x)(hm:X.mg x=Y (.ref f))(hk:W.keepIn X.K (.ref f)=true)(hb:Binds X.K fd ps ds)(hd:Vals dvs ds)
  (ha:PA X (e::es) t) (hxe:∀ v s',X.xe v s'->False) (I:Inv X pins σ H s) (h:Aa sp dvs E t σ H Q) (hdb:(x==("__debug__":Str))=false:=by decide)
  (he:WP (e::es) X.env=(false,eval e X.env)::WP es X.env:=by rfl) (hpl:(backTo pos 2.2).any (·.1)=false:=by rfl) :
  aeN 0.2 X.A (eval (.Call 6.0 (e::es) [] pos) X.env) 3.4 (qbo X pins σ E) s:=by
 refine abT (sQ I hg hm ?_ hdb);refine aek (h₀:=X.base) I.ok.mod.kin hk (aaO 5.8 (λus s1 ⟨vs,H1,I1,r,q⟩=>⟨I1.kIn,?_⟩) λv s' z=>(hxe v s' z).elim) he hpl;have r2:Vals (vs++dvs) (us++ds):=r.append hd;have hl:(us++ds).length=ps.length:=by rw[<- r2.length];exact F.len _ _ _ _ q
 refine adM (abY (F.run X.A X.stack s1 H1 ⟨us,[]⟩ (us++ds) (vs++dvs) Q E hr I1.env0 (hb s1 us I1.kIn hl) r2 q) λr s' hq=>?_)
 match r,hq with
 | .error v,hq=>exact⟨H1,s1,I1,hq⟩
 | .ok (.ret u),hq=>exact I1.after hq
end
end L2
namespace HT
section
variable{M:Model}{A:SN}{E:ce->gV->Prop}{h:TF}{g:Array GenState}{d:Drawn}{t:Nat}{os:OsState}
variable{nm q nm' q':Str}{C N C' N':tx}{bs bm bs' bm':List ce}{hdct hdct':Bool}{sn sn':List Str}{sub sub':List ce}{ab ab':Bool}{col col':Option Bool}{dd dd':Option tx}{k0 k1 k2 k3 k5 l0 l1 l2 l3 l5:Option ce}{newId newId':String}
theorem EY{Q:Bool->gV->Prop}(hC:h.get? C=Y 1.3)(hG:h.get? C'=Y (excClassObj nm' q' C' N' bs' bm' hdct' sn' sub' ab' col' dd' l0 l1 l2 l3 l5 newId'))
  (he:h.get? e=Y oe) (hcls:oe.cls=.ref C) (hin:(Value.ref C::bm).contains (.ref C')=true) (hbase:bm'.contains (.type "BaseException")=true)
  (hq:Q true ⟨h,g,d,t,os⟩):aeN M A (excMatches (.ref e) (.ref C')) Q E ⟨h,g,d,t,os⟩:=by
 have hcB:(Value.ref C'::bm').contains (.type "BaseException")=true:=by rw[adh,hbase,aeo]
 have f:=tc_notTuple;unfold excMatches
 repeat (first | (with_reducible refine abJ he ?_;rw[hcls]) | with_reducible refine abJ hG ?_ | (with_reducible refine acx hG ?_;rw[hcB]) | (with_reducible refine acx hC ?_;rw[hin]) | wp_step)
 exact hq
end
end HT
namespace L2
noncomputable abbrev Cx.suite(X:Cx)(v:ce)(E:ce->gV->Prop):Cx:={ X with A:=X.A.mark (Y v),calm:=false,xe:=E }
section
variable{X:Cx}{pins:List (tx×Obj)}{σ:St}{H:Hp}{s:gV}{v:ce}{E:ce->gV->Prop}
theorem Cx.Ok.suite(ok:X.Ok):(X.suite v E).Ok:=⟨ok.mod,ok.kind,ok.glob,ok.blt,ok.above,ok.inj,ok.has,ok.cab,(λz=>by cases z),ok.frames,ok.stk,ok.exf,ok.bs,ok.bsz,ok.noex,ok.exfs,ok.funs,ok.frf⟩
theorem Inv.suite(I:Inv X pins σ H s):Inv (X.suite v E) pins σ H s:=⟨I.ok.suite,I.os,I.bare,I.base,I.loc,I.cell,I.free,I.freeC,I.pin,I.hok,I.len⟩
theorem Inv.unsuite(ok:X.Ok)(I:Inv (X.suite v E) pins σ H s):Inv X pins σ H s:=⟨ok,I.os,I.bare,I.base,I.loc,I.cell,I.free,I.freeC,I.pin,I.hok,I.len⟩
def yW(K:aeO)(C:tx)(bm:List ce):Prop:=∃ nm q N bs hdct sn sub ab col dd k0 k1 k2 k3 k5 newId,∀ h:TF,K.In h->h.get? C=Y 1.3
end
def OB(K:aeO)(C:tx)(fl:Str):Sp:=λvs H Q z=>∃ x t v,vs=[.ref x,v]/\H x=Y (.ext (zM x C t))/\yX K C fl/\∀ dx,H dx=L->Q .non (upd (upd H x (.ext (zL x C t dx))) dx (.xd [(fl,v)]))
theorem Vb{K:aeO}{k:Nat}(F:FnOk P w K mg base GX k f fd ps (OB K C fl))(hb:Binds K fd ps [])(hl:ps.length=2)(c:yX K C fl) :
  JN P w K mg base k C f fl:=λA outer s H x t v u hr e0 rv hx=>by
 have KX:K.In s.heap:=e0.mod.kin.keeps λb o e=>(e0.bs b o e).1;have b:=hb s [.ref x,u] KX (by rw[hl];rfl);exact F.run A outer s H ⟨[.ref x,u],[]⟩ ([.ref x,u]++[]) [.ref x,v] _ E0 hr e0 b (.cons rfl (.cons rv .nil)) ⟨x,t,v,rfl,hx,c,λdx hdx=>⟨rfl,dx,hdx,rfl⟩⟩
theorem Vc{K:aeO}{k:Nat}{kV oc:ce}{od:Option tx}{osl:Array 9.0}
  (lk:K.lookup f=Y ⟨oc,od,.func (W.fnOf name qual params [.Assign [.Attribute (.Name a p1) fl p2] (.Name b p3) pos] scope dV kV doc pm an cdv ct),osl⟩) (hcd:W.codeIn K cdv qual=true) (S:aQ [a,b] [a,b] scope)
  (a1:(a==("__debug__":Str))=false) (a2:(a==("__classdict__":Str))=false) (b1:(b==("__debug__":Str))=false) (b2:(b==("__classdict__":Str))=false) :
  FnOk P w K mg base GX (k+1) f (W.fnOf name qual params [.Assign [.Attribute (.Name a p1) fl p2] (.Name b p3) pos] scope dV kV doc pm an cdv ct) [a,b] (OB K C fl):=
 QN lk hcd S (λvs H Q E ⟨x,t,v,e,_⟩=>by rw[e];rfl) λA outer s H vs Q E hr z0=>by
  obtain⟨x,t,v,ev,hx,c,q⟩:=z0;subst ev;have vis:∀ y∈[a,b],Wz scope y:=λy hy=>(S.par y hy).elim .inl λz=>.inr (.inl z);exact⟨_,wc (TW (pv 0 (hv:=vis a 0.3) (hd:=a1) (hcd:=a2)) (pv 1 (hv:=vis b 0.3) (hd:=b1) (hcd:=b2)) rfl),v,rfl,.ref x,rfl,x,C,t,rfl,hx,c,q⟩
end L2
namespace L2
section
variable{X:Cx}{pins:List (tx×Obj)}{σ:St}{s:gV}{E:ce->gV->Prop}
theorem FU{C:tx}{b₀:QO}{suite:List QO}{D:rS}(I:Inv X pins σ 1.18 s)(L4:Dz X pins H' s x T C dx)
  (hC:yW X.K C bm) (hG:yW X.K G bmG) (hin:(Value.ref C::bm).contains (.ref G)=true) (hb:bmG.contains (.type "BaseException")=true) (hg:Gl X g) (hm:X.mg g=Y (.ref G))
  (hS:∀ v,PSs (X.suite v λu u=>False) (b₀::suite) ts) (h:ts D σ 1.18) (hd:(g==("__debug__":Str))=false:=by decide) :
  aeN 0.2 X.A (handleBy (.ref x) X.env [.ExceptHandler (Y (.Name g gp)) L (b₀::suite) hp]) (SP X pins D) E s:=by
 obtain⟨nm,q,N,bs,hdct,sn,sub,ab,col,dd,k0,k1,k2,k3,k5,newId,hC⟩:=hC;obtain⟨nm',q',N',bs',hdct',sn',sub',ab',col',dd',l0,l1,l2,l3,l5,newId',hG⟩:=hG;obtain⟨oe,_,he,hc,_⟩:Gu x C dx s.heap:=(show ObjOk X.prog X.w _ s.heap x (.ext (Gu x C dx)) from I.hok x _ bB).1;refine wpAny_handleBy_cons (codeAny_handlers_test (acD I.ok.kind hg (adZ (by rw[I.ok.glob];exact I.mod.glob.keeps I.bk) hm ?_) hd)) (by intro z;cases z);have I0:=I;have L0:=L4;obtain⟨hh,gg,ddr,tk,os⟩:=s;refine HT.EY (hC hh I0.kIn) (hG hh I0.kIn) he hc hin hb ?_;show codeAny _ _ _ _ _;refine codeAny_handlers_suite (MR I0 L0 λs1 I1 L1=>?_);refine aaO (hS (.ref x) pins s1 _ _ _ I1.suite h) (λf s3 z=>?_) λu u z=>z.elim
 match f,z with
 | .next,⟨σ',H1,I3,q3⟩=>exact⟨σ',H1,I3.unsuite I.ok,q3⟩
 | .brk,⟨σ',H1,I3,q3⟩=>exact⟨σ',H1,I3.unsuite I.ok,q3⟩
 | .cont,⟨σ',H1,I3,q3⟩=>exact⟨σ',H1,I3.unsuite I.ok,q3⟩
 | .ret _,⟨v,σ',H1,I3,rv,q3⟩=>exact⟨v,σ',H1,I3.unsuite I.ok,rv,q3⟩
end
section
variable{X:Cx}{k:Nat}{f:tx}{fd:FuncData}{ps:List Str}{sp:Sp}{dvs:List V}{ds:List ce}{x:Str}{p cpos:Pos}{e:vx}{es:List vx}{t:TA}
def qaG(X:Cx)(G:tx)(ts:TS)(D:rS)(σ:St):XK:=λCv od H1=>∃ C dx bm,Cv=.ref C/\od=Y dx/\yW X.K C bm/\(Value.ref C::bm).contains (.ref G)=true/\∀ a,H1 a=L->ts D σ (upd H1 a (.ext (Gu a C dx)))
theorem LR{pa:Pos}{j:Nat}{b₀:QO}{suite:List QO}
  (F:FnOk X.prog X.w X.K X.mg X.base (qX X.prog X.w) k f fd ps sp) (hr:Room k X.A) (hgf:Gl X x) (hmf:X.mg x=Y (.ref f)) (hkp:W.keepIn X.K (.ref f)=true) (hb:Binds X.K fd ps ds) (hdv:Vals dvs ds) (ha:PA X (e::es) t)
  (hxe:∀ v s',X.xe v s'->False) (hG:yW X.K G bmG) (hbG:bmG.contains (.type "BaseException")=true) (hg:Gl X g) (hm:X.mg g=Y (.ref G)) (hN:X.N.Nodup) (hj:X.N[j]?=Y y) (hy:NV X.env.scope y) (hf:X.fn y=true\/X.env.scope.names.lookup y=Y .local)
  (hS:∀ v,PSs (X.suite v λz z=>False) (b₀::suite) ts) (hs:X.stack=X.env::X.outer) (hfm:X.env.frame=Y X.env.locals) (hex:X.ex=[])
  (hdb:(x==("__debug__":Str))=false:=by decide) (hd:(g==("__debug__":Str))=false:=by decide)
  (he:WP (e::es) X.env=(false,eval e X.env)::WP es X.env:=by rfl) (hpl:(backTo cpos 2.2).any (·.1)=false:=by rfl) (hsw:swapsWith (.Call 6.0 (e::es) [] cpos) 1.02 pa.line X.env=pure false:=by rfl) :
  PS X (.Try [.Assign [.Name y py] (.Call 6.0 (e::es) [] cpos) pa] [.ExceptHandler (Y (.Name g gp)) L (b₀::suite) hp] [] [] pos) (λD σ H=>Aa sp dvs (qaG X G ts D σ) t σ H λv H1=>D.nx (σ.set j (Y v)) H1):=by
 intro pins s σ H D I h;refine wpAny_Try_except (adu (wpAny_Assign_Name (aaO (GL F hr hgf hmf hkp hb hdv ha hxe I h hdb he hpl) (λv s1 hq=>?_) λe' s' hq=>?_) hsw))
 ·obtain⟨w,H1,I1,rw',q1⟩:=hq;exact oI I1 hN hj hy rw' (λs2 I2=>acj (acj ⟨_,H1,I2,q1⟩)) hf
 ·obtain⟨H1,s1,I1,fl⟩:=hq;refine IW hs hfm hex I1 fl λs'' a T C dx H' ea I2 na q L4=>?_;subst ea;obtain⟨C',dx',bm,eC,ed,hC,hin,hts⟩:=q;cases eC;cases ed;exact FU I2 L4 hC hG hin hbG hg hm hS (hts a na) hd
end
end L2
namespace M
open L2
inductive SL where
 | ok (o:qW)
 | xc (i:Option Int) (S:ac)
noncomputable abbrev MY:=be->ac->Option SL
inductive RY where
 | val (d:D) (S:ac)
 | xc (i:Option Int) (S:ac)
def PostX(K:aeO)(C:tx)(fl:Str)(μ:Fp)(H:Hp)(S':ac)(i:Option Int)(E:XK):Prop:=∀ dx H' μ',Ext μ H μ' H'->SOk K μ' S' H'->H' dx=L->E (.ref C) (Y dx) (upd H' dx (.xd [(fl,vI i)]))
def PostY(K:aeO)(C:tx)(fl:Str)(E:XK)(μ:Fp)(H:Hp)(o:SL)(D:rS):Prop:=match o with
 | .ok o=>PostS K μ H o D
 | .xc i S'=>PostX K C fl μ H S' i E
inductive tY(K:aeO)(C:tx)(fl:Str)(E:XK)(m:MY)(D:rS)(σ:L2.St)(H:Hp):Prop
 | mk (μ:Fp) (S:ac) (env:be) (o:SL) (hS:SOk K μ S H) (hE:EOk K μ H σ env) (h:m env S=Y o) (post:PostY K C fl E μ H o D)
def DY(X:Cx)(C:tx)(fl:Str)(E:XK)(st:QO)(m:MY):Prop:=PS X st (tY X.K C fl E m)
def SV(X:Cx)(C:tx)(fl:Str)(E:XK)(st:List QO)(m:MY):Prop:=PSs X st (tY X.K C fl E m)
structure XOk(X:Cx)(E:XK):Prop where
 hs:X.stack=X.env::X.outer
 hfm:X.env.frame=Y X.env.locals
 hex:X.ex=[]
 hxe:∀ e' s',aeN 0.2 X.A (leaving X.env e') (λ_ s''=>qX X.prog X.w X.outer X.H₀ X.s₀ E e' s'') (λ_ _=>False) s'->X.xe e' s'
section
variable{X:Cx}{K:aeO}{μ μ':Fp}{H H':Hp}{S S':ac}{C:tx}{fl:Str}{E:XK}{Z:rS}{st:QO}{pos:Pos}
theorem PostX.ext(e:Ext μ H μ' H')(p:PostX K C fl μ H S' i E):PostX K C fl μ' H' S' i E:=λdx H2 μ2 e2 s n=>p dx H2 μ2 (e.trans e2) s n
theorem PostY.ext(e:Ext μ H μ' H')(p:PostY K C fl E μ H o Z):PostY K C fl E μ' H' o Z:=by
 cases o with
 | ok o=>exact PostS.ext e p
 | xc i S=>exact PostX.ext e p
def Cw(m:MS):MY:=λenv S=>(m env S).bind λo=>Y (.ok o)
theorem Lc(h:DS X st m):DY X C fl E st (Cw m):=PS.imp h λD σ H z0=>by
 obtain⟨μ,S,env,o,hS,hE,hm,post⟩:=z0;obtain⟨o1,h1,hm⟩:=aaa.mp hm;cases hm;exact⟨μ,S,env,o1,hS,hE,h1,post⟩
theorem VB:SV X C fl E [] (Cw bv):=PSs.imp Lg λD σ H z0=>by
 obtain⟨μ,S,env,o,hS,hE,hm,post⟩:=z0;obtain⟨o1,h1,hm⟩:=aaa.mp hm;cases hm;exact⟨μ,S,env,o1,hS,hE,h1,post⟩
def lL(a b:MY):MY:=λenv S=>(a env S).bind λo=>match o with | .ok 1.29=>b env' S' | o=>Y o
theorem RE(h1:DY X C fl E st a)(h2:SV X C fl E rest b):SV X C fl E (st::rest) (lL a b):=PSs.imp (wY h1 h2) λD σ H z0=>by
 obtain⟨μ,S,env,o,hS,hE,hm,post⟩:=z0;obtain⟨o1,h1,hm⟩:=aaa.mp hm;refine⟨μ,S,env,o1,hS,hE,h1,?_⟩
 match o1,hm with
 | .ok 1.29,hm=>exact λσ' H' μ' e s r=>⟨μ',S',env',o,s,r,hm,post.ext e⟩
 | .ok (.rt d S'),hm=>cases hm;exact post
 | .ok (.bk d S'),hm=>cases hm;exact post
 | .ok (.ct d S'),hm=>cases hm;exact post
 | .xc i S',hm=>cases hm;exact post
theorem VA(h1:DY X C fl E st a):SV X C fl E [st] a:=wc h1
def Mo(t:MT)(a b:MY):MY:=λenv S=>(t env S).bind λp=>if p.1=true then a env p.2 else b env p.2
theorem dy_if{mt:MT}(hc:DT X c mt)(ha:SV X C fl E a ma)(hb:SV X C fl E b mb):DY X C fl E (.If c a b pos) (Mo mt ma mb):=PS.imp (WR hc ha hb) λD σ H z0=>by
 obtain⟨μ,S,env,o,hS,hE,hm,post⟩:=z0;obtain⟨⟨k,S1⟩,h1,hm⟩:=aaa.mp hm;refine⟨μ,S,env,k,S1,hS,hE,h1,λH1 μ1 e1 s1=>?_⟩;cases k with
 | true=>rw[aas rfl] at hm ⊢;exact⟨μ1,S1,env,o,s1,hE.mono e1,hm,post.ext e1⟩
 | false=>rw[if_neg aeQ] at hm ⊢;exact⟨μ1,S1,env,o,s1,hE.mono e1,hm,post.ext e1⟩
def ydI:D->Option (Option Int)
 | .non=>Y L
 | .int i=>Y (Y i)
 | _=>L
theorem SW{d:D}(r:Rep K μ H v d)(h:ydI d=Y i):v=vI i:=by
 cases d<;>first | (cases h;cases r;rfl) | cases h
def sM(m:ME):MY:=λenv S=>(m env S).bind λp=>(ydI p.1).bind λi=>Y (.xc i p.2)
def GS(P:Op)(w:Qa)(K:aeO)(mg:Str->Option ce)(base:TF)(x:Str)(C:tx)(fl:Str):Prop:=∃ f,GW K C f/\JN P w K mg base 1 C f fl/\mg x=Y (.ref C)
theorem RF(R:GS X.prog X.w X.K X.mg X.base x C fl)(hr:Room 2 X.A)(hg:Gl X x)(he:DE X e m)(hcalm:X.calm=true)(O:XOk X E)
  (hd:(x==("__debug__":Str))=false) (hst:WP [e] X.env=(false,eval e X.env)::WP [] X.env):DY X C fl E (.Raise (Y (.Call (.Name x np) [e] [] cpos)) L pos) (sM m):=by
 obtain⟨f,R,N,hm⟩:=R;refine PS.imp (OW (E:=E) R N (λus=>hr.make C us []) hg hm he hcalm O.hs O.hfm O.hex O.hxe hd hst) λD σ H ⟨μ,S,env,o,hS,hE,hm,post⟩=>?_;obtain⟨⟨d,S1⟩,h1,hm⟩:=aaa.mp hm;obtain⟨i,h2,hm⟩:=aaa.mp hm;cases hm;refine⟨μ,S,env,d,S1,hS,hE,h1,λv H1 μ1 e1 s1 r1 dx n=>?_⟩;rw[SW r1 h2];exact post dx H1 μ1 e1 s1 n
def lV(g:MG)(body:MY):List D->be->ac->Option SL
 | [],env,S=>Y (.ok 9.2)
 | d::ds,env,S=>(g d env S).bind λp=>(body p.1 p.2).bind λo=>match o with
  | .ok 1.58=>lV g body ds e s
  | .ok (.ct e s)=>lV g body ds e s
  | .ok (.bk e s)=>Y (.ok 1.58)
  | .ok 1.56=>Y (.ok 1.56)
  | .xc i s=>Y (.xc i s)
def At(mi:MA)(g:MG)(body:MY):MY:=λenv S=>(mi env S).bind λp=>lV g body p.1 env p.2
theorem qaO(hp:PassesOwn 0.2 X.A X.env X.xe)(hc:X.calm=true)(hi:DI X tg iter mi)(hg:DG X tg g)(hb:SV X C fl E body mb)
  (hs:∀ x,Yx iter X.env x=pure x):DY X C fl E (.For tg iter body [] pos) (At mi g mb):=PS.imp (HH hp hc hi hg hb hs) λD σ H z0=>by
 obtain⟨μ,S,env,o,hS,hE,hm,post⟩:=z0;obtain⟨⟨xs,S1⟩,h1,hm⟩:=aaa.mp hm;refine⟨μ,S,env,xs,S1,hS,hE,h1,λJ H1 μ1 e1 s1 it=>?_⟩
 refine⟨λi n σ H=>n=xs.length - i/\i<=xs.length/\XH X.K μ1 H1 (λμ H o=>PostY X.K C fl E μ H o D) (lV g mb (xs.drop i)) σ H,
  ⟨xs.length,by simp,acy _,μ1,S1,env,o,s1.ext,s1,hE.mono e1,by rw[abR];exact hm,post.ext e1⟩,?_⟩
 rintro i n σ' H' ⟨rfl,hi,μ',S',env',o',e',s',r',hl,post'⟩;have iti:=it μ' H' S' e'.toP s' i;by_cases hlt:i<xs.length
 ·refine .inr ⟨(iti.1 xs[i] 1.52).1,XH X.K μ1 H1 (λμ H o=>PostY X.K C fl E μ H o D) (lV g mb (xs.drop (i+1))),
   λσ2 H2 z=>⟨xs.length - (i+1),by omega,rfl,hlt,z⟩,λx H2 y=>?_⟩
  obtain⟨e2,s2,rx⟩:=(iti.1 xs[i] 1.52).2 x H2 y;rw[abw hlt] at hl;obtain⟨⟨env3,S3⟩,h3,hl⟩:=aaa.mp hl;obtain⟨o4,h4,hl⟩:=aaa.mp hl;refine⟨μ',S',env',xs[i],env3,S3,s2,r'.mono e2,rx,h3,λσ3 H3 μ3 e3 s3 r3=>⟨μ3,S3,env3,o4,s3,r3,h4,?_⟩⟩;have eT:Ext μ1 H1 μ3 H3:=(e'.trans e2).trans e3;have pT:PostY X.K C fl E μ3 H3 o' D:=(post'.ext e2).ext e3
  match o4,hl with
  | .ok (.nx e5 s5),hl=>exact λσ6 H6 μ6 e6 s6 r6=>⟨μ6,s5,e5,o',eT.trans e6,s6,r6,hl,pT.ext e6⟩
  | .ok (.ct e5 s5),hl=>exact λσ6 H6 μ6 e6 s6 r6=>⟨μ6,s5,e5,o',eT.trans e6,s6,r6,hl,pT.ext e6⟩
  | .ok (.bk e5 s5),hl=>cases hl;exact pT
  | .ok (.rt d5 s5),hl=>cases hl;exact pT
  | .xc i5 s5,hl=>cases hl;exact pT
 ·have e:i=xs.length:=by omega
  subst e;refine .inl ⟨iti.2 (aal _),?_⟩;rw[acv] at hl;cases hl;exact post' σ' H' μ' s'.ext s' r'
end
def spY(K:aeO)(C:tx)(fl:Str)(n:Nat)(fy:List D->ac->Option RY):Sp:=λvs H Q E=>∃ μ S ds r,SOk K μ S H/\Reps K μ H vs ds/\ds.length=n/\fy ds S=Y r/\match r with | .val d S'=>Post K μ H S' d Q | .xc i S'=>PostX K C fl μ H S' i E
structure FnY(P:Op)(w:Qa)(K:aeO)(mg:Str->Option ce)(base:TF)(k:Nat)(x:Str)(n:Nat)(fy:List D->ac->Option RY)(C:tx)(fl:Str):Prop where
 ex:∃ (a:tx) (fd:FuncData) (ps:List Str),ps.length=n/\FnOk P w K mg base (qX P w) k a fd ps (spY K C fl n fy)/\mg x=Y (.ref a)/\W.keepIn K (.ref a)=true/\Binds K fd ps []
theorem FnY.up{K:aeO}{k k':Nat}(F:FnY P w K mg base k x n fy C fl)(h:k<=k':=by decide):FnY P w K mg base k' x n fy C fl:=by
 obtain⟨a,fd,ps,h1,h2,h3⟩:=F.ex;exact⟨a,fd,ps,h1,h2.mono h,h3⟩
def BO(N:List Str)(m:MY)(n:Nat):List D->ac->Option RY:=λds S=>if ds.length=n then(m 1.50 S).bind λo=>match o with | .ok (.rt d S')=>Y (.val d S') | .ok (.nx _ S')=>Y (.val .non S') | .xc i S'=>Y (.xc i S') | _=>L else L
theorem xok{K:aeO}{s:gV}:XOk (vU (qX P w) P w K mg base N q sc a cdv A outer s H E) E:=
 ⟨rfl,rfl,rfl,λe s' h=>aaO h (λu u z=>z) λu u z=>z.elim⟩
theorem qau{K:aeO}{k:Nat}{st:QO}
  (F:bR K mg x st) (Sc:aQ N ps (aw st)) (hb:rT x st ps)
  (hbody:∀ (a:tx) (cdv:ce) (A:SN) (outer:List PySem.Env) (s:gV) (H:Hp) (E:XK),Room k (A.deeper (envOfC x (aw st) s.heap.objs.size a cdv)) ->
   SV (vU (qX P w) P w K mg base N x (aw st) a cdv A outer s H E) C fl E (aM st) m) :
  FnY P w K mg base (k+1) x ps.length (BO N m ps.length) C fl:=by
 obtain⟨a,fd,F,hmg⟩:=F.ex;have hbd:=F.binds hb;refine⟨a,fd,ps,rfl,?_,hmg,F.kp,hbd⟩;obtain⟨oc,od,kV,doc,pm,an,cdv,ct,osl,rfl,lk,hcd⟩:=F.ex;refine QN lk hcd Sc (λvs H Q E ⟨μ,S,ds,r,hS,hr,hn,_⟩=>by rw[hr.length,hn]) λA outer s H vs Q E hr ⟨μ,S,ds,r,hS,hrp,hn,hf,post⟩=>⟨_,hbody a cdv A outer s H E hr,?_⟩
 have hEnv:EOk K μ H (L2.start N vs) 1.50:=by unfold L2.start ba;rw[hrp.length];exact EOk.start hrp
 unfold BO at hf;rw[aas hn] at hf;obtain⟨o,h1,hf⟩:=aaa.mp hf
 match o,hf with
 | .ok (.rt d S'),hf=>cases hf;exact⟨μ,S,_,_,hS,hEnv,h1,post⟩
 | .ok (.nx e S'),hf=>cases hf;exact⟨μ,S,_,_,hS,hEnv,h1,λσ' H' μ' e s' z=>post .non H' μ' e s' .non⟩
 | .xc i S',hf=>cases hf;exact⟨μ,S,_,_,hS,hEnv,h1,post⟩
def GV(K:aeO)(mg:Str->Option ce)(g:Str)(C:tx):Prop:=∃ G bm bmG,mg g=Y (.ref G)/\yW K C bm/\yW K G bmG/\(Value.ref C::bm).contains (.ref G)=true/\bmG.contains (.type "BaseException")=true
end M
namespace M
open L2
def Aw(n:Nat)(fy:List D->ac->Option RY)(ms:MA)(j:Nat)(b:Bool):MS:=λenv S=>(ms env S).bind λp=>if p.1.length=n then(fy p.1 p.2).bind λr=>match r with
 | .val d S'=>Y (.nx (env.set j (Y d)) S')
 | .xc _ S'=>Y (.rt (.bl b) S') else L
section
variable{X:Cx}{K:aeO}{μ μ':Fp}{H H':Hp}{S S':ac}{C:tx}{fl:Str}
theorem VF{k:Nat}{e:vx}{es:List vx}{j:Nat}{pa:Pos}(F:FnY X.prog X.w X.K X.mg X.base k f n fy C fl)(hr:Room k X.A)(hgf:Gl X f)(ha:DA X (e::es) ms)
  (hxe:∀ v s',X.xe v s'->False) (hG:GV X.K X.mg g C) (hg:Gl X g) (hN:X.N.Nodup) (hj:X.N[j]?=Y y) (hy:X.env.scope.names.lookup y=Y .local)
  (hs:X.stack=X.env::X.outer) (hfm:X.env.frame=Y X.env.locals) (hex:X.ex=[])
  (hdb:(f==("__debug__":Str))=false) (hd:(g==("__debug__":Str))=false)
  (he:WP (e::es) X.env=(false,eval e X.env)::WP es X.env) (hpl:(backTo cpos 2.2).any (·.1)=false)
  (hsw:swapsWith (.Call (.Name f p) (e::es) [] cpos) 1.02 pa.line X.env=pure false) :
  DS X (.Try [.Assign [.Name y py] (.Call (.Name f p) (e::es) [] cpos) pa] [.ExceptHandler (Y (.Name g gp)) L [.Return (Y (.Constant 1.61 jb pb)) pr] hp] [] [] pos) (Aw n fy ms j b):=by
 obtain⟨a,fd,ps,hn,F,hm,hkp,hb⟩:=F.ex;obtain⟨G,bm,bmG,hmg,hC,hGG,hin,hbG⟩:=hG;intro pins s σ H D I h;refine LR F hr hgf hm hkp hb .nil ha hxe hGG hbG hg hmg hN hj (.inl hy) (.inr hy) (λv=>show PSs (X.suite v λz z=>False) _ (Ye X.K (bw (mC (.bl b)))) from M.Le (M.RN (X:=X.suite v λz z=>False) Xz)) hs hfm hex hdb hd he hpl hsw pins s σ H D I ?_;obtain⟨μ,S,env,o,hS,hE,hm,post⟩:=h;obtain⟨⟨xs,S1⟩,h1,hm⟩:=aaa.mp hm;dsimp only at hm;split at hm
 ·rename_i hx;obtain⟨r,h2,hm⟩:=aaa.mp hm;refine⟨μ,S,env,xs,S1,hS,hE,h1,λvs H1 μ1 e1 s1 r1=>?_⟩;rw[aaN];refine⟨μ1,S1,xs,r,s1,r1,hx,h2,?_⟩;cases r with
  | val d S2=>cases hm;exact λv H2 μ2 e2 s2 r2=>post _ H2 μ2 1.64 s2 ((hE.mono 1.64).set r2 j)
  | xc q S2=>
   cases hm;refine λdx H2 μ2 e2 s2 nx=>⟨C,dx,bm,rfl,rfl,hC,hin,λb' nb=>?_⟩
   obtain⟨e3,s3⟩:=s2.laid (o:=.xd [(fl,vI q)]) nx;obtain⟨e4,s4⟩:=s3.laid (o:=.ext (Gu b' C dx)) nb;have eT:=((e1.trans e2).trans e3).trans e4;exact⟨μ2,S2,env,.rt (.bl b) S2,s4,hE.mono eT,rfl,λv H' μ' e s r=>post v H' μ' (eT.trans e) s r⟩
 ·cases hm
end
end M
namespace HT
open PySem PySem.Spec PyProof.Rows Builtin
section
variable{prog:Op}{w:Qa}{A:SN}{E:ce->gV->Prop}{s:gV}
theorem Bc{it t:tx}(hne:t≠it):∀ (n i:Nat) (s:gV) (Q:List ce->gV->Prop),s.heap.IsListIter it t i->s.heap.IsList t items->i+n<=items.size ->
  (∀ h':TF,h'.IsListIter it t (i+n)->Heap.SameBut it s.heap h'->h'.IsList t items->Q ((items.toList.drop i).take n) { s with heap:=h' })->aeN 1.0 A (draw 6.5 n) Q E s
 | 0=>λi s Q hit hl z hQ=>by
  show aeN _ _ (pure []) Q E s;exact aam (by simpa using hQ s.heap hit (Heap.SameBut.refl ..) hl)
 | n+1=>λi s Q hit ht hle hQ=>by
  have hlt:i<items.size:=by omega
  show aeN _ _ (pyNext 6.5 >>= _) Q E s;refine aab (aeb hit ht (x:=items[i]) (by simp[hlt]) λh₁ hit₁ hs₁=>?_)
  have ht₁:h₁.IsList t items:=by
   obtain⟨o,ho,r⟩:=ht;exact⟨o,hs₁.extBut t o hne ho,r⟩
  refine aab (abe (Bc hne n (i+1) _ _ hit₁ ht₁ 0.0 λh₂ hit₂ hs₂ ht₂=>aam ?_));have hd:items.toList.drop i=items[i]::items.toList.drop (i+1):=by simp[abw,hlt]
  have:=hQ h₂ (by rw[show i+(n+1)=i+1+n by omega];exact hit₂) (hs₁.trans hs₂) ht₂;rw[hd,List.take_succ_cons] at this;exact this
theorem tS{x1}(hh:A.handled=L)(ht:s.heap.IsList t items)
  (hn:(assignEach elts env).length=items.size) (hstar:(assignEach elts env).findIdx? (·.1)=L)
  (h:∀ h',Heap.ExtBut s.heap.objs.size s.heap h'->aeN 1.0 A (assignInOrder ((assignEach elts env).map (·.2)) items.toList) Q E { s with heap:=h' }) :
  aeN 1.0 A (assign (.Tuple elts x1 pos) env (.ref t)) Q E s:=by
 have hlt:t≠s.heap.objs.size:=by obtain⟨o,ho,z⟩:=ht;exact aaM (aaq ho)
 rw[assign_Tuple];refine aab (abF ?_);unfold unpack;rw[hn,hstar];refine aab (abe ?_);unfold unpackItems;refine aab ?_;unfold notIterableAtAll;refine aab (wpAny_specialOf ht.typeIs slot_list_iter.lookup ?_);refine aam ?_;simp only[aaU,abU];refine aab (abe (acm ht ?_))
 have ht0:(s.heap.push { cls:=.type "list_iterator",data:=.fields #[.ref t,.int 0 0] }).IsList t items:=by
  obtain⟨o,ho,r⟩:=ht;exact⟨o,aaf _ ho,r⟩
 refine aab (abe (Bc hlt items.size 0 _ _ ⟨_,aay _ rfl,rfl,rfl⟩ ht0 0.0 λh₁ hit₁ hs₁ ht₁=>?_))
 have hall:List.take items.size (List.drop 0 items.toList)=items.toList:=by
  rw[abR];exact abS 0.3
 rw[hall];rw[if_neg 0.3];refine aab (abe (aeh hh hit₁ ht₁ 0.3 λh₂ he₂=>?_));simp only[Option.isSome_none,aaU,abU];exact aam (h h₂ λb o hb e=>he₂ b o hb (hs₁.extBut b o hb (aaf _ e)))
end
end HT
namespace L2
def gLst(K:aeO)(n:Nat)(t:SS):TG:=λv σ H Q=>∃ a xs,v=.ref a/\qD K H a xs/\xs.length=n/\t xs σ H Q
theorem YH{X:Cx}{k:Nat}{n:Nat}(hc:X.calm=true)(h:PGs X es t)
  (hn:(assignEach es X.env).length=n:=by rfl) (hst:(assignEach es X.env).findIdx? (·.1)=L:=by rfl):PG X 9.6 (gLst X.K n t):=by
 intro pins s σ H v u Q I r hw;obtain⟨a,xs,e1,hq,hl,hw⟩:=hw;subst e1;cases r;obtain⟨its,rv,ht,hz⟩:=I.list hq;refine HT.tS 6.6 ht.isList (by simp[hn,<- hl,rv.length]) hst λh' hx=>?_;have I1:Inv X pins σ H { s with heap:=h' }:=I.kept (t':=s.toks) λb o e=>hx b o (aaM (aaq e)) e;exact h pins _ σ H xs _ Q I1 (by simpa using rv) hw
end L2
namespace M
open L2
def je(n:Nat)(gs:tU):MG:=λd env S=>match d with | .lst xs=>if xs.length=n then gs xs env S else L | d=>bo n gs d env S
theorem VT{X:Cx}{k n:Nat}(hc:X.calm=true)(h:XJ X es gs)(hn:(assignEach es X.env).length=n:=by rfl)(hst:(assignEach es X.env).findIdx? (·.1)=L:=by rfl):DG X 9.6 (je n gs):=
 λpins s σ H v u Q I r z0=>by
  obtain⟨μ,S,env,d,env',S',hS,hE,hr,hm,post⟩:=z0;cases d with
  | lst xs=>
   simp only[je] at hm;split at hm
   ·rename_i hl;obtain⟨a,vs,rfl,q,z,r2⟩:=hr.sqL;exact YH hc h hn hst pins s σ H _ u Q I r ⟨a,vs,rfl,.inl (.inl q),by rw[r2.length];exact hl,μ,S,env,xs,env',S',hS,hE,r2,hm,post⟩
   ·cases hm
  | _=>exact Jz hc h hn hst pins s σ H v u Q I r ⟨μ,S,env,_,env',S',hS,hE,hr,hm,post⟩
end M
namespace L2
section
variable{X:Cx}{e st:vx}{te:TE}{ts:TO}{pos p2:Pos}
def two(j:Int)(x y:V):List V:=if j=1 then [x,y] else [y,x]
def tTwo(K:aeO)(te:TE)(ts:TO):TE:=λσ H Q=>te σ H λx H1=>ts σ H1 λk H2=>∃ a y z j,x=.ref a/\k=Y j/\(j=1\/j = -1)/\qD K H2 a [y,z]/\∀ p,H2 p=L->Q (.ref p) (upd H2 p (.lst (two j y z)))
theorem YI(he:PE X e te)(hs:PO X (Y st) ts):PE X (.Subscript e 7.1 pos) (tTwo X.K te ts):=by
 intro pins s σ H Q I h;refine adO (dO 4.0 λv s1 ⟨x,H1,I1,r1,q1⟩=>?_);refine aeu ?_;rw[adc];refine aam ?_;refine aam (dO (hs pins s1 σ H1 _ I1 q1) λvk s2 ⟨k,H2,I2,pk,q2⟩=>?_);obtain⟨a,y,z,j,rfl,rfl,hj,hq,q⟩:=q2;cases r1;cases pk with
 | int _ u=>
  have I4:Inv X pins σ H2 { s2 with heap:=s2.heap.push { cls:=.type "slice",data:=.fields #[.none,.none,.int j u] } }:=I2.kept (t':=s2.toks) λb ob q=>aaf _ q;obtain⟨its,r,ht,hz⟩:=I4.list hq;obtain⟨uy,uz,rfl,ry,rz⟩:=JQ r;show aeN 0.2 X.A (subscriptTail e 7.1 (.ref a) 1.08) 3.4 X.xe { s2 with heap:=s2.heap.push { cls:=.type "slice",data:=.fields #[.none,.none,.int j u] } };refine adS (ops:=[.ref a,.ref s2.heap.objs.size]) ht.isList.typeIs slot_list_getitem.lookup (adK ht.isList (adj ..) .none .none (.int j u) (by rcases hj with rfl | rfl<;>decide) ?_ (by simp;decide)) (by with_unfolding_all rfl)
  have sp:slicePick [uy,uz].toArray L L (Y j)=(if j=1 then [uy,uz] else [uz,uy]).toArray:=by
   rcases hj with rfl | rfl
   ·have:=qF [uy,uz] L L;exact this
   ·simp[slicePick,show sliceBounds L L (Y (-1)) 2=(1,-1,-1) from by decide,show sliceRange 1 (-1) (-1)=[1,0] from by decide]
  rw[sp];refine⟨.ref _,_,I4.laid (t':=s2.toks) (o:=.lst (two j y z)) (λb ob q=>aaf _ q) (aal _) ⟨?_,_,0,?_,aay _ rfl⟩,rfl,q _ (I4.hok.fresh (aal _))⟩
  ·unfold two;split<;>exact(show 2<=Vj by decide)
  ·unfold two;split
   ·exact .cons ry (.cons rz .nil)
   ·exact .cons rz (.cons ry .nil)
end
end L2
namespace M
open L2
section
variable{X:Cx}{K:aeO}{μ:Fp}{H:Hp}{S:ac}
def rn(a:ME)(st:MO):ME:=λenv S=>(a env S).bind λp=>(st env p.2).bind λk=>match p.1,k.1 with
 | .lst [x,y],Y j=>if j=1 then Y (.lst [x,y],k.2) else if j = -1 then Y (.lst [y,x],k.2) else L
 | _,_=>L
theorem qaY{st:vx}(ha:DE X a ma)(hs:DO X (Y st) ms):DE X (.Subscript a 7.1 pos) (rn ma ms):=
 PE.imp (YI ha hs) λσ H Q z0=>by
  obtain⟨μ,S,env,d,S',hS,hE,h,post⟩:=z0;obtain⟨⟨x,S1⟩,h1,h⟩:=aaa.mp h;obtain⟨⟨k,S2⟩,h2,h⟩:=aaa.mp h;refine⟨μ,S,env,x,S1,hS,hE,h1,λv H1 μ1 e1 s1 r1=>⟨μ1,S1,env,k,S2,s1,hE.mono e1,h2,λH2 μ2 e2 s2=>?_⟩⟩;dsimp only at h;split at h
  ·rename_i y z j _;obtain⟨b,vs,rfl,q,w,r⟩:=(r1.mono e2).sqL
   obtain⟨vy,vz,rfl,ry,rz⟩:∃ vy vz,vs=[vy,vz]/\Rep X.K μ2 H2 vy y/\Rep X.K μ2 H2 vz z:=by
    cases r with
    | cons ry t=>cases t with
     | cons rz t=>cases t;exact⟨_,_,rfl,ry,rz⟩
   split at h
   ·rename_i hj;cases h;exact⟨b,vy,vz,j,rfl,rfl,.inl hj,.inl (.inl q),λp hp=>by unfold two;rw[aas hj];exact((post.ext e1).ext e2).lst s2 hp (.cons ry (.cons rz .nil))⟩
   ·rename_i hj;split at h
    ·rename_i hj';cases h;exact⟨b,vy,vz,j,rfl,rfl,.inr hj',.inl (.inl q),λp hp=>by unfold two;rw[if_neg hj];exact((post.ext e1).ext e2).lst s2 hp (.cons rz (.cons ry .nil))⟩
    ·cases h
  ·cases h
end
end M
namespace M
open L2
noncomputable abbrev MB:=be->ac->Option (List D×be×ac)
end M
namespace M
open L2
section
variable{X:Cx}{K:aeO}{μ:Fp}{H:Hp}{S:ac}
theorem uI(h:(match o with | .Call (.Name id _) [] [] _=>id != ("super":Str) | .Call _ _ _ _=>false | _=>true)=true):attributeBase o name env w=w:=by
 unfold attributeBase;split
 ·rename_i id _ _;have h':(id != ("super":Str))=true:=h;rw[h'];rfl
 ·rfl
end
end M
set_option hygiene false
local macro_rules|`($c:char)=>do let q:=Lean.quote (c.getChar.toNat%48);if c.getChar.toNat<96 then `(MI.af $q) else `(MI.aj $q)
local macro_rules|`($c:scientific)=>if c.getScientific.2.1 then Lean.Macro.throwUnsupported else `(MI.mC (.int $(Lean.quote c.getScientific.1)))
local macro_rules|`(!$s:str)=>`(MI.mC (.str $s))
local macro_rules|`(tactic|simp![$l,*])=>`(tactic|simp only[ob,ah,ai,bG,oj,bM,bO,aX,ar,aD,au,av,ak,aq,am,bg,az,aO,aP,aE,dM,aN,dP,aH,aA,aJ,bj,bn,bJ,bi,bq,aY,bQ,bP,bA,bE,$l,*])
set_option hygiene true
namespace MI
open L2 M
@[irreducible] noncomputable def mC(d:D):ME:=M.mC d
theorem xQ{d:D}:mC d=M.mC d:=by unfold mC;rfl
@[irreducible] noncomputable def af(i:Nat):ME:=M.af i
theorem Kk:af i=M.af i:=by unfold af;rfl
@[irreducible] noncomputable def ay(f:ac->D->D->Option D)(a b:ME):ME:=M.ay f a b
theorem lX:ay f a b=M.ay f a b:=by unfold ay;rfl
@[irreducible] noncomputable def aF(m:ME):MT:=M.aF m
theorem xM:aF m=M.aF m:=by unfold aF;rfl
@[irreducible] noncomputable def dA(f g:ac->D->D->Option D)(a b c:ME):ME:=M.dA f g a b c
theorem ul:dA f g a b c=M.dA f g a b c:=by unfold dA;rfl
@[irreducible] noncomputable def dQ(m:ME):MT:=M.dQ m
theorem Cy:dQ m=M.dQ m:=by unfold dQ;rfl
@[irreducible] noncomputable def dD(a b:MT):MT:=M.dD a b
theorem xR:dD a b=M.dD a b:=by unfold dD;rfl
@[irreducible] noncomputable def gW(a b:MT):MT:=M.gW a b
theorem Cz:gW a b=M.gW a b:=by unfold gW;rfl
@[irreducible] noncomputable def dJ(a:MT):MT:=M.dJ a
theorem Fo:dJ a=M.dJ a:=by unfold dJ;rfl
@[irreducible] noncomputable def eD(a b:ME):ME:=M.Qe a b
theorem KA:eD a b=M.Qe a b:=by unfold eD;rfl
@[irreducible] noncomputable def wp(a b:ME):ME:=M.Zr a b
theorem PR:wp a b=M.Zr a b:=by unfold wp;rfl
@[irreducible] noncomputable def iq(a:ME):ME:=M.PV a
theorem Fl:iq a=M.PV a:=by unfold iq;rfl
@[irreducible] noncomputable def oi(t:MT)(a b:ME):ME:=M.oi t a b
theorem PZ:oi t a b=M.oi t a b:=by unfold oi;rfl
@[irreducible] noncomputable def ao:MA:=M.ao 
theorem CB  : ao  = M.ao  := by unfold ao;rfl
@[irreducible] noncomputable def aa(a:ME)(r:MA):MA:=M.aa a r
theorem Fz:aa a r=M.aa a r:=by unfold aa;rfl
@[irreducible] noncomputable def aR(ms:MA):ME:=M.aR ms
theorem Km:aR ms=M.aR ms:=by unfold aR;rfl
@[irreducible] noncomputable def dw(ms:MA):ME:=M.dw ms
theorem Kt:dw ms=M.dw ms:=by unfold dw;rfl
@[irreducible] noncomputable def fC(ms:MA):ME:=M.fC ms
theorem Fs:fC ms=M.fC ms:=by unfold fC;rfl
@[irreducible] noncomputable def Av(f:ac->D->Option D)(a:ME):ME:=M.Av f a
theorem PQ:Av f a=M.Av f a:=by unfold Av;rfl
@[irreducible] noncomputable def bC:MO:=M.bC 
theorem Az  : bC  = M.bC  := by unfold bC;rfl
@[irreducible] noncomputable def bS(m:ME):MO:=M.bS m
theorem Fk:bS m=M.bS m:=by unfold bS;rfl
@[irreducible] noncomputable def bz(a:ME)(lo hi:MO):ME:=M.bz a lo hi
theorem Ay{lo:MO}:bz a lo hi=M.bz a lo hi:=by unfold bz;rfl
@[irreducible] noncomputable def bF(f:List D->ac->Option (D×ac))(ms:MA):ME:=M.bF f ms
theorem iG:bF f ms=M.bF f ms:=by unfold bF;rfl
@[irreducible] noncomputable def jI(T:String)(m:ME):ME:=M.jI T m
theorem Ku:jI T m=M.jI T m:=by unfold jI;rfl
@[irreducible] noncomputable def ax(n:Nat)(f:List D->ac->Option (D×ac))(ms:MA):ME:=M.ax n f ms
theorem um:ax n f ms=M.ax n f ms:=by unfold ax;rfl
@[irreducible] noncomputable def bv:MS:=M.bv 
theorem pd  : bv  = M.bv  := by unfold bv;rfl
@[irreducible] noncomputable def aI(a b:MS):MS:=M.aI a b
theorem Kn:aI a b=M.aI a b:=by unfold aI;rfl
@[irreducible] noncomputable def bw(m:ME):MS:=M.bw m
theorem Kq:bw m=M.bw m:=by unfold bw;rfl
@[irreducible] noncomputable def eQ(m:ME):MS:=M.eQ m
theorem Fw:eQ m=M.eQ m:=by unfold eQ;rfl
@[irreducible] noncomputable def cj(t:MT)(a b:MS):MS:=M.cj t a b
theorem Kv:cj t a b=M.cj t a b:=by unfold cj;rfl
@[irreducible] noncomputable def aj(i:Nat):MG:=M.aj i
theorem qj:aj i=M.aj i:=by unfold aj;rfl
@[irreducible] noncomputable def aS:tU:=M.aS 
theorem Gb  : aS  = M.aS  := by unfold aS;rfl
@[irreducible] noncomputable def ag(g:MG)(gs:tU):tU:=M.ag g gs
theorem AT:ag g gs=M.ag g gs:=by unfold ag;rfl
@[irreducible] noncomputable def bo(n:Nat)(gs:tU):MG:=M.bo n gs
theorem mT:bo n gs=M.bo n gs:=by unfold bo;rfl
@[irreducible] noncomputable def gy(o i:ME):MG:=M.gy o i
theorem Ga:gy o i=M.gy o i:=by unfold gy;rfl
@[irreducible] noncomputable def aT(m:ME)(g:MG):MS:=M.aT m g
theorem jF:aT m g=M.aT m g:=by unfold aT;rfl
@[irreducible] noncomputable def cD(ms:MA):MA:=M.cD ms
theorem rp:cD ms=M.cD ms:=by unfold cD;rfl
@[irreducible] noncomputable def kY(mi:MA)(g:MG)(body:MS):MS:=M.kY mi g body
theorem Kw:kY mi g body=M.kY mi g body:=by unfold kY;rfl
@[irreducible] noncomputable def bY(mi:MA)(g:MG)(t:MT)(e:ME)(cap:List 4.7):ME:=M.bY mi g t e cap
theorem xP:bY mi g t e cap=M.bY mi g t e cap:=by unfold bY;rfl
@[irreducible] noncomputable def cR(m:ME):MA:=M.cR m
theorem wq:cR m=M.cR m:=by unfold cR;rfl
@[irreducible] noncomputable def bX:MT:=M.bX 
theorem Fj  : bX  = M.bX  := by unfold bX;rfl
@[irreducible] noncomputable def fB(f:MF)(o:ME)(ms:MA):ME:=M.fB f o ms
theorem Fq:fB f o ms=M.fB f o ms:=by unfold fB;rfl
@[irreducible] noncomputable def fI(ms:MA):MA:=M.fI ms
theorem Fv:fI ms=M.fI ms:=by unfold fI;rfl
@[irreducible] noncomputable def mO(a:ME)(st:MO):ME:=M.mO a st
theorem Ko{st:MO}:mO a st=M.mO a st:=by unfold mO;rfl
@[irreducible] noncomputable def rn(a:ME)(st:MO):ME:=M.rn a st
theorem Kl{st:MO}:rn a st=M.rn a st:=by unfold rn;rfl
@[irreducible] noncomputable def oz(i j:Nat)(ms:MA):MS:=M.oz i j ms
theorem Kr:oz i j ms=M.oz i j ms:=by unfold oz;rfl
@[irreducible] noncomputable def kZ(o:ME)(ms:MA):ME:=M.kZ o ms
theorem Kz:kZ o ms=M.kZ o ms:=by unfold kZ;rfl
@[irreducible] noncomputable def iF(ms:List (ME×ME)):ME:=M.iF ms
theorem Fy:iF ms=M.iF ms:=by unfold iF;rfl
@[irreducible] noncomputable def ft(ms:List (ME×ME)):ME:=M.ft ms
theorem AC:ft ms=M.ft ms:=by unfold ft;rfl
@[irreducible] noncomputable def fj(f:MF)(o:ME)(ms:MA):ME:=M.fj f o ms
theorem AA:fj f o ms=M.fj f o ms:=by unfold fj;rfl
@[irreducible] noncomputable def eG(m:ME)(g:MG)(body:MS):MS:=M.eG m g body
theorem Fu:eG m g body=M.eG m g body:=by unfold eG;rfl
@[irreducible] noncomputable def fo(ms:MA):ME:=M.fo ms
theorem AB:fo ms=M.fo ms:=by unfold fo;rfl
@[irreducible] noncomputable def fh(t:MT)(body:MS):MS:=M.fh t body
theorem Au:fh t body=M.fh t body:=by unfold fh;rfl
@[irreducible] noncomputable def dU(l:List (cf×D))(a:ME):ME:=M.dU l a
theorem Ax:dU l a=M.dU l a:=by unfold dU;rfl
@[irreducible] noncomputable def dL(mi:MA)(g:MG)(t:MT)(mi2:MA)(g2:MG)(t2:MT)(e:ME)(cap:List 4.7):ME:=M.dL mi g t mi2 g2 t2 e cap
theorem uk:dL mi g t mi2 g2 t2 e cap=M.dL mi g t mi2 g2 t2 e cap:=by unfold dL;rfl
@[irreducible] noncomputable def jJ(l:List (cf×Nat×(List D->ac->Option (D×ac))))(i:Nat)(mi:ME)(ms:MA):MS:=M.jJ l i mi ms
theorem Fx:jJ l i mi ms=M.jJ l i mi ms:=by unfold jJ;rfl
@[irreducible] noncomputable def je(n:Nat)(gs:tU):MG:=M.je n gs
theorem yr:je n gs=M.je n gs:=by unfold je;rfl
theorem Iy:ax 0 f ao=M.ax 0 f M.ao:=by rw[um,CB]
theorem Ir:aF (ay f a b)=M.aF (M.ay f a b):=by rw[xM,lX]
theorem Iu:aF (dA f g a b c)=M.aF (M.dA f g a b c):=by rw[xM,ul]
theorem rA:aT m (aj i)=M.aT m (M.aj i):=by rw[jF,qj]
theorem FC:aT (bY mi g t e cap) (aj i)=M.aT (M.bY mi g t e cap) (M.aj i):=by rw[jF,qj,xP]
theorem CC:aT (dL mi g t mi2 g2 t2 e cap) (aj i)=M.aT (M.dL mi g t mi2 g2 t2 e cap) (M.aj i):=by rw[jF,qj,uk]
section
variable{X:Cx}{e:vx}{es:List vx}{s:QO}{ss:List QO}
theorem cB{m m':ME}(h:m=m')(d:DE X e m'):DE X e m:=by rw[h];exact d
theorem GJ{m m':MT}(h:m=m')(d:DT X e m'):DT X e m:=by rw[h];exact d
theorem Lm{m m':MT}(h:m=m')(d:DW X e m'):DW X e m:=by rw[h];exact d
theorem XD{m m':MA}(h:m=m')(d:DA X es m'):DA X es m:=by rw[h];exact d
theorem XC{m m':MO}(h:m=m')(d:DO X o m'):DO X o m:=by rw[h];exact d
theorem Bm{m m':MG}(h:m=m')(d:DG X e m'):DG X e m:=by rw[h];exact d
theorem Sw{m m':tU}(h:m=m')(d:XJ X es m'):XJ X es m:=by rw[h];exact d
theorem Ln{m m':MA}(h:m=m')(d:DI X tg e m'):DI X tg e m:=by rw[h];exact d
theorem Sv{m m':MA}(h:m=m')(d:XI X tg e m'):XI X tg e m:=by rw[h];exact d
theorem qbc{m m':MT}(h:m=m')(d:NW X es m'):NW X es m:=by rw[h];exact d
theorem kz{m m':MS}(h:m=m')(d:DS X s m'):DS X s m:=by rw[h];exact d
theorem JB{m m':MS}(h:m=m')(d:zQ X ss m'):zQ X ss m:=by rw[h];exact d
end
inductive GI where
 | fn (n:Nat) (f:List D->ac->Option (D×ac))
 | con (d:D)
 | blt
 | tab (l:List (cf×D))
 | ftab (l:List (cf×Nat×(List D->ac->Option (D×ac))))
 | thr (f:Str) (n:Nat) (fy:List D->ac->Option RY) (C:tx) (fl:Str)
 | hnd (C:tx)
 | rse (C:tx) (fl:Str)
structure CI where
 N:List Str
 sc:Scope
 all:Bool
 gs:List 1.1
 mt:List Nat
 nx:Bool
def GOk(X:Cx)(k:Nat)(x:Str):GI->Prop
 | .fn n f=>Fn X.prog X.w X.K X.mg X.base k x n f
 | .con d=>GC X.K X.mg x d
 | .blt=>X.mg x=L
 | .tab l=>yU X.w X.K X.mg x l
 | .ftab l=>FTab X.prog X.w X.K X.mg X.base k x l
 | .thr f n fy C fl=>FnY X.prog X.w X.K X.mg X.base k f n fy C fl
 | .hnd C=>GV X.K X.mg x C
 | .rse C fl=>2<=k/\GS X.prog X.w X.K X.mg X.base x C fl
structure NX(X:Cx):Prop where
 xe:X.xe=λ_ _=>False
 hs:X.stack=X.env::X.outer
 hfm:X.env.frame=Y X.env.locals
 hex:X.ex=[]
structure ja(k:Nat)(c:CI)(X:Cx):Prop where
 N:X.N=c.N
 nd:c.N.Nodup
 sc:X.env.scope=c.sc
 fk:c.sc.kind=.function
 fn:c.all=true->∀ x,X.fn x=true
 calm:X.calm=true
 room:Room k X.A
 xe:PassesOwn 0.2 X.A X.env X.xe
 xf:c.nx=true->NX X
 gs:∀ p∈c.gs,GOk X k p.1 p.2
def kh:ME:=λz z=>L
def zG:MT:=λz z=>L
def gz:MS:=λz z=>L
def sN:MA:=λz z=>L
def QG:MG:=λz z z=>L
section
variable{X:Cx}{k:Nat}{c:CI}{e:vx}{pos:Pos}
theorem cH:DE X e kh:=λ_ _ _ _ _ _ ⟨_,_,_,_,_,_,_,h,_⟩=>by cases h
theorem tL:DT X e zG:=λ_ _ _ _ _ _ ⟨_,_,_,_,_,_,_,h,_⟩=>by cases h
theorem fS{s:QO}:DS X s gz:=λ_ _ _ _ _ _ ⟨_,_,_,_,_,_,h,_⟩=>by cases h
theorem Gy{s:QO}:DS X s (aT kh g):=by
 rw[show aT kh g=gz from by rw[jF];rfl];exact fS
theorem da_no:DA X es sN:=λ_ _ _ _ _ _ _ ⟨_,_,_,_,_,_,_,h,_⟩=>by cases h
theorem yL:DI X tg e sN:=λ_ _ _ _ _ _ ⟨_,_,_,_,_,_,_,h,_⟩=>by cases h
theorem Bf:DG X e QG:=λ_ _ _ _ _ _ _ _ _ ⟨_,_,_,_,_,_,_,_,_,h,_⟩=>by cases h
def pz(x:Str):List Str->Option Nat
 | []=>L
 | y::r=>if x==y then Y 0 else(pz x r).map (· + 1)
theorem dj:∀ {l:List Str} {i:Nat},pz x l=Y i->l[i]?=Y x
 | y::r,i,h=>by
  unfold pz at h;split at h
  ·rename_i e;cases h;simp at e;simp[e]
  ·cases q:pz x r with
   | none=>rw[q] at h;cases h
   | some j=>rw[q] at h;cases h;simpa using dj q
def fD(x:Str):Bool:=!(x==("__debug__":Str))&&!(x==("__classdict__":Str))&&!(x==("__name__":Str))
theorem cL(h:fD x=true):(x==("__debug__":Str))=false:=by
 unfold fD at h;rw[aae,aae] at h;simpa only[Bool.not_eq_true'] using h.1.1
theorem EE(h:fD x=true):(x==("__classdict__":Str))=false:=by
 unfold fD at h;rw[aae,aae] at h;simpa only[Bool.not_eq_true'] using h.1.2
theorem iC(h:fD x=true):x≠"__name__":=by
 unfold fD at h;rw[aae,aae] at h;have:=h.2;rw[Bool.not_eq_true'] at this;intro z;rw[z] at this;simp at this
def SQ(c:CI)(x:Str):Option GI:=match c.sc.names.lookup x with | some .globalImplicit=>if fD x then c.gs.lookup x else L | _=>L
theorem iL(C:ja k c X)(h:SQ c x=Y g):Gl X x/\fD x=true/\GOk X k x g:=by
 unfold SQ at h;split at h
 ·rename_i e;split at h
  ·rename_i o;refine⟨?_,o,C.gs _ (abC h)⟩;show X.env.scope.names.lookup x=_;rw[C.sc,e]
  ·cases h
 ·cases h
def Ji(c:CI)(x:Str):ME:=match c.sc.names.lookup x with
 | some .globalImplicit=>match SQ c x with | some (.con d)=>mC d | _=>kh
 | some .local=>match pz x c.N with | some i=>if fD x then af i else kh | none=>kh
 | some .cell=>match pz x c.N with | some i=>if fD x then af i else kh | none=>kh
 | some .free=>match pz x c.N with | some i=>if fD x then af i else kh | none=>kh
 | _=>kh
theorem rO(C:ja k c X)(hv:Wz c.sc x):DE X 5.5 (match pz x c.N with | some i=>if fD x then af i else kh | none=>kh):=by
 split
 ·rename_i i e;split
  ·rename_i o;exact cB Kk <| M.qaX (by rw[C.N];exact dj e) (by rw[C.sc];exact hv) (cL o) (EE o)
  ·exact cH
 ·exact cH
theorem Na(C:ja k c X)(x:Str):DE X 5.5 (Ji c x):=by
 unfold Ji;split
 ·split
  ·rename_i d e;obtain⟨g,o,G⟩:=iL C e;exact cB xQ <| M.VX G g (cL o)
  ·exact cH
 ·rename_i e;exact rO C (.inl e)
 ·rename_i e;exact rO C (.inr (.inl e))
 ·rename_i e;exact rO C (.inr (.inr e))
 ·exact cH
def KZ:Const->ME
 | .int i=>mC (.int i)
 | .bool b=>mC (.bl b)
 | .none=>mC .non
 | .str x=>mC (.str x)
 | _=>kh
theorem Jl(v:Const):DE X (.Constant v j pos) (KZ v):=by
 cases v<;>first | exact cB xQ <| M.qb6 | exact cB xQ <| M.Xz | exact cB xQ <| M.qb3 | exact cB xQ <| M.qb0 | exact cH
def Rr(z y:Bool)(op:Operator)(a b:ME):ME:=match op with
 | .Add=>ay aK a b
 | .Sub=>ay lI a b
 | .Mult=>ay cA a b
 | .Mod=>ay lj a b
 | .FloorDiv=>ay Gr a b
 | .Pow=>ay zJ a b
 | _=>kh
theorem Rq(ha:DE X a ma)(hb:DE X b mb):DE X 2.07 (Rr z y op ma mb):=by
 cases op<;>first | exact cH | skip
 ·exact cB lX <| M.Bg Uv ha hb
 ·exact cB lX <| M.Bg Za ha hb
 ·exact cB lX <| M.Bg Uu ha hb
 ·exact cB lX <| M.Bg Zd ha hb
 ·exact cB lX <| M.Bg Zb ha hb
 ·exact cB lX <| M.Bg Ze ha hb
def evUn(op:UnaryOp)(a:ME):ME:=match op with
 | .Not=>iq a
 | .USub=>Av MU a
 | _=>kh
theorem Vt(ha:DE X a ma):DE X 2.05 (evUn op ma):=by
 cases op<;>first | exact cH | skip
 ·exact cB Fl <| M.VU ha
 ·exact cB PQ <| M.de_un SY ha
def cmpF:CmpOp->Option (ac->D->D->Option D)
 | .Eq=>Y cm
 | .NotEq=>Y kf
 | .Lt=>Y SR
 | .LtE=>Y fLe
 | .Gt=>Y fGt
 | .GtE=>Y fGe
 | .In=>Y rN
 | .NotIn=>Y lh
 | .Is=>Y yE
 | .IsNot=>Y mr
theorem Wg(r:Room k X.A)(h:cmpF op=Y f):OpR X (aeL op) 1.49:=by
 cases op<;>cases h
 ·exact op_Eq r.units
 ·exact op_Ne r.units
 ·exact op_Lt
 ·exact op_Le
 ·exact op_Gt
 ·exact op_Ge
 ·exact op_Is
 ·exact Ps
 ·exact op_In r.units
 ·exact Pq r.units
def vw(z y:Bool)(op:CmpOp):Option (ac->D->D->Option D):=cmpF op
theorem ng(r:Room k X.A)(h:vw z y op=Y f):OpR X (aeL op) 1.49:=by
 unfold vw at h;exact Wg r h
def jq:vx->Bool
 | .Set _ _ _=>false
 | _=>true
theorem kA(h:jq e=true):behindInMarks op e=false:=by cases e<;>first | rfl | cases h
theorem fE(h:jq e=true)(x:ce):Yx e X.env x=pure x:=by cases e<;>first | rfl | cases h
def Rp(c:CI)(E:CI->vx->ME)(a:vx)(ops:List CmpOp)(bs:List vx):ME:=match ops,bs with
 | [op],[b]=>if jq b then(match vw 6.9 6.8 op with | some f=>ay f (E c a) (E c b) | none=>kh) else kh
 | [op,op'],[b,d]=>if jq d then(match vw 6.9 6.8 op,vw 6.9 6.8 op' with | some f,Y g=>dA f g (E c a) (E c b) (E c d) | _,_=>kh) else kh
 | _,_=>kh
def Jm(c:CI)(E:CI->vx->ME)(a:vx)(ops:List CmpOp)(bs:List vx):MT:=match ops,bs with
 | [op],[b]=>if jq b then(match vw 6.9 6.8 op with | some f=>aF (ay f (E c a) (E c b)) | none=>zG) else zG
 | [op,op'],[b,d]=>if jq d then(match vw 6.9 6.8 op,vw 6.9 6.8 op' with | some f,Y g=>aF (dA f g (E c a) (E c b) (E c d)) | _,_=>zG) else zG
 | _,_=>zG
section
variable{E:CI->vx->ME}{T:CI->vx->MT}
theorem Ro(C:ja k c X)(hE:∀ e,DE X e (E c e)){bs:List vx}:DE X (.Compare a ops bs pos) (Rp c E a ops bs):=by
 unfold Rp;split
 ·split
  ·rename_i hm;split
   ·rename_i f h;exact cB lX <| M.qb8 (ng C.room h) (hE _) (hE _) (kA hm)
   ·exact cH
  ·exact cH
 ·split
  ·rename_i hm;split
   ·rename_i f g h1 h2;exact cB ul <| M.Sk (ng C.room h1) (ng C.room h2) (hE _) (hE _) (hE _) (kA hm)
   ·exact cH
  ·exact cH
 ·exact cH
theorem Nf(C:ja k c X)(hE:∀ e,DE X e (E c e)){bs:List vx}:DT X (.Compare a ops bs pos) (Jm c E a ops bs):=by
 unfold Jm;split
 ·split
  ·rename_i hm;split
   ·rename_i f h;exact GJ Ir <| M.qaQ (ng C.room h) (hE _) (hE _) (kA hm)
   ·exact tL
  ·exact tL
 ·split
  ·rename_i hm;split
   ·rename_i f g h1 h2;exact GJ Iu <| M.RJ (ng C.room h1) (ng C.room h2) (hE _) (hE _) (hE _) (kA hm)
   ·exact tL
  ·exact tL
 ·exact tL
def Gg(f:ME->ME->ME):List ME->ME
 | []=>kh
 | [m]=>m
 | m::r=>f m (Gg f r)
def yt(f:MT->MT->MT):List MT->MT
 | []=>zG
 | [m]=>m
 | m::r=>f m (yt f r)
theorem AW{E:vx->ME}(hE:∀ e,DE X e (E e)):∀ vs:List vx,DE X 1.80 (Gg eD 1.81)
 | []=>cH
 | [e]=>Sf (hE e)
 | e::e'::r=>cB KA <| M.Wc (hE e) (AW hE (e'::r))
theorem Gf{E:vx->ME}(hE:∀ e,DE X e (E e)):∀ vs:List vx,DE X 1.97 (Gg wp 1.81)
 | []=>cH
 | [e]=>Sf (hE e)
 | e::e'::r=>cB PR <| M.qb2 (hE e) (Gf hE (e'::r))
theorem MQ{E:vx->MT}(hE:∀ e,DT X e (E e)):∀ vs:List vx,DT X 1.80 (yt dD 1.81)
 | []=>tL
 | [e]=>VE (Ld (hE e))
 | e::e'::r=>VE (Lm xR <| M.RH (hE e) (foldT_andW hE (e'::r) 0.3))
where foldT_andW {E:vx->MT} (hE:∀ e,DT X e (E e)):∀ vs:List vx,vs≠[]->DW X 1.80 (yt dD 1.81)
 | [],h=>absurd rfl h
 | [e],_=>Ld (hE e)
 | e::e'::r,_=>Lm xR <| M.RH (hE e) (foldT_andW hE (e'::r) 0.3)
theorem QI{E:vx->MT}(hE:∀ e,DT X e (E e)):∀ vs:List vx,DT X 1.97 (yt gW 1.81)
 | []=>tL
 | [e]=>VE (RG (hE e))
 | e::e'::r=>VE (Lm Cz <| M.Xx (hE e) (foldT_orW hE (e'::r) 0.3))
where foldT_orW {E:vx->MT} (hE:∀ e,DT X e (E e)):∀ vs:List vx,vs≠[]->DW X 1.97 (yt gW 1.81)
 | [],h=>absurd rfl h
 | [e],_=>RG (hE e)
 | e::e'::r,_=>Lm Cz <| M.Xx (hE e) (foldT_orW hE (e'::r) 0.3)
def cK:vx->Bool
 | .Starred _ _=>false
 | _=>true
theorem cC{es:List vx}(h:cK e=true):WP (e::es) X.env=(false,eval e X.env)::WP es X.env:=by cases e<;>first | rfl | cases h
theorem gZ:∀ {es:List vx},es.all cK=true->(backTo pos 2.2).any (·.1)=false
 | [],_=>rfl
 | e::es,h=>by
  rw[abi,aae] at h;rw[cC h.1];show(false||(backTo pos 2.2).any (·.1))=false;rw[gZ h.2];rfl
def Ba(E:vx->ME):List vx->MA
 | []=>ao
 | e::r=>if cK e then aa (E e) (Ba E r) else sN
theorem gC{E:vx->ME}(hE:∀ e,DE X e (E e)):∀ es:List vx,DA X es (Ba E es)
 | []=>XD CB <| M.qb9
 | e::r=>by
  unfold Ba;split
  ·rename_i h;exact XD Fz <| M.Wf (hE e) (gC hE r) (cC h)
  ·exact da_no
def Vv(E:vx->ME):Option vx->MO
 | none=>bC
 | some e=>bS (E e)
theorem Dc{E:vx->ME}(hE:∀ e,DE X e (E e)):∀ o:Option vx,DO X o (Vv E o)
 | none=>XC Az <| M.VP
 | some e=>XC Fk <| M.VO (hE e)
def DP(c:CI):vx->Option (List (cf×D))
 | .Name x _=>match SQ c x with | some (.tab l)=>Y l | _=>L
 | _=>L
theorem He(C:ja k c X)(h:DP c a=Y l):∃ x p,a=.Name x p/\Gl X x/\fD x=true/\yU X.w X.K X.mg x l:=by
 unfold DP at h;split at h
 ·split at h
  ·rename_i e;cases h;obtain⟨g,o,G⟩:=iL C e;exact⟨_,_,rfl,g,o,G⟩
  ·cases h
 ·cases h
def Xq(c:CI)(E:vx->ME)(a i:vx):ME:=match i with
 | .Slice lo hi st _=>match st with | none=>bz (E a) (Vv E lo) (Vv E hi) | some st=>(match lo,hi with | none,L=>if c.mt.contains 976000 then rn (E a) (Vv E (Y st)) else mO (E a) (Vv E (Y st)) | _,_=>kh)
 | i=>match DP c a with | some l=>dU l (E i) | none=>ay aB (E a) (E i)
theorem MZ(C:ja k c X){E:vx->ME}(hE:∀ e,DE X e (E e))(a i:vx)(hs:qx i:=by intro z z;rfl):DE X (.Subscript a i pos) (match DP c a with | some l=>dU l (E i) | none=>ay aB (E a) (E i)):=by
 cases ht:DP c a with
 | none=>
  dsimp only;exact cB lX <| M.qb5 (by have:=C.room.units;omega) (hE a) (hE _) hs
 | some l=>
  obtain⟨x,p,rfl,g,o,G⟩:=He C ht;exact cB Ax (M.Sd G g (cL o) (hE _) hs)
theorem Rf(C:ja k c X){E:vx->ME}(hE:∀ e,DE X e (E e))(a i:vx):DE X (.Subscript a i pos) (Xq c E a i):=by
 cases i with
 | Slice lo hi st p=>
  cases st with
  | none=>
   show DE X _ (bz (E a) (Vv E lo) (Vv E hi));exact cB Ay <| M.Se (hE a) (Dc hE lo) (Dc hE hi)
  | some st=>
   cases lo with
   | none=>
    cases hi with
    | none=>
     show DE X _ (if c.mt.contains 976000 then rn (E a) (Vv E (Y st)) else mO (E a) (Vv E (Y st)));split
     ·exact cB Kl (M.qaY (hE a) (Dc hE (Y st)))
     exact cB Ko (M.qb1 (hE a) (Dc hE (Y st)))
    | some _=>exact cH
   | some _=>exact cH
 | _=>exact MZ C hE a _
def nJ:vx->Option Str
 | .Name x _=>Y x
 | _=>L
theorem fF(h:nJ e=Y x):∃ p,e=.Name x p:=by cases e<;>cases h;exact⟨_,rfl⟩
def nU:vx->Option (Str×List vx)
 | .Call f es [] _=>(nJ f).map λx=>(x,es)
 | _=>L
theorem fV{x:Str}{es:List vx}(h:nU e=Y (x,es)):∃ p p2,e=.Call 6.0 es [] p2:=by
 cases e with
 | Call f es' ks p2=>
  cases ks with
  | nil=>
   obtain⟨y,h1,h2⟩:=aed.mp h;cases h2;obtain⟨p,rfl⟩:=fF h1;exact⟨p,p2,rfl⟩
  | cons _ _=>cases h
 | _=>cases h
def pB(c:CI)(x:Str):Bool:=match SQ c x with | some .blt=>true | _=>false
theorem mQ(C:ja k c X)(h:pB c x=true):X.mg x=L/\Gl X x/\fD x=true:=by
 unfold pB at h;split at h
 ·rename_i e;obtain⟨a,b,d⟩:=iL C e;exact⟨d,a,b⟩
 ·cases h
def Hn(c:CI)(es:List vx):Option vx:=match es with
 | [e1]=>match nU e1 with
  | some (y,[a])=>if y=="set"&&pB c y&&cK a then Y a else L
  | _=>L
 | _=>L
theorem Ea(h:Hn c es=Y a):∃ p p2,es=[.Call (.Name "set" p) [a] [] p2]/\pB c "set" = true/\cK a=true:=by
 unfold Hn at h;split at h
 ·split at h
  ·rename_i hc;split at h
   ·rename_i hb;cases h;rw[aae,aae] at hb;obtain⟨p,p2,rfl⟩:=fV hc;have z:=hb.1.1;rw[beq_iff_eq] at z;subst z;exact⟨p,p2,rfl,hb.1.2,hb.2⟩
   ·cases h
  ·cases h
 ·cases h
def wW(c:CI)(es:List vx):Option vx:=match es with
 | [e1]=>match nU e1 with
  | some (y,[a])=>if y=="range"&&pB c y&&cK a then Y a else L
  | _=>L
 | _=>L
theorem zm(h:wW c es=Y a):∃ p p2,es=[.Call (.Name "range" p) [a] [] p2]/\pB c "range" = true/\cK a=true:=by
 unfold wW at h;split at h
 ·split at h
  ·rename_i hc;split at h
   ·rename_i hb;cases h;rw[aae,aae] at hb;obtain⟨p,p2,rfl⟩:=fV hc;have z:=hb.1.1;rw[beq_iff_eq] at z;subst z;exact⟨p,p2,rfl,hb.1.2,hb.2⟩
   ·cases h
  ·cases h
 ·cases h
def bltG(z y:Bool)(x:Str):Option (List D->ac->Option (D×ac)):=
 L
def qbh(z y n g h:Bool)(x:Str):Option (List D->ac->Option (D×ac)):=
 if x=="len" then Y (bb jc) else if x=="int" then Y (bb lm) else if x=="max" then Y (bb on) else if x=="min" then Y (bb KP)
 else if x=="list" then Y 1.47 else if x=="tuple" then Y 2.8 else if x=="all" then Y (bb Gs) else if x=="any" then Y (bb Da) else bltG z y x
set_option maxHeartbeats 800000 in
theorem Wn{es:List vx}(C:ja k c X)(h:qbh zz yy nn gg hh x=Y f)(hm:X.mg x=L)(hg:Gl X x)(o:fD x=true)(hs:(e::es).all cK=true)(ha:DA X (e::es) ms) :
  DE X (.Call 6.0 (e::es) [] pos) (bF f ms):=by
 rw[abi,aae] at hs;have q1:=cC (X:=X) (es:=es) hs.1;have q2:=gZ (X:=X) (pos:=pos) hs.2;unfold qbh at h;split at h
 ·rename_i z;cases h;rw[beq_iff_eq] at z;subst z;exact cB iG <| M.pM Sx hm boot_len ha hg (iC o) (cL o) q1 q2
 split at h
 ·rename_i z;cases h;rw[beq_iff_eq] at z;subst z;exact cB iG <| M.uF Sy hm boot_int ha hg (iC o) (cL o) q1 q2
 split at h
 ·rename_i z;cases h;rw[beq_iff_eq] at z;subst z;exact cB iG <| M.pM (NI C.calm) hm boot_max ha hg (iC o) (cL o) q1 q2
 split at h
 ·rename_i z;cases h;rw[beq_iff_eq] at z;subst z;exact cB iG <| M.pM (NH C.calm) hm boot_min ha hg (iC o) (cL o) q1 q2
 split at h
 ·rename_i z;cases h;rw[beq_iff_eq] at z;subst z;exact cB iG <| M.uF NK hm boot_list ha hg (iC o) (cL o) q1 q2
 split at h
 ·rename_i z;cases h;rw[beq_iff_eq] at z;subst z;exact cB iG <| M.uF JE hm boot_tuple ha hg (iC o) (cL o) q1 q2
 split at h
 ·rename_i z;cases h;rw[beq_iff_eq] at z;subst z;exact cB iG <| M.pM (SA C.calm) hm boot_all ha hg (iC o) (cL o) q1 q2
 split at h
 ·rename_i z;cases h;rw[beq_iff_eq] at z;subst z;exact cB iG <| M.pM (Sz C.calm) hm boot_any ha hg (iC o) (cL o) q1 q2
 unfold bltG at h;cases h
def XY(x:Str):Option String:=if x=="int" then Y "int" else if x=="bool" then Y "bool" else if x=="str" then Y "str" else if x=="tuple" then Y "tuple" else if x=="list" then Y "list" else if x=="dict" then Y "dict" else L
theorem JR{T:String}(h:XY x=Y T):bootBuiltins x=Y 1.55/\(T = "int"\/T = "bool"\/T = "str"\/T = "tuple"\/T = "list"\/T = "dict"):=by
 unfold XY at h;split at h
 ·rename_i z;cases h;rw[beq_iff_eq] at z;subst z;exact⟨boot_int,by simp⟩
 split at h
 ·rename_i z;cases h;rw[beq_iff_eq] at z;subst z;exact⟨boot_bool,by simp⟩
 split at h
 ·rename_i z;cases h;rw[beq_iff_eq] at z;subst z;exact⟨boot_str,by simp⟩
 split at h
 ·rename_i z;cases h;rw[beq_iff_eq] at z;subst z;exact⟨boot_tuple,by simp⟩
 split at h
 ·rename_i z;cases h;rw[beq_iff_eq] at z;subst z;exact⟨boot_list,by simp⟩
 split at h
 ·rename_i z;cases h;rw[beq_iff_eq] at z;subst z;exact⟨boot_dict,by simp⟩
 cases h
def Xr(c:CI)(E:vx->ME):List vx->ME
 | [a,t]=>match nJ t with
  | some y=>match SQ c y,XY y with | some .blt,Y T=>if cK a then jI T (E a) else kh | _,_=>kh
  | none=>kh
 | _=>kh
def Df(c:CI)(E:vx->ME)(x:Str)(es:List vx):ME:=match SQ c x with
 | some (.fn n f)=>match es with
  | []=>if n==0 then ax 0 f ao else kh
  | e::r=>if (e::r).all cK then ax n f (Ba E (e::r)) else kh
 | some .blt=>if x=="isinstance" then Xr c E es else match (if x=="len" then Hn c es else L) with
  | some a=>kh
  | none=>match (if x=="list" then wW c es else L) with
  | some a=>fo (Ba E [a])
  | none=>match qbh (c.mt.contains 400000) (c.mt.contains 950000) (c.mt.contains 960000) (c.mt.contains 993000) (c.mt.contains 995000) x,es with
   | some f,e::r=>if (e::r).all cK then bF f (Ba E (e::r)) else kh
   | _,_=>kh
 | _=>kh
theorem Ng(C:ja k c X){E:vx->ME}(hE:∀ e,DE X e (E e)):DE X (.Call 6.0 es [] pos) (Df c E x es):=by
 unfold Df;split
 ·rename_i n f hg;obtain⟨g,o,G⟩:=iL C hg;split
  ·split
   ·rename_i hn;have:n=0:=by simpa using hn
    subst this;exact cB Iy <| M.Sl G C.room g (cL o)
   ·exact cH
  ·split
   ·rename_i hs;have hs':=hs;rw[abi,aae] at hs;exact cB um <| M.Wb G C.room 1.11 g (cL o) (cC hs.1) (gZ hs.2)
   ·exact cH
 ·rename_i hg;obtain⟨g,o,G⟩:=iL C hg;split
  ·rename_i z;rw[beq_iff_eq] at z;subst z;unfold Xr;split
   ·split
    ·rename_i y hy;obtain⟨p2,rfl⟩:=fF hy;split
     ·rename_i T h1 h2;obtain⟨g',o',G'⟩:=iL C h1;split
      ·rename_i hs;exact cB Ku <| M.Nt G G' (JR h2).1 (hE _) (JR h2).2 g g' (iC o') (cL o') (cC hs) rfl rfl
      ·exact cH
     ·exact cH
    ·exact cH
   ·exact cH
  ·split
   ·rename_i a ha;split at ha
    ·rename_i z;rw[beq_iff_eq] at z;subst z;obtain⟨p3,p4,rfl,hb,hs⟩:=Ea ha;obtain⟨m2,g2,o2⟩:=mQ C hb;exact cH
    ·cases ha
   ·split
    ·rename_i a ha;split at ha
     ·rename_i z;rw[beq_iff_eq] at z;subst z;obtain⟨p3,p4,rfl,hb,hs⟩:=zm ha;obtain⟨m2,g2,o2⟩:=mQ C hb;exact cB AB (M.Sh C.calm G m2 g g2 1.11 (cC hs))
     ·cases ha
    ·split
     ·rename_i _ f e r hf;split
      ·rename_i hs;exact Wn C (by assumption) G g o hs 1.11
      ·exact cH
     ·exact cH
 ·exact cH
def JG:vx->Option (vx×Str×Pos)
 | .Attribute o nm ap=>Y (o,nm,ap)
 | _=>L
theorem GP{o:vx}{nm:Str}{ap:Pos}(h:JG e=Y (o,nm,ap)):e=.Attribute o nm ap:=by cases e<;>cases h;rfl
def PD(x:Str):Option MF:=if x=="append" then Y dN else if x=="count" then Y qo else if x=="index" then Y pH else L
theorem PC(C:ja k c X)(h:PD x=Y f):∃ id,Slot "list" x id/\typeOf 4.9=pure (.type "method_descriptor")/\MtR X id (TC X.K f):=by
 unfold PD at h;split at h
 ·rename_i z;cases h;rw[beq_iff_eq] at z;subst z;exact⟨_,aeG,F.type_list_append,Mf⟩
 split at h
 ·rename_i z;cases h;rw[beq_iff_eq] at z;subst z;exact⟨_,adp,F.type_list_count,EK C.room.units⟩
 split at h
 ·rename_i z;cases h;rw[beq_iff_eq] at z;subst z;exact⟨_,F.slot_list_index,F.type_list_index,Pz C.room.units⟩
 cases h
def HZ(x:Str):Option MF:=if x=="update" then Y yx else L
theorem Mg(C:ja k c X)(h:HZ x=Y f):∃ id,Slot "dict" x id/\typeOf 4.9=pure (.type "method_descriptor")/\MtR X id (TC X.K f):=by
 unfold HZ at h;split at h
 ·rename_i z;cases h;rw[beq_iff_eq] at z;subst z;exact⟨_,aeH,F.type_dict_update,UC⟩
 cases h
theorem DV:∀ {es:List vx},es.all cK=true->(backTo pos 2.2).all (λx=>!x.1)=true
 | [],_=>rfl
 | e::es,h=>by
  rw[abi,aae] at h;rw[cC h.1];show(true&&(backTo pos 2.2).all (λx=>!x.1))=true;rw[DV h.2];rfl
def YE(o:vx):Bool:=match o with | .Call (.Name id _) [] [] _=>id != ("super":Str) | .Call _ _ _ _=>false | _=>true
def De(z y:Bool)(E:vx->ME)(o:vx)(nm:Str)(ap cp:Pos)(es:List vx):ME:=match YE o,es with
 | true,e::r=>if (e::r).all cK&&(decide ((e::r).length<30)&&ap.endLine==cp.line) then
   (if nm=="count" then kZ (E o) (Ba E (e::r)) else match HZ nm with | some f=>fj f (E o) (Ba E (e::r)) | none=>match PD nm with | some f=>fB f (E o) (Ba E (e::r)) | none=>kh) else kh
 | true,[]=>kh
 | _,_=>kh
theorem Nb(C:ja k c X){E:vx->ME}(hE:∀ e,DE X e (E e)):DE X (.Call (.Attribute o nm ap) es [] pos) (De z y E o nm ap pos es):=by
 unfold De;split
 ·rename_i e r hx;split
  ·rename_i h;rw[aae,aae] at h;have hs:=h.1;rw[abi,aae] at hs
   have few:((backTo pos (WP (e::r) X.env)).all (λx=>!x.1)&&(backToKw pos (keywordEach [] X.env)).all (λx=>x.1.isSome)&&decide ((e::r).length+([]:List Keyword).length+(if ([]:List Keyword).isEmpty then 0 else 1)<30))=true:=by
    rw[DV h.1];show(true&&decide ((e::r).length+0+0<30))=true;exact h.2.1
   split
   ·rename_i hc;rw[beq_iff_eq] at hc;subst hc;exact cB Kz (M.qb7 C.room.units (hE _) 1.11 (uI hx) few h.2.2 (cC hs.1) (gZ hs.2))
   ·split
    ·rename_i f hf;obtain⟨id,h1,h2,h3⟩:=Mg C hf;exact cB AA (M.Sg h1 h2 h3 (hE _) 1.11 (uI hx) few h.2.2 (cC hs.1) (gZ hs.2))
    ·split
     ·rename_i f hf;obtain⟨id,h1,h2,h3⟩:=PC C hf;exact cB Fq (M.Lj h1 h2 h3 (hE _) 1.11 (uI hx) few h.2.2 (cC hs.1) (gZ hs.2))
     ·exact cH
  ·exact cH
 ·rename_i hx;exact cH
 ·exact cH
def EF:vx->Bool
 | .Slice _ _ _ _=>false
 | _=>true
def Jj(G:vx->MG):List vx->tU
 | []=>aS
 | e::r=>ag (if cK e then G e else QG) (Jj G r)
def vT(c:CI)(x:Str):MG:=match c.sc.names.lookup x,pz x c.N with
 | some .local,Y i=>aj i
 | some .cell,Y i=>if c.all then aj i else QG
 | _,_=>QG
def Rj(c:CI)(E:vx->ME):vx->MG
 | .Name x _=>vT c x
 | .Subscript o i _=>if EF i then(gy (E o) (E i)) else QG
 | _=>QG
def qaL(c:CI)(G1 G:vx->MG)(es:List vx):MG:=if es.all cK then(if c.mt.contains 975000 then je es.length (Jj G es) else bo es.length (Jj G es)) else QG
def NU(c:CI)(E:vx->ME):vx->MG
 | .Tuple es _ _=>qaL c (Rj c E) (λe=>match e with | .Tuple es _ _=>if es.all cK then bo es.length (Jj (Rj c E) es) else QG | e=>Rj c E e) es
 | e=>Rj c E e
theorem Vx(C:ja k c X)(x:Str):DG X 5.5 (vT c x):=by
 unfold vT;split
 ·rename_i h1 h2;exact Bm qj <| M.Li (by rw[C.N];exact C.nd) (by rw[C.N];exact dj h2) (by rw[C.sc];exact .inl h1) (.inr (by rw[C.sc];exact h1))
 ·rename_i h1 h2;split
  ·rename_i ha;exact Bm qj <| M.Li (by rw[C.N];exact C.nd) (by rw[C.N];exact dj h2) (by rw[C.sc];exact .inr h1) (.inl (C.fn ha x))
  ·exact Bf
 ·exact Bf
theorem Vy(C:ja k c X){E:vx->ME}(hE:∀ e,DE X e (E e))(e:vx):DG X e (Rj c E e):=by
 cases e with
 | Name x p=>exact Vx C x
 | Subscript o i p=>
  show DG X _ (if EF i then(gy (E o) (E i)) else QG);split
  ·rename_i h;refine Bm Ga (M.qaU (hE o) (hE i) ?_);cases i<;>first | (intro z;rfl) | cases h
  ·exact Bf
 | _=>exact Bf
theorem uJ{es:List vx}(h:cK e=true):assignEach (e::es) X.env=(false,assign e X.env)::assignEach es X.env:=by cases e<;>first | rfl | cases h
theorem nX:∀ {es:List vx},es.all cK=true->(assignEach es X.env).length=es.length/\(assignEach es X.env).findIdx? (·.1)=L
 | [],_=>⟨rfl,rfl⟩
 | e::es,h=>by
  rw[abi,aae] at h;rw[uJ h.1];obtain⟨a,b⟩:=nX h.2;exact⟨by simp[a],by simp[abW,b]⟩
theorem wE{G:vx->MG}(hG:∀ e,DG X e (G e)):∀ es:List vx,es.all cK=true->XJ X es (Jj G es)
 | []=>λz=>Sw Gb <| M.VS
 | e::r=>λh=>by
  rw[abi,aae] at h;unfold Jj;rw[aas h.1];exact Sw AT <| M.RZ (hG e) (wE hG r h.2) (by rw[uJ h.1];rfl)
theorem Vw(C:ja k c X){G:vx->MG}(hG:∀ e,DG X e (G e))(es:List vx)(j:Nat):DG X (.Tuple es j pos) (if es.all cK then bo es.length (Jj G es) else QG):=by
 split
 ·rename_i h;exact Bm mT <| M.Jz C.calm (wE hG es h) (nX h).1 (nX h).2
 ·exact Bf
theorem Ri(C:ja k c X){G1 G:vx->MG}(hG1:∀ e,DG X e (G1 e))(hG:∀ e,DG X e (G e))(es:List vx)(j:Nat):DG X (.Tuple es j pos) (qaL c G1 G es):=by
 unfold qaL;split
 ·rename_i h;split
  ·exact Bm yr <| M.VT C.calm (wE hG es h) (nX h).1 (nX h).2
  ·exact Bm mT <| M.Jz C.calm (wE hG es h) (nX h).1 (nX h).2
 ·exact Bf
theorem ls(C:ja k c X){E:vx->ME}(hE:∀ e,DE X e (E e))(e:vx):DG X e (NU c E e):=by
 have h1:=Vy C hE;cases e with
 | Tuple es j p=>
  refine Ri C h1 (λe=>?_) es j;cases e with
  | Tuple es j p=>exact Vw C h1 es j
  | _=>exact h1 _
 | _=>exact h1 _
def evI(c:CI)(E:vx->ME)(tg it:vx):MA:=match nU it with
 | some (x,es)=>if x=="enumerate"&&pB c x then(match tg,es with
   | .Tuple _ _ _,[a]=>if cK a then fI (Ba E [a]) else sN
   | _,_=>sN) else if x=="zip"&&pB c x then(match tg,es with
   | .Tuple _ _ tp,[a,b]=>if cK a&&cK b then(sN) else sN
   | _,_=>sN) else if x=="range"&&pB c x then(match es with
   | [a]=>if cK a then cD (Ba E [a]) else sN
   | _=>sN) else cR (E it)
 | none=>cR (E it)
theorem uD(C:ja k c X){E:vx->ME}(hE:∀ e,DE X e (E e)):DI X tg it (evI c E tg it):=by
 unfold evI;split
 ·rename_i x es he;obtain⟨p,p2,rfl⟩:=fV he;split
  ·rename_i hx;rw[aae] at hx;obtain⟨m,g,o⟩:=mQ C hx.2;have z:=hx.1;rw[beq_iff_eq] at z;subst z;split
   ·split
    ·rename_i h;exact Ln Fv (M.VR m 1.11 g (cC h))
    ·exact yL
   ·exact yL
  split
  ·rename_i hx;rw[aae] at hx;obtain⟨m,g,o⟩:=mQ C hx.2;have z:=hx.1;rw[beq_iff_eq] at z;subst z;split
   ·split
    ·rename_i h;rw[aae] at h;exact yL
    ·exact yL
   ·exact yL
  split
  ·rename_i hx;rw[aae] at hx;obtain⟨m,g,o⟩:=mQ C hx.2;have z:=hx.1;rw[beq_iff_eq] at z;subst z;split
   ·split
    ·rename_i h;exact Ln rp <| M.Nq m 1.11 g (cC h)
    ·exact yL
   ·exact yL
  ·exact Ln wq <| M.Jy (hE _)
 ·exact Ln wq <| M.Jy (hE _)
def Qz(c:CI)(it:vx):Bool:=match nU it with | some (x,_)=>(x=="enumerate"||x=="zip"||x=="range")&&pB c x | none=>false
def oJ(scope sc:Scope):Scope:={ scope with names:=scope.names.map λx=>match x with | (n,k)=>if (k==NameKind.free&&sc.kind==.function&&sc.names.lookup n==Y .cell)=true then(n,.cell) else(n,k) }
def GN(scope:Scope):List Str:=(scope.names.filter λx=>x.2==.local&&!(x.1==(".0":Str))).map (·.1)++(scope.names.filter λx=>x.2==.free).map (·.1)
def yS(c:CI)(scope:Scope):List 4.7:=(scope.names.filter λx=>x.2==.local&&!(x.1==(".0":Str))).map (λz=>L)++(scope.names.filter λx=>x.2==.free).map (λx=>pz x.1 c.N)
def Wo(c:CI)(scope:Scope):Bool:=
 scope.kind==.function&&(scope.names.all λx=>x.2 != .cell)&&(scope.names.all λx=>x.2 != .local||scope.names.lookup x.1==Y .local)
&&(scope.names.all λx=>x.2 != .free||c.sc.names.lookup x.1==Y .cell||c.sc.names.lookup x.1==Y .free)
&&zO c.N 1.85 (λy=>c.sc.names.lookup y) (λy=>(oJ scope c.sc).names.lookup y) 1.71 1.85&&decide (GN scope).Nodup
def tR(c:CI)(scope:Scope):CI:=⟨GN scope,oJ scope c.sc,false,c.gs,c.mt,false⟩
theorem wH(C:ja k c X)(h:Wo c scope=true):BlockOk X 1.85 scope 1.71/\∀ A s H fp,ja k 5.7 (ny X 1.85 scope A s H fp):=by
 unfold Wo at h;simp only[aae,abk,beq_iff_eq] at h;obtain⟨⟨⟨⟨⟨h1,h2⟩,h3⟩,h4⟩,h5⟩,h6⟩:=h;refine⟨blk h6 h1 h2 h3 ?_ ?_,λA s H fp=>⟨rfl,h6,?_,h1,(λz=>nomatch z),C.calm,C.room,adC,(λz=>nomatch z),C.gs⟩⟩
 ·show(scope.names.all λx=>x.2 != .free||X.env.scope.names.lookup x.1==Y .cell||X.env.scope.names.lookup x.1==Y .free)=true;rw[C.sc];exact h4
 ·show zO X.N 1.85 (λy=>X.env.scope.names.lookup y) (λy=>(oJ scope X.env.scope).names.lookup y) 1.71 1.85=true;rw[C.sc,C.N];exact h5
 ·show oJ scope X.env.scope=_;rw[C.sc];rfl
def Vu(T:vx->MT):List vx->MT
 | []=>bX
 | [e]=>T e
 | _=>zG
theorem qq{T:vx->MT}(hT:∀ e,DT X e (T e)):∀ es:List vx,NW X es (Vu T es)
 | []=>qbc Fj <| M.RI
 | [e]=>VC (hT e)
 | _::_::_=>λ_ _ _ _ _ _ ⟨_,_,_,_,_,_,_,h,_⟩=>by cases h
def qaJ(c:CI)(E:vx->ME)(it:vx):MA:=match nU it with
 | some (x,es)=>if x=="range"&&pB c x then(match es with
   | [a]=>if cK a then cD (Ba E [a]) else sN
   | _=>sN) else sN
 | none=>cR (E it)
theorem KY(C:ja k c X){E:vx->ME}(hE:∀ e,DE X e (E e)):XI X tg it (qaJ c E it):=by
 have no:XI X tg it sN:=λw w w w w w h=>by obtain⟨w,w,w,w,w,w,w,h,w⟩:=h;cases h
 unfold qaJ;split
 ·rename_i x es he;obtain⟨p,p2,rfl⟩:=fV he;split
  ·rename_i hx;rw[aae] at hx;obtain⟨m,g,o⟩:=mQ C hx.2;have z:=hx.1;rw[beq_iff_eq] at z;subst z;split
   ·split
    ·rename_i h;exact Sv rp (M.Jx m 1.11 g (cC h))
    ·exact no
   ·exact no
  ·exact no
 ·exact Sv wq (M.VQ (hE _))
theorem sD{e:vx}(h:jq e=true)(env:Env)(x:ce):Yx e env x=pure x:=by cases e<;>first | rfl | cases h
def pJ(c:CI)(E:CI->vx->ME)(T:CI->vx->MT)(elt:vx)(gens:List Comprehension)(scope:Scope)(line:Nat):ME:=match gens with
 | [⟨tg,it,ifs,a⟩]=>if a==0&&jq it&&Wo c scope then if c.mt.contains (line+100000) then kh else bY 1.04 (NU 5.7 (E 5.7) tg) (Vu (T 5.7) ifs) (E 5.7 elt) 1.71 else kh
 | [⟨tg,it,ifs,a⟩,⟨tg2,it2,ifs2,a2⟩]=>if a==0&&a2==0&&jq it&&jq it2&&Wo c scope then dL 1.04 (NU 5.7 (E 5.7) tg) (Vu (T 5.7) ifs) (qaJ 5.7 (E 5.7) it2) (NU 5.7 (E 5.7) tg2) (Vu (T 5.7) ifs2) (E 5.7 elt) 1.71 else kh
 | _=>kh
theorem AZ(C:ja k c X)(hE:∀ c X,ja k c X->∀ e,DE X e (E c e))(hT:∀ c X,ja k c X->∀ e,DT X e (T c e)):DE X (.ListComp elt gens scope pos) (pJ c E T elt gens scope line):=by
 unfold pJ;split
 ·rename_i tg it ifs a;split
  ·rename_i h;simp only[aae,beq_iff_eq] at h;obtain⟨⟨h0,h1⟩,h2⟩:=h;subst h0;obtain⟨B,C'⟩:=wH C h2;split
   ·exact cH
   ·exact cB xP <| M.Wa C.calm B 1.48 (λA s H fp=>ls 2.3 (hE _ _ 2.3) tg) (λA s H fp=>qq (hT _ _ 2.3) ifs) (λA s H fp=>hE _ _ 2.3 elt) (fE h1)
  ·exact cH
 ·rename_i tg it ifs a tg2 it2 ifs2 a2;split
  ·rename_i h;simp only[aae,beq_iff_eq] at h;obtain⟨⟨⟨⟨h0,h0'⟩,h1⟩,h1'⟩,h2⟩:=h;subst h0 h0';obtain⟨B,C'⟩:=wH C h2;exact cB uk <| M.Sj C.calm B 1.48 (λA s H fp=>ls 2.3 (hE _ _ 2.3) tg) (λA s H fp=>qq (hT _ _ 2.3) ifs) (λA s H fp=>KY 2.3 (hE _ _ 2.3)) (λA s H fp=>ls 2.3 (hE _ _ 2.3) tg2) (λA s H fp=>qq (hT _ _ 2.3) ifs2) (λA s H fp=>hE _ _ 2.3 elt) (fE h1) (sD h1')
  ·exact cH
 ·exact cH
def qaI(E:vx->ME):List 1.05->List vx->Option (List (ME×ME))
 | [],[]=>Y []
 | some k::ks,v::vs=>(qaI E ks vs).bind λr=>Y ((E k,E v)::r)
 | _,_=>L
theorem KU{E:vx->ME}(hE:∀ e,DE X e (E e)):∀ {ks:List 1.05} {vs:List vx} {ms:List (ME×ME)},qaI E ks vs=Y ms->DPs X pos ks vs ms/\ks.all (·.isSome)=true/\ks.length=vs.length
 | [],[],ms,h=>by cases h;exact⟨VM,rfl,rfl⟩
 | some k::ks,v::vs,ms,h=>by
  obtain⟨r,h1,h2⟩:=aaa.mp h;cases h2;obtain⟨a,b,d⟩:=KU hE h1;exact⟨RS (hE k) (hE v) a,by rw[abi,b];rfl,by rw[aar,aar,d]⟩
 | [],_::_,_,h=>by cases h
 | none::_,_,_,h=>by cases h
 | some _::_,[],_,h=>by cases h
def Jk(c:CI)(E:vx->ME)(ks:List 1.05)(vs:List vx)(line:Nat):ME:=match ks with
 | []=>if vs.isEmpty&&!c.mt.contains line then mC (.dct [] []) else kh
 | k::r=>if (k::r).length<=15 then(match qaI E (k::r) vs with | some ms=>if c.mt.contains line then ft ms else iF ms | none=>kh) else kh
theorem Nd{E:vx->ME}(C:ja k c X)(hE:∀ e,DE X e (E e))(ks:List 1.05)(vs:List vx)(line:Nat):DE X (.Dict ks vs pos) (Jk c E ks vs line):=by
 unfold Jk;split
 ·split
  ·rename_i h;rw[aae] at h;have:vs=[]:=by simpa using h.1
   subst this;exact cB xQ <| M.VY
  ·exact cH
 ·rename_i k r;split
  ·rename_i hl;split
   ·rename_i ms h;obtain⟨a,b,d⟩:=KU (pos:=pos) hE h;split
    ·exact cB AC (M.Si a b d 0.3 hl)
    ·exact cB Fy (M.VZ a b d 0.3 hl)
   ·exact cH
  ·exact cH
def Rh(E:vx->ME):List vx->ME
 | []=>kh
 | _=>kh
theorem Nc{E:vx->ME}(hE:∀ e,DE X e (E e)):∀ es:List vx,DE X (.JoinedStr es pos) (Rh E es)
 | []=>cH
 | _::_=>cH
def Xs(E:vx->ME)(v:vx)(cv:Int)(f:Option vx):ME:=match cv,f with
 | _,_=>kh
theorem Rn{E:vx->ME}(hE:∀ e,DE X e (E e)):DE X (.FormattedValue v cv f pos) (Xs E v cv f):=by
 exact cH
def WK(E:CI->vx->ME)(T:CI->vx->MT)(c:CI):vx->ME
 | .Constant v _ _=>KZ v
 | .Name x _=>Ji c x
 | .BinOp a op b p=>Rr (c.mt.contains (p.line+200000)) (c.mt.contains (p.line+210000)) op (E c a) (E c b)
 | .UnaryOp op a _=>evUn op (E c a)
 | .Compare a ops bs _=>Rp c E a ops bs
 | .BoolOp op vs _=>match op with | .And=>Gg eD (vs.map (E c)) | .Or=>Gg wp (vs.map (E c))
 | .IfExp t a b _=>oi (T c t) (E c a) (E c b)
 | .Tuple es _ _=>aR 1.66
 | .List es pos=>if c.mt.contains pos.line then fC 1.66 else dw 1.66
 | .Dict ks vs pos=>Jk c (E c) ks vs pos.line
 | .Subscript a i _=>Xq c (E c) a i
 | .Call f es ks p=>match nJ f,JG f,ks with | some x,_,[]=>Df c (E c) x es | none,Y (o,nm,ap),[]=>De (c.mt.contains 500000) (c.mt.contains 999000) (E c) o nm ap p es | _,_,_=>kh
 | .ListComp elt gens scope p=>pJ c E T elt gens scope p.line
 | .JoinedStr es _=>Rh (E c) es
 | .FormattedValue v cv f _=>Xs (E c) v cv f
 | _=>kh
def WI(E:CI->vx->ME)(T:CI->vx->MT)(c:CI):vx->MT
 | .UnaryOp op a p=>match op with | .Not=>dJ (T c a) | op=>dQ (E c (.UnaryOp op a p))
 | .BoolOp op vs _=>match op with | .And=>yt dD (vs.map (T c)) | .Or=>yt gW (vs.map (T c))
 | .Compare a ops bs _=>Jm c E a ops bs
 | .IfExp _ _ _ _=>zG
 | e=>dQ (E c e)
theorem Ow(hE:∀ c X,ja k c X->∀ e,DE X e (E c e))(hT:∀ c X,ja k c X->∀ e,DT X e (T c e))(C:ja k c X)(e:vx):DE X e (WK E T c e):=by
 have h1:=hE c X C;have h2:=hT c X C;cases e with
 | Constant v j p=>exact Jl v
 | Name x p=>exact Na C x
 | BinOp a op b p=>
  show DE X _ (Rr (c.mt.contains (p.line+200000)) (c.mt.contains (p.line+210000)) op (E c a) (E c b));exact Rq (z:=c.mt.contains (p.line+200000)) (y:=c.mt.contains (p.line+210000)) (h1 a) (h1 b)
 | UnaryOp op a p=>exact Vt (h1 a)
 | Compare a ops bs p=>exact Ro C h1
 | BoolOp op vs p=>cases op with | And=>exact AW h1 vs | Or=>exact Gf h1 vs
 | IfExp t a b p=>exact cB PZ <| M.de_if (h2 t) (h1 a) (h1 b)
 | Tuple es j p=>exact cB Km <| M.qaZ (gC h1 es)
 | List es p=>
  show DE X _ (if c.mt.contains p.line then fC 1.66 else dw 1.66);split
  ·exact cB Fs <| M.VW (gC h1 es)
  ·exact cB Kt <| M.qb4 (gC h1 es)
 | Dict ks vs p=>exact Nd C h1 ks vs p.line
 | Subscript a i p=>exact Rf C h1 a i
 | Call f es ks p=>
  show DE X _ (match nJ f,JG f,ks with | some x,_,[]=>Df c (E c) x es | none,Y (o,nm,ap),[]=>De (c.mt.contains 500000) (c.mt.contains 999000) (E c) o nm ap p es | _,_,_=>kh);split
  ·rename_i x h;obtain⟨p2,rfl⟩:=fF h;exact Ng C h1
  ·rename_i o nm ap _ ha;have:=GP ha;subst this;exact Nb C h1
  ·exact cH
 | ListComp elt gens scope p=>exact AZ C hE hT
 | JoinedStr es p=>exact Nc h1 es
 | FormattedValue v cv f p=>exact Rn h1
 | _=>exact cH
theorem Ou(hE:∀ c X,ja k c X->∀ e,DE X e (E c e))(hT:∀ c X,ja k c X->∀ e,DT X e (T c e))(C:ja k c X)(e:vx):DT X e (WI E T c e):=by
 have h1:=hE c X C;have h2:=hT c X C;cases e with
 | UnaryOp op a p=>cases op<;>first | exact GJ Fo <| M.qaP (h2 a) | exact GJ Cy <| M.Gv (h1 _)
 | BoolOp op vs p=>cases op with | And=>exact MQ h2 vs | Or=>exact QI h2 vs
 | Compare a ops bs p=>exact Nf C h1
 | IfExp t a b p=>exact tL
 | _=>exact GJ Cy <| M.Gv (h1 _)
def ev:Nat->(CI->vx->ME)×(CI->vx->MT)
 | 0=>(λz z=>kh,λz z=>zG)
 | n+1=>(WK (ev n).1 (ev n).2,WI (ev n).1 (ev n).2)
theorem qR:∀ n:Nat,(∀ c X,ja k c X->∀ e,DE X e ((ev n).1 c e))/\(∀ c X,ja k c X->∀ e,DT X e ((ev n).2 c e))
 | 0=>⟨λz z z z=>cH,λz z z z=>tL⟩
 | n+1=>⟨λz z C e=>Ow (qR n).1 (qR n).2 C e,λz z C e=>Ou (qR n).1 (qR n).2 C e⟩
def nI:vx->Bool
 | .ListComp _ _ _ _=>false
 | .SetComp _ _ _ _=>false
 | .DictComp _ _ _ _ _=>false
 | _=>true
theorem jE(h:nI e=true):swapsWith e t l X.env=pure false:=by cases e<;>first | rfl | cases h
def sV:vx->Bool
 | .Tuple _ _ _=>true
 | .List _ _=>true
 | _=>false
theorem HS(h:sV t=false\/sV e=false):swappedStores [t] e X.env=pure L:=by
 rcases h with h | h
 ·cases t<;>first | rfl | cases h
 ·cases t<;>first | rfl | (cases e<;>first | rfl | cases h)
def Ry(c:CI)(E:CI->vx->ME)(T:CI->vx->MT)(x:Str)(px:Pos)(e:vx):MS:=match e with
 | .ListComp elt gens scope p=>if c.all&&(c.sc.names.lookup x==Y .local&&px.line==p.line&&!(scope.names.any λy=>y.1==x&&(y.2==.local||y.2==.cell))) then aT 7.5 (vT c x) else if c.all&&c.sc.names.lookup x==Y .cell then aT 7.5 (vT c x) else gz
 | e=>if nI e then aT (E c e) (vT c x) else gz
def Ta:vx->Option (vx×vx)
 | .Tuple [a,b] _ _=>Y (a,b)
 | _=>L
theorem zX{a b:vx}(h:Ta t=Y (a,b)):∃ k p,t=.Tuple [a,b] k p:=by
 unfold Ta at h;split at h
 ·cases h;exact⟨_,_,rfl⟩
 ·cases h
def nmP:vx->Option (Str×Pos)
 | .Name x p=>Y (x,p)
 | _=>L
theorem EJ{e:vx}{x:Str}{p:Pos}(h:nmP e=Y (x,p)):e=.Name x p:=by cases e<;>cases h;rfl
def par2(t:vx):Option (Str×Pos×Str×Pos):=(Ta t).bind λq=>(nmP q.1).bind λx=>(nmP q.2).bind λy=>Y (x.1,x.2,y.1,y.2)
theorem LX{x y:Str}{px py:Pos}(h:par2 t=Y (x,px,y,py)):∃ k p,t=.Tuple [.Name x px,.Name y py] k p:=by
 obtain⟨⟨a,b⟩,h1,h⟩:=aaa.mp h;obtain⟨x,h2,h⟩:=aaa.mp h;obtain⟨y,h3,h⟩:=aaa.mp h;cases h;cases EJ h2;cases EJ h3;exact zX h1
theorem Hi{k:Nat}{a b:vx}(h:(X.env.kindOf x==Y NameKind.local&&X.env.kindOf y==Y NameKind.local)=false):swappedStores [.Tuple [.Name x px,.Name y py] k p] (.Tuple [a,b] k2 p2) X.env=pure L:=by
 unfold swappedStores;simp only;split
 ·rfl
 split
 ·rfl
 rw[aas];generalize hg:List.filterMap _ [Expr.Name x px,Expr.Name y py]=L4
 have hL:L4.length<=1:=by
  rw[<- hg,aaV,aaV];cases hx:(X.env.kindOf x==Y NameKind.local) with
  | false=>simp only[hx,aaK,aaU,abU];split<;>simp
  | true=>
   have hy:(X.env.kindOf y==Y NameKind.local)=false:=by rw[hx,abh] at h;exact h
   simp only[hy,aaK,aaU,abU];split<;>simp
 have h2:(L4.length != [Expr.Name x px,Expr.Name y py].length)=true:=by
  rw[bne_iff_ne];show L4.length≠2;omega
 rw[h2];rfl
def Kf(c:CI)(x y:Str):Bool:=!(c.sc.names.lookup x==Y .local&&c.sc.names.lookup y==Y .local)
def KW(c:CI)(E:CI->vx->ME)(t e:vx):Option MS:=match par2 t,Ta e with
 | some (x,px,y,py),Y (a,b)=>if Kf c x y then Y (aT (E c e) (NU c (E c) t)) else match pz x c.N,pz y c.N with
  | some i,Y j=>if (c.all&&c.sc.names.lookup x==Y .local&&c.sc.names.lookup y==Y .local&&!(x==y)&&py.line==px.line&&xh a&&xh b&&!(foldedForSure 8 a&&foldedForSure 8 b)&&!(constantsAlone 8 a&&constantsAlone 8 b)&&!(i==j))=true then Y (oz i j (Ba (E c) [a,b])) else L
  | _,_=>L
 | _,_=>L
theorem Rg(C:ja k c X){E:CI->vx->ME}(hE:∀ e,DE X e (E c e))(h:KW c E t e=Y m):DS X (.Assign [t] e pos) m:=by
 unfold KW at h;split at h
 ·rename_i x px y py a b h1 h2;obtain⟨k1,p1,rfl⟩:=LX h1;obtain⟨k2,p2,rfl⟩:=zX h2;split at h
  ·rename_i hn;cases h;refine kz jF <| M.RQ (hE _) (ls C hE _) rfl (Hi ?_) rfl
   unfold Kf at hn;rw[Bool.not_eq_true'] at hn;show(X.env.scope.names.lookup x==Y NameKind.local&&X.env.scope.names.lookup y==Y NameKind.local)=false;rw[C.sc];exact hn
  split at h
  ·rename_i i j hi hj;split at h
   ·rename_i hc;cases h;simp only[aae,beq_iff_eq,Bool.not_eq_true'] at hc;obtain⟨⟨⟨⟨⟨⟨⟨⟨⟨_,hx⟩,hy⟩,hne⟩,hl⟩,ha⟩,hb⟩,hf⟩,hcn⟩,hij⟩:=hc;have hx':X.env.scope.names.lookup x=Y .local:=by rw[C.sc];exact hx
    have hy':X.env.scope.names.lookup y=Y .local:=by rw[C.sc];exact hy
    have hbk:X.env.blockKind=.function:=by unfold Env.blockKind;rw[C.sc,C.fk];rfl
    exact kz Kr (M.qaS C.calm (by rw[C.N];exact C.nd) (by rw[C.N];exact dj hi) (by rw[C.N];exact dj hj) (by simpa using hij) hx' hy' 1.11 (On hbk hx' hy' hne (by simpa using hl) ha hb hf hcn))
   ·cases h
  ·cases h
 ·cases h
def Rz(c:CI)(E:CI->vx->ME)(T:CI->vx->MT)(t e:vx):MS:=match t with
 | .Name x px=>Ry c E T x px e
 | t=>match KW c E t e with
 | some m=>m
 | none=>if (nI e||sV t)&&cK t&&(!sV t||!sV e) then aT (E c e) (NU c (E c) t) else gz
theorem sO{s:QO}:DS X s (aT m QG):=λz z z z z z z0=>by
 obtain⟨z,z,z,z,z,z,h,z⟩:=z0;rw[jF] at h;obtain⟨z,z,h⟩:=aaa.mp h;cases h
theorem Nh(C:ja k c X)(hE:∀ c X,ja k c X->∀ e,DE X e (E c e))(hT:∀ c X,ja k c X->∀ e,DT X e (T c e)):DS X (.Assign [.Name x px] e pos) (Ry c E T x px e):=by
 have h1:=hE c X C
 have gen:∀ e,nI e=true->DS X (.Assign [.Name x px] e pos) (aT (E c e) (vT c x)):=λe hn=>by
  unfold vT;split
  ·rename_i h1' h2;exact kz rA <| M.Jo (by rw[C.N];exact C.nd) (by rw[C.N];exact dj h2) (by rw[C.sc];exact .inl h1') (h1 e) (jE hn) (.inr (by rw[C.sc];exact h1'))
  ·rename_i h1' h2;split
   ·rename_i ha;exact kz rA <| M.Jo (by rw[C.N];exact C.nd) (by rw[C.N];exact dj h2) (by rw[C.sc];exact .inr h1') (h1 e) (jE hn) (.inl (C.fn ha x))
   ·exact sO
  ·exact sO
 cases e with
 | ListComp elt gens scope p=>
  show DS X _ (if c.all&&(c.sc.names.lookup x==Y .local&&px.line==p.line&&!(scope.names.any λy=>y.1==x&&(y.2==.local||y.2==.cell))) then aT 7.5 (vT c x) else if c.all&&c.sc.names.lookup x==Y .cell then aT 7.5 (vT c x) else gz);split
  ·rename_i hw;rw[aae] at hw;have hw1:=hw.2;simp only[aae,beq_iff_eq] at hw1;have hl:=hw1.1.1;unfold vT;rw[hl];cases hi:pz x c.N with
   | none=>exact sO
   | some i=>
    have sw:(pure (X.env.blockKind==.function&&X.env.scope.names.lookup x==Y .local&&px.line==p.line&&!(scope.names.any λy=>y.1==x&&(y.2==.local||y.2==.cell))):Sem Bool)=pure true:=by
     have hb:X.env.blockKind=.function:=by unfold Env.blockKind;rw[C.sc,C.fk];rfl
     rw[hb,C.sc];have:=hw.2;simp only[adH] at this ⊢;rw[this];rfl
    unfold pJ;split
    ·rename_i tg it ifs a;split
     ·rename_i h;simp only[aae,beq_iff_eq] at h;obtain⟨⟨h0,h1'⟩,h2⟩:=h;subst h0;obtain⟨B,C'⟩:=wH C h2;split
      ·exact Gy
      ·exact kz FC <| M.Jn (by rw[C.N];exact C.nd) (by rw[C.N];exact dj hi) (by rw[C.sc];exact .inl hl) C.calm B 1.48 (λA s H fp=>ls 2.3 (hE _ _ 2.3) tg) (λA s H fp=>qq (hT _ _ 2.3) ifs) (λA s H fp=>hE _ _ 2.3 elt) sw (fE h1') (.inr (by rw[C.sc];exact hl))
     ·intro w w w w w w ⟨_,_,_,_,_,_,h,_⟩;rw[jF] at h;obtain⟨w,z,h⟩:=aaa.mp h;cases z
    ·rename_i tg it ifs a tg2 it2 ifs2 a2;split
     ·rename_i h;simp only[aae,beq_iff_eq] at h;obtain⟨⟨⟨⟨h0,h0'⟩,h1'⟩,h1''⟩,h2⟩:=h;subst h0 h0';obtain⟨B,C'⟩:=wH C h2;exact kz CC <| M.Gw (by rw[C.N];exact C.nd) (by rw[C.N];exact dj hi) (by rw[C.sc];exact .inl hl) C.calm B 1.48 (λA s H fp=>ls 2.3 (hE _ _ 2.3) tg) (λA s H fp=>qq (hT _ _ 2.3) ifs) (λA s H fp=>KY 2.3 (hE _ _ 2.3)) (λA s H fp=>ls 2.3 (hE _ _ 2.3) tg2) (λA s H fp=>qq (hT _ _ 2.3) ifs2) (λA s H fp=>hE _ _ 2.3 elt) sw (fE h1') (sD h1'') (.inr (by rw[C.sc];exact hl))
     ·intro w w w w w w ⟨_,_,_,_,_,_,h,_⟩;rw[jF] at h;obtain⟨w,z,h⟩:=aaa.mp h;cases z
    ·exact Gy
  ·split
   ·rename_i hw;rw[aae,beq_iff_eq] at hw;unfold vT;rw[hw.2];cases hi:pz x c.N with
    | none=>exact sO
    | some i=>
     dsimp only;rw[aas hw.1];refine kz rA <| M.Jo (by rw[C.N];exact C.nd) (by rw[C.N];exact dj hi) (by rw[C.sc];exact .inr hw.2) (AZ C hE hT) ?_ (.inl (C.fn hw.1 x))
     show(pure (X.env.blockKind==.function&&X.env.scope.names.lookup x==Y .local&&px.line==p.line&&!(scope.names.any λy=>y.1==x&&(y.2==.local||y.2==.cell))):Sem Bool)=pure false;rw[C.sc,hw.2];have:((Y NameKind.cell:Option NameKind)==Y .local)=false:=by decide
     rw[this,aaI];rfl
   ·exact fS
 | SetComp _ _ _ _=>exact fS
 | DictComp _ _ _ _ _=>exact fS
 | _=>exact gen _ rfl
theorem FQ(h:sV t=true):swapsWith e (Y t) l X.env=pure false:=by cases t<;>first | (cases h;done) | (cases e<;>rfl)
theorem Rx(C:ja k c X)(hE:∀ c X,ja k c X->∀ e,DE X e (E c e))(hT:∀ c X,ja k c X->∀ e,DT X e (T c e)){t:vx}:DS X (.Assign [t] e pos) (Rz c E T t e):=by
 have gen:∀ t,DS X (.Assign [t] e pos) (match KW c E t e with | some m=>m | none=>if (nI e||sV t)&&cK t&&(!sV t||!sV e) then aT (E c e) (NU c (E c) t) else gz):=λt=>by
  split
  ·rename_i h;exact Rg C (hE _ _ C) h
  split
  ·rename_i h;simp only[aae,acB,Bool.not_eq_true'] at h;refine kz jF <| M.RQ (hE _ _ C e) (ls C (hE _ _ C) t) (h.1.1.elim jE FQ) (HS h.2) ?_
   rw[uJ h.1.2];rfl
  ·exact fS
 cases t with
 | Name x px=>exact Nh C hE hT
 | _=>exact gen _
def zd:List MS->MS
 | []=>bv
 | [m]=>m
 | m::r=>aI m (zd r)
theorem nA{F:QO->MS}(h:∀ s,DS X s (F s)):∀ ss:List QO,zQ X ss (zd (ss.map F))
 | []=>JB pd <| M.Lg
 | [s]=>Le (h s)
 | s::s'::r=>JB Kn <| M.RL (h s) (nA h (s'::r))
def IQ:vx->Bool
 | .Constant (.str _) _ _=>true
 | _=>false
def Rv(c:CI)(E:vx->ME)(op:Operator)(e:vx):vx->MS
 | .Name x _=>match op,c.sc.names.lookup x,pz x c.N with
  | .Add,Y .local,Y i=>gz
  | .Add,Y .cell,Y i=>if c.all then gz else gz
  | _,_,_=>gz
 | _=>gz
theorem Ru{E:vx->ME}(C:ja k c X)(hE:∀ e,DE X e (E e))(e:vx)(t:vx):DS X (.AugAssign t op e pos) (Rv c E op e t):=by
 unfold Rv;split
 ·split
  ·rename_i h1 h2;exact fS
  ·rename_i h1 h2;split
   ·rename_i ha;exact fS
   ·exact fS
  ·exact fS
 ·exact fS
def SH:QO->Option (vx×vx)
 | .Assign ts v _=>ts.head?.bind λt=>if ts.length=1 then Y (t,v) else L
 | _=>L
theorem yT{s:QO}{t v:vx}(h:SH s=Y (t,v)):∃ p,s=.Assign [t] v p:=by
 cases s<;>try cases h
 rename_i ts v' p;obtain⟨t',h1,h⟩:=aaa.mp h;split at h
 ·rename_i hl;cases h;cases ts with
  | nil=>cases hl
  | cons a r=>
   cases r with
   | nil=>cases h1;exact⟨_,rfl⟩
   | cons b r=>simp at hl
 ·cases h
def qba:vx->Option Bool
 | .Constant 1.61 _ _=>Y b
 | _=>L
theorem Ny{e:vx}(q:qba e=Y b):∃ j p,e=.Constant 1.61 j p:=by
 unfold qba at q;split at q
 ·cases q;exact⟨_,_,rfl⟩
 ·cases q
def Yw:QO->Option Bool
 | .Return (Y e) _=>qba e
 | _=>L
theorem LN{s:QO}(q:Yw s=Y b):∃ j p1 p2,s=.Return (Y (.Constant 1.61 j p1)) p2:=by
 unfold Yw at q;split at q
 ·obtain⟨j,p,rfl⟩:=Ny q;exact⟨_,_,_,rfl⟩
 ·cases q
def HD(h:ExceptHandler):Option (vx×Bool):=match h with
 | .ExceptHandler (Y g) L [s] _=>(Yw s).bind λb=>Y (g,b)
 | _=>L
theorem Ep{g:vx}{b:Bool}(q:HD h=Y (g,b)):∃ j p1 p2 p3,h=.ExceptHandler (Y g) L [.Return (Y (.Constant 1.61 j p1)) p2] p3:=by
 unfold HD at q;split at q
 ·obtain⟨b',h,q⟩:=aaa.mp q;obtain⟨j,p1,p2,rfl⟩:=LN h;cases q;exact⟨_,_,_,_,rfl⟩
 ·cases q
def Hd(b:List QO)(h:List ExceptHandler):Option (Str×vx×List vx×Str×Bool×Str):=match b,h with
 | [s],[k]=>(SH s).bind λz=>(nJ z.1).bind λv=>(nU z.2).bind λp=>(HD k).bind λm=>(nJ m.1).bind λg=>match p.2 with
  | e::es=>Y (p.1,e,es,g,m.2,v)
  | []=>L
 | _,_=>L
theorem DL{f g v:Str}{e:vx}{es:List vx}{x:Bool}(q:Hd b h=Y (f,e,es,g,x,v)):∃ p0 p1 p2 p3 p4 j p5 p6 p7,b=[.Assign [.Name v p0] (.Call (.Name f p1) (e::es) [] p2) p3]/\h=[.ExceptHandler (Y (.Name g p4)) L [.Return (Y (.Constant (.bool x) j p5)) p6] p7]:=by
 unfold Hd at q;split at q
 ·obtain⟨⟨t0,v0⟩,h1,q1⟩:=aaa.mp q;obtain⟨v',h9,q9⟩:=aaa.mp q1;obtain⟨⟨f',es'⟩,h2,q2⟩:=aaa.mp q9;obtain⟨⟨g',b'⟩,h3,q3⟩:=aaa.mp q2;obtain⟨g2,h5,q5⟩:=aaa.mp q3;clear q q1 q2 q3 q9;obtain⟨p1,rfl⟩:=yT h1;obtain⟨p0,rfl⟩:=fF h9;obtain⟨p2,p3,rfl⟩:=fV h2;obtain⟨j,p4,p5,p7,rfl⟩:=Ep h3;obtain⟨p6,rfl⟩:=fF h5;cases es' with
  | nil=>cases q5
  | cons a r=>cases q5;exact⟨_,_,_,_,_,_,_,_,_,rfl,rfl⟩
 ·cases q
def Tc(c:CI)(E:vx->ME)(b:List QO)(h:List ExceptHandler):Option MS:=match Hd b h with
 | some (f,e,es,g,x,v)=>match c.gs.lookup ("try": Str),SQ c g,pz v c.N with
  | some (.thr f' n fy C fl),Y (.hnd C'),Y l=>if f'=f/\C'=C/\c.sc.names.lookup f=Y .globalImplicit/\fD f=true/\(e::es).all cK=true/\c.sc.names.lookup v=Y .local then Y (Aw n fy (Ba E (e::es)) l x) else L
  | _,_,_=>L
 | none=>L
theorem Tb{E:vx->ME}(C:ja k c X)(hE:∀ e,DE X e (E e))(hx:c.nx=true)(q:Tc c E b h=Y m):DS X (.Try b h [] [] pos) m:=by
 have Z:=C.xf hx;unfold Tc at q;split at q
 ·rename_i f e es g x v ht;obtain⟨p0,p1,p2,p3,p4,j,p5,p6,p7,rfl,rfl⟩:=DL ht;split at q
  ·rename_i f' n fy A fl A' l hl hg hv;obtain⟨gg,o,G⟩:=iL C hg;split at q
   ·rename_i z;obtain⟨rfl,rfl,z1,z2,z6,z7⟩:=z;cases q;rw[abi,aae] at z6;exact M.VF (C.gs _ (abC hl)) C.room (by show X.env.scope.names.lookup f'=_;rw[C.sc];exact z1) 1.11 (λv s' w=>by rw[Z.xe] at w;exact w) G gg (by rw[C.N];exact C.nd) (by rw[C.N];exact dj hv) (by rw[C.sc];exact z7) Z.hs Z.hfm Z.hex (cL z2) (cL o) (cC z6.1) (gZ z6.2) rfl
   ·cases q
  ·cases q
 ·cases q
def WJ(E:CI->vx->ME)(T:CI->vx->MT)(F:CI->QO->MS)(c:CI):QO->MS
 | .Return o _=>match o with | some e=>bw (E c e) | none=>λz S=>Y (.rt .non S)
 | .Pass _=>bv
 | .Break _=>λenv S=>Y (.bk env S)
 | .Continue _=>λenv S=>Y (.ct env S)
 | .Expr e _=>if IQ e then bv else if nI e then eQ (E c e) else gz
 | .If t a b _=>cj (T c t) (zd (a.map (F c))) (zd (b.map (F c)))
 | .Assign ts e _=>match ts with | [t]=>Rz c E T t e | _=>gz
 | .AugAssign t op e _=>Rv c (E c) op e t
 | .Try body hs els fin _=>match hs,els,fin with | _::_,[],[]=>if c.nx then(match Tc c (E c) body hs with | some m=>m | none=>gz) else gz | _,_,_=>gz
 | .While tst body els _=>match els with | []=>fh (T c tst) 8.8 | _=>gz
 | .For tg it body els _=>match els with | []=>if jq it then(if Qz c it then kY 1.04 1.37 8.8 else eG (E c it) 1.37 8.8) else gz | _=>gz
 | _=>gz
theorem Ov{F:CI->QO->MS}(hE:∀ c X,ja k c X->∀ e,DE X e (E c e))(hT:∀ c X,ja k c X->∀ e,DT X e (T c e))(hF:∀ c X,ja k c X->∀ e,DS X e (F c e))(C:ja k c X)(s:QO):DS X s (WJ E T F c s):=by
 have h1:=hE c X C;have h2:=hT c X C;have h3:=hF c X C;cases s with
 | Return o p=>cases o with | none=>exact VG | some e=>exact kz Kq <| M.RN (h1 e)
 | Pass p=>exact kz pd <| M.VH
 | Break p=>exact RP
 | Continue p=>exact Gx
 | Expr e p=>
  show DS X _ (if IQ e then bv else if nI e then eQ (E c e) else gz);split
  ·rename_i h;unfold IQ at h;split at h
   ·exact kz pd <| M.qaT
   ·cases h
  ·split
   ·rename_i h;exact kz Fw <| M.VL (h1 e) (jE h)
   ·exact fS
 | If t a b p=>exact kz Kv <| M.ds_if (h2 t) (nA h3 a) (nA h3 b)
 | Assign ts e p=>
  show DS X _ (match ts with | [t]=>Rz c E T t e | _=>gz);split
  ·exact Rx C hE hT
  ·exact fS
 | AugAssign t op e p=>exact Ru C h1 e t
 | Try body hs els fin p=>
  show DS X _ (match hs,els,fin with | _::_,[],[]=>if c.nx then(match Tc c (E c) body hs with | some m=>m | none=>gz) else gz | _,_,_=>gz);split
  ·split
   ·rename_i hx;split
    ·rename_i m hm;exact Tb C h1 hx hm
    ·exact fS
   ·exact fS
  ·exact fS
 | While tst body els p=>
  cases els with
  | nil=>exact kz Au <| M.RM C.xe (h2 tst) (nA h3 body)
  | cons _ _=>exact fS
 | For tg it body els p=>
  cases els with
  | nil=>
   show DS X _ (if jq it then(if Qz c it then kY 1.04 1.37 8.8 else eG (E c it) 1.37 8.8) else gz);split
   ·rename_i h;split
    ·exact kz Kw <| M.RO C.xe C.calm (uD C h1) (ls C h1 tg) (nA h3 body) (fE h)
    ·exact kz Fu <| M.VJ C.xe C.calm (h1 it) (ls C h1 tg) (nA h3 body) (fE h)
   ·exact fS
  | cons _ _=>exact fS
 | _=>exact fS
def evS(n:Nat):Nat->CI->QO->MS
 | 0=>λz z=>gz
 | m+1=>WJ (ev n).1 (ev n).2 (evS n m)
theorem Jh(n:Nat):∀ m:Nat,∀ c X,ja k c X->∀ s,DS X s (evS n m c s)
 | 0=>λz z z z=>fS
 | m+1=>λz z C s=>Ov (qR n).1 (qR n).2 (Jh n m) C s
def Oo:vx->Option (vx×vx)
 | .Subscript o q _=>Y (o,q)
 | _=>L
theorem wN{e o q:vx}(h:Oo e=Y (o,q)):∃ p,e=.Subscript o q p:=by cases e<;>cases h;exact⟨_,rfl⟩
def WO:QO->Option vx
 | .Return v _=>v
 | _=>L
theorem HC{s:QO}{e:vx}(h:WO s=Y e):∃ p,s=.Return (Y e) p:=by cases s<;>cases h;exact⟨_,rfl⟩
def dAsg(s:QO):Option (Str×Str×vx):=(SH s).bind λa=>(nJ a.1).bind λb=>(Oo a.2).bind λq=>(nJ q.1).bind λx=>(Oo q.2).bind λz=>Y (b,x,q.2)
theorem Nw{s:QO}{b x:Str}{ix:vx}(h:dAsg s=Y (b,x,ix)):qx ix/\∃ pb pt ps pa,s=.Assign [.Name b pb] (.Subscript (.Name x pt) ix ps) pa:=by
 obtain⟨⟨t,v⟩,h1,h⟩:=aaa.mp h;obtain⟨b,h2,h⟩:=aaa.mp h;obtain⟨⟨o,i⟩,h3,h⟩:=aaa.mp h;obtain⟨x,h4,h⟩:=aaa.mp h;obtain⟨⟨o2,i2⟩,h5,h⟩:=aaa.mp h;cases h;obtain⟨pa,rfl⟩:=yT h1;obtain⟨pb,rfl⟩:=fF h2;obtain⟨ps,rfl⟩:=wN h3;obtain⟨pt,rfl⟩:=fF h4;obtain⟨p,rfl⟩:=wN h5;exact⟨by intro z z;rfl,_,_,_,_,rfl⟩
def dRet(s:QO):Option (Str×vx×List vx):=(WO s).bind λv=>(nU v).bind λp=>p.2.head?.bind λe=>Y (p.1,e,p.2.tail)
theorem Nv{s:QO}{b:Str}{e:vx}{es:List vx}(h:dRet s=Y (b,e,es)):∃ p pc pr,s=.Return (Y (.Call (.Name b p) (e::es) [] pc)) pr:=by
 obtain⟨v,h1,h⟩:=aaa.mp h;obtain⟨⟨b,l⟩,h2,h⟩:=aaa.mp h;obtain⟨e,h3,h⟩:=aaa.mp h;cases h;obtain⟨pr,rfl⟩:=HC h1;obtain⟨p,pc,rfl⟩:=fV h2;cases l<;>cases h3;exact⟨_,_,_,rfl⟩
def Xy(c:CI)(b x:Str)(ix:vx)(e:vx)(es:List vx):Option MS:=match pz b c.N,SQ c x with
 | some i,Y (.ftab l)=>if fD b&&c.sc.names.lookup b==Y .local&&(e::es).all cK then Y (jJ l i ((ev 40).1 c ix) (Ba ((ev 40).1 c) (e::es))) else L
 | _,_=>L
def Dm(c:CI):List QO->Option MS
 | [s,t]=>match dAsg s,dRet t with
  | some (b,x,ix),Y (b',e,es)=>if b'==b then Xy c b x ix e es else L
  | _,_=>L
 | _=>L
theorem Np(C:ja k c X)(h:Dm c body=Y m):zQ X body m:=by
 unfold Dm at h;split at h
 ·rename_i s t;split at h
  ·rename_i b x ix b' e es h1 h2;obtain⟨hs,pb,pt,ps,pa,rfl⟩:=Nw h1;obtain⟨p,pc,pr,rfl⟩:=Nv h2;split at h
   ·rename_i hb;rw[beq_iff_eq] at hb;subst hb;unfold Xy at h;split at h
    ·rename_i i l hi hg;obtain⟨g,o,G⟩:=iL C hg;split at h
     ·rename_i hc;simp only[aae,beq_iff_eq] at hc;obtain⟨⟨o1,h3⟩,h4⟩:=hc;cases h;rw[abi,aae] at h4
      exact JB Fx <| M.RK G g (cL o) ((qR 40).1 _ _ C ix) hs C.room (gC ((qR 40).1 _ _ C) _) (by rw[C.N];exact C.nd) (by rw[C.N];exact dj hi) (by rw[C.sc];exact .inl h3) (by rw[C.sc];exact .inl h3) (.inr (by rw[C.sc];exact h3)) (cL o1) (EE o1)
       (by rw[C.N];exact(aac.mp (dj hi)).1) (cC h4.1) (gZ h4.2)
     ·cases h
    ·cases h
   ·cases h
  ·cases h
 ·cases h
def gI(c:CI)(body:List QO):MS:=match Dm c body with
 | some m=>m
 | none=>zd (body.map (evS 40 20 c))
theorem Rt(C:ja k c X)(body:List QO):zQ X body (gI c body):=by
 unfold gI;cases h:Dm c body with
 | some m=>exact Np C h
 | none=>exact nA (Jh 40 20 c X C) body
end
end
def iz(N:List Str)(st:QO)(gs:List 1.1)(mt:List Nat):CI:=⟨N,aw st,true,gs,mt,true⟩
def GK(P:Op)(w:Qa)(K:aeO)(mg:Str->Option ce)(base:TF)(k:Nat)(p:Str×GI):Prop:=match p.2 with
 | .fn n f=>Fn P w K mg base k p.1 n f
 | .con d=>GC K mg p.1 d
 | .blt=>mg p.1=L
 | .tab l=>yU w K mg p.1 l
 | .ftab l=>FTab P w K mg base k p.1 l
 | .thr f n fy C fl=>FnY P w K mg base k f n fy C fl
 | .hnd C=>GV K mg p.1 C
 | .rse C fl=>2<=k/\GS P w K mg base p.1 C fl
theorem Sa{K:aeO}{k:Nat}{st:QO}{gs:List 1.1}{mt:List Nat}
  (F:bR K mg x st) (Sc:aQ N ps (aw st)) (hb:rT x st ps) (hg:∀ p∈gs,GK P w K mg base k p) :
  Fn P w K mg base (k+1) x ps.length (aU N 1.28 ps.length):=
 qaV F Sc hb λa cdv A outer s H E hr=>Rt (k:=k) ⟨rfl,Sc.nd,rfl,Sc.kind,λz z=>rfl,rfl,hr,adC,λz=>⟨rfl,rfl,rfl,rfl⟩,λp hp=>by
  have:=hg p hp;obtain⟨x,g⟩:=p
  cases g<;>exact this⟩ _
section
variable{k:Nat}{c:CI}{X:Cx}{A:tx}{fl:Str}{E':XK}{pos:Pos}
def LA:List MY->MY
 | []=>Cw bv
 | [m]=>m
 | m::r=>lL m (LA r)
theorem sg{F:QO->MY}(h:∀ s,DY X A fl E' s (F s)):∀ ss:List QO,SV X A fl E' ss (LA (ss.map F))
 | []=>by show SV X A fl E' [] (Cw bv);rw[pd];exact VB
 | [s]=>VA (h s)
 | s::s'::r=>RE (h s) (sg h (s'::r))
def HF(A:tx)(fl:Str)(c:CI)(E:vx->ME)(ex:vx):Option MY:=match nU ex with
 | some (x,[a])=>match SQ c x with
  | some (.rse C f)=>if C=A/\f=fl/\cK a=true then Y (sM (E a)) else L
  | _=>L
 | _=>L
theorem LQ{E:vx->ME}(C:ja k c X)(O:XOk X E')(hE:∀ e,DE X e (E e))(h:HF A fl c E ex=Y m):DY X A fl E' (.Raise (Y ex) L pos) m:=by
 unfold HF at h;split at h
 ·rename_i x a hc;obtain⟨p,p2,rfl⟩:=fV hc;split at h
  ·rename_i C' f hg;obtain⟨g,o,h2,R⟩:=iL C hg;split at h
   ·rename_i z;obtain⟨rfl,rfl,z⟩:=z;cases h;exact RF R (C.room.mono h2) g (hE a) C.calm O (cL o) (cC z)
   ·cases h
  ·cases h
 ·cases h
def Ot(A:tx)(fl:Str)(E:CI->vx->ME)(T:CI->vx->MT)(F:CI->QO->MS)(Y0:CI->QO->MY)(c:CI):QO->MY
 | .Raise (Y ex) L _=>match HF A fl c (E c) ex with | some m=>m | none=>Cw gz
 | .If t a b _=>Mo (T c t) (LA (a.map (Y0 c))) (LA (b.map (Y0 c)))
 | .For tg it body [] _=>if jq it&&Qz c it then At 1.04 1.37 (LA (body.map (Y0 c))) else Cw gz
 | s=>Cw (F c s)
theorem Os{E:CI->vx->ME}{T:CI->vx->MT}{F:CI->QO->MS}{Y0:CI->QO->MY}(hE:∀ c X,ja k c X->∀ e,DE X e (E c e))(hT:∀ c X,ja k c X->∀ e,DT X e (T c e))(hF:∀ c X,ja k c X->∀ e,DS X e (F c e))(hY:∀ c X,ja k c X->XOk X E'->∀ s,DY X A fl E' s (Y0 c s))(C:ja k c X)(O:XOk X E')(s:QO):DY X A fl E' s (Ot A fl E T F Y0 c s):=by
 have h1:=hE c X C;have h4:=hY c X C O;unfold Ot;split
 ·split
  ·rename_i h;exact LQ C O h1 h
  ·exact Lc fS
 ·exact dy_if (hT c X C _) (sg h4 _) (sg h4 _)
 ·split
  ·rename_i h;rw[aae] at h;exact qaO C.xe C.calm (uD C h1) (ls C h1 _) (sg h4 _) (fE h.1)
  ·exact Lc fS
 ·exact Lc (hF c X C _)
def evY(A:tx)(fl:Str)(n:Nat):Nat->CI->QO->MY
 | 0=>λz z=>Cw gz
 | m+1=>Ot A fl (ev n).1 (ev n).2 (evS n m) (evY A fl n m)
theorem Re(n:Nat):∀ m:Nat,∀ c X,ja k c X->XOk X E'->∀ s,DY X A fl E' s (evY A fl n m c s)
 | 0=>λz z z z z=>Lc fS
 | m+1=>λz z C O s=>Os (qR n).1 (qR n).2 (Jh n m) (Re n m) C O s
def Vs(A:tx)(fl:Str)(c:CI)(body:List QO):MY:=LA (body.map (evY A fl 40 20 c))
end
def cOfY(N:List Str)(st:QO)(gs:List 1.1)(mt:List Nat):CI:=⟨N,aw st,true,gs,mt,false⟩
theorem Yb{K:aeO}{k:Nat}{st:QO}{gs:List 1.1}{mt:List Nat}
  (F:bR K mg x st) (Sc:aQ N ps (aw st)) (hb:rT x st ps) (hg:∀ p∈gs,GK P w K mg base k p) :
  FnY P w K mg base (k+1) x ps.length (BO N (Vs C fl (cOfY N st gs mt) (aM st)) ps.length) C fl:=
 qau F Sc hb λa cdv A outer s H E hr=>sg (Re 40 20 _ _ (k:=k) ⟨rfl,Sc.nd,rfl,Sc.kind,λq q=>rfl,rfl,hr,PassesOwn.leaving,(λz=>by cases z),λp hp=>by
  have:=hg p hp;obtain⟨x,g⟩:=p
  cases g<;>exact this⟩ xok) _
def GKs(P:Op)(w:Qa)(K:aeO)(mg:Str->Option ce)(base:TF)(k:Nat):List 1.1->Prop
 | []=>True
 | p::r=>GK P w K mg base k p/\GKs P w K mg base k r
theorem GKs.mem{K:aeO}{k:Nat}:∀ {gs:List 1.1},GKs P w K mg base k gs->∀ p∈gs,GK P w K mg base k p
 | q::r,h,p,hp=>by
  rcases aaC.mp hp with rfl | hp
  ·exact h.1
  ·exact GKs.mem h.2 p hp
theorem ZB{K:aeO}{k:Nat}{st:QO}{mt:List Nat}(F:bR K mg "law" st)(hfa:mg "law" = Y 1.57)(Sc:aQ N ["_law_script"] (aw st))
  (hbt:∀ (kV doc pm:ce) (an:Option tx) (cdv ct v:ce),bindArgs (W.fnOf "law" "law" (gU st) (aM st) (aw st) .none kV doc pm an cdv ct) ⟨[v],[]⟩=pure [(("_law_script":Str),v)])
  (hg:∀ base,GKs P w K mg base k gs) :
  ∃ fd:FuncData,(∀ (s:gV) (v:ce),BindsTo s fd ⟨[v],[]⟩ [("_law_script",v)])/\∀ base:TF,K.In base->base.Ns Zs mg->FnOk P w K mg base GX (k+1) fa fd ["_law_script"] (OA K 1 (aU N 1.28 1)):=
 ZA F hfa Sc hbt λbase a cdv A outer s H E hr=>Rt (k:=k) ⟨rfl,Sc.nd,rfl,Sc.kind,λz z=>rfl,rfl,hr,adC,λz=>⟨rfl,rfl,rfl,rfl⟩,λp hp=>by
  have:=GKs.mem (hg base) p hp;obtain⟨x,g⟩:=p
  cases g<;>exact this⟩ _
section
variable{P:List ce->Prop}
theorem iZ(h:P []):∀ us:List ce,us.length=0->P us:=λus e=>by rw[abA e];exact h
theorem cw{n:Nat}(h:∀ a,∀ us:List ce,us.length=n->P (a::us)):∀ us:List ce,us.length=n+1->P us:=λus e=>by
 cases us with
 | nil=>cases e
 | cons a us=>exact h a us (Nat.succ.inj e)
end
section
variable{P:Op}{w:Qa}{K:aeO}{mg:Str->Option ce}{base:TF}{k:Nat}{x:Str}{st:QO}{N ps:List Str}{gs:List (Str×GI)}{mt:List Nat}
theorem GK.up{k':Nat}(h:k<=k'):∀ {p:Str×GI},GK P w K mg base k p->GK P w K mg base k' p
 | (_,.fn _ _),g=>Fn.up g h
 | (_,.con _),g=>g
 | (_,.blt),g=>g
 | (_,.tab _),g=>g
 | (_,.ftab _),g=>FTab.up g h
 | (_,.thr _ _ _ _ _),g=>FnY.up g h
 | (_,.hnd _),g=>g
 | (_,.rse _ _),g=>⟨aaD g.1 h,g.2⟩
end
def kE(P:Params)(x:Str)(t:Nat)(v:ce):DictEntry:=⟨PyData.keyHash P x,.str x t,v⟩
def kC(x:Str)(t l n a b:Nat)(u v:ce)(c d:Nat):Obj:=⟨.type "code",L,.fields #[.str x t,.str x (t+1),.str "/claim/cut.py" (t+2),.int l 0,.int n 0,.int 0 0,.int 0 0,.int 3 0,.ref a,.bool true,.int 181 0,.ref b,.none,u,v,.ref c,.int d 0,.int l 0,.str "/claim/cut.py" (d+1)],#[]⟩
def kF(x:Str)(st:QO)(m:Str)(t c:Nat):Obj:=⟨.type "function",L,.func (W.fnOf x x (gU st) (aM st) (aw st) .none .none .none (.str m t) L (.ref c) .none),#[]⟩
theorem cW{K:aeO}(X:K.In h)(G:h.Ns Zs mg){st:QO}(m:Str)(f t c:Nat)(e:(W.nsIn K Zs x,K.lookup f,W.codeIn K (.ref c) x,W.keepIn K (.ref f))=(Y (Y (.ref f)),Y (kF x st m t c),true,true)):bR K mg x st:=by
 have e1:=congrArg (·.1) e;have e2:=congrArg (·.2.1) e;have e3:=congrArg (·.2.2.1) e;have e4:=congrArg (·.2.2.2) e;exact⟨_,_,qao (st:=st) (show K.lookup f=Y ⟨.type "function",L,.func (W.fnOf x x (gU st) (aM st) (aw st) .none .none .none (.str m t) L (.ref c) .none),#[]⟩ from e2) e3 e4,acf X G e1⟩
theorem bp{K:aeO}{k:Nat}{st:QO}{mt:List Nat}
  (F:bR K mg x st) (Sc:aQ N ps (aw st)) (hb:rT x st ps) (hg:GKs P w K mg base k gs):Fn P w K mg base (k+1) x ps.length (aU N 1.28 ps.length):=Sa F Sc hb (GKs.mem hg)
theorem jd{m:MS}(h:gI c b=m):aU N (gI c b) n=aU N m n:=by rw[h]
def kX(x:Str)(C N:Nat)(bs bm sub:List ce)(a t u:Nat):Obj:=excClassObj x x C N bs bm true [] sub false L L (Y (.ref a)) L (Y (.str x t)) (Y (.str x u)) (Y 1.09) "ValueError.__new__"
def kI(q:Str)(st:QO)(m:Str)(t c:Nat):Obj:=⟨.type "function",L,.func (W.fnOf "__init__" q (gU st) (aM st) (aw st) .none .none .none (.str m t) L (.ref c) .none),#[]⟩
def Wh(s:QO):QO:=match s with
 | .ClassDef _ _ _ (d::_) _ _ _ _ _ _ _=>d
 | s=>s
def strB(es:Array DictEntry):Bool:=es.toList.all λe=>match e.key with | .str _ _=>true | _=>false
theorem Tk(h:strB es=true):StrKeys es:=λe he=>by
 have:=aav.mp h e (by simpa using he);split at this
 ·exact⟨_,_,by assumption⟩
 ·cases this
def nsX(K:aeO)(N:tx)(y:Str):Option 9.0:=match K.lookup N with
 | some ⟨_,_,.dict es _,_⟩=>if strB es=true then Y ((es.toList.find? (·.key.isStr y)).map (·.val)) else L
 | _=>L
theorem Pv{K:aeO}(h:nsX K N y=Y v):∃ m:Str->Option ce,m y=v/\∀ h:TF,K.In h->h.Ns N m:=by
 unfold nsX at h;split at h
 ·rename_i c d es n sl q;split at h
  ·rename_i hs;cases h;exact⟨nsFind es,by unfold nsFind findBy;rw[<- Array.find?_toList],λh X=>⟨_,es,n,X _ _ q,rfl,Tk hs,λz=>rfl⟩⟩
  ·cases h
 ·cases h
theorem isK{K:aeO}{bs sub:List ce}(e:K.lookup C=Y (kX x C N bs bm sub a t u)):yW K C bm:=⟨_,_,_,_,_,_,_,_,_,_,_,_,_,_,_,_,λh X=>X _ _ e⟩
section
variable{w:Qa}{K:aeO}{h:TF}{mg:Str->Option ce}
theorem rseK(X:K.In h)(G:h.Ns Zs mg){q:Str}{st:QO}(md:Str)(C N Gd NG f c t aC tC uC aG tG uG:Nat)(subC subG:List ce)
  (hb:aM st=[.Assign [.Attribute (.Name a p1) fl p2] (.Name b p3) p4]) (Sc:aQ [a,b] [a,b] (aw st))
  (bd:∀ us:List ce,us.length=2->bindArgs (W.fnOf "__init__" q (gU st) (aM st) (aw st) .none .none .none (.str md t) L (.ref c) .none) ⟨us,[]⟩=pure ([a,b].zip us))
  (a1:(a==("__debug__":Str))=false) (a2:(a==("__classdict__":Str))=false) (b1:(b==("__debug__":Str))=false) (b2:(b==("__classdict__":Str))=false)
  (e:(W.nsIn K Zs x,K.lookup C,K.lookup Gd,nsX K N "__init__",nsX K NG "__init__",K.lookup f,W.codeIn K (.ref c) q) =
   (Y (Y (.ref C)),Y (kX x C N [.ref Gd] (.ref Gd::HT.oG) subC aC tC uC),Y (kX g Gd NG [.type "ValueError"] HT.oG subG aG tG uG),Y (Y (.ref f)),Y L,Y (kI q st md t c),true))
  (ec:(W.findIn K (.ref C) "__setattr__",HT.wf K C,W.takerIn K C fl,W.hasDictIn K C)=(Y (Y (.builtin "object.__setattr__")),true,Y L,true)) :
  ∀ P base,GS P w K mg base x C fl:=λP base=>by
 have e1:=congrArg (·.1) e;have e2:=congrArg (·.2.1) e;have e3:=congrArg (·.2.2.1) e;obtain⟨mN,hm,hN⟩:=Pv (congrArg (·.2.2.2.1) e);obtain⟨mG,hg,hG⟩:=Pv (congrArg (·.2.2.2.2.1) e);have e6:=congrArg (·.2.2.2.2.2.1) e;have e7:=congrArg (·.2.2.2.2.2.2) e;dsimp only at e1 e2 e3 e6 e7;have cc:yX K C fl:=⟨congrArg (·.1) ec,congrArg (·.2.1) ec,congrArg (·.2.2.1) ec,congrArg (·.2.2.2) ec⟩
 refine⟨f,⟨_,_,N,_,_,_,_,_,_,_,_,_,_,_,_,_,_,mN,HT.oG,"ValueError",_,hm,F.excBase_ValueError,(show(Value.ref Gd::HT.oG).contains (.type "BaseException")=true from rfl),λh X=>⟨X _ _ e2,hN h X,.own (X _ _ e3) (hG h X) hg .base,_,X _ _ e6,rfl⟩⟩,?_,acf X G e1⟩
 have F:=Vc (P:=P) (w:=w) (K:=K) (mg:=mg) (base:=base) (k:=0) (C:=C) (f:=f) (fl:=fl) (name:="__init__") (qual:=q) (a:=a) (b:=b) (params:=gU st) (scope:=aw st) (p1:=p1) (p2:=p2) (p3:=p3) (pos:=p4) (dV:=.none) (kV:=.none) (doc:=.none) (pm:=.str md t) (cdv:=.ref c) (ct:=.none) (an:=L)
  (by rw[<- hb];exact e6) e7 Sc a1 a2 b1 b2
 rw[<- hb] at F;exact Vb F (Binds.all bd) rfl cc
theorem hndK(X:K.In h)(G:h.Ns Zs mg)(C N Gd NG aC tC uC aG tG uG:Nat)(bs bm bsG bmG subC subG:List ce)
  (e:(W.nsIn K Zs g,K.lookup C,K.lookup Gd,(Value.ref C::bm).contains (.ref Gd),bmG.contains (.type "BaseException"))=(Y (Y (.ref Gd)),Y (kX x C N bs bm subC aC tC uC),Y (kX g Gd NG bsG bmG subG aG tG uG),true,true)):GV K mg g C:=
 ⟨Gd,bm,bmG,acf X G (congrArg (·.1) e),isK (congrArg (·.2.1) e),isK (congrArg (·.2.2.1) e),congrArg (·.2.2.2.1) e,congrArg (·.2.2.2.2) e⟩
end
theorem meY{m:MY}(h:Vs A fl c b=m):BO N (Vs A fl c b) n=BO N m n:=by rw[h]
section
variable{env e:be}{S S':ac}{x y d:D}{f g:ac->D->D->Option D}{a b c:ME}{ms:MA}{t u:MT}{k l:Bool}{p q:MS}{tg:MG}
@[simp high] theorem ob{α β:Type}{a:α}{f:α->Option β}:(Y a).bind f=f a:=id rfl
@[simp high] theorem obn{α β:Type}{f:α->Option β}:(L:Option α).bind f=L:=id rfl
@[simp high] theorem oj{α:Type}{a:Option α}:(Y a).join=a:=rfl
@[simp high] theorem bG{α:Type}{a:α}{l:List α}:(a::l)[0]?=Y a:=rfl
@[simp high] theorem bM{α:Type}{a b:α}{l:List α}:(a::b::l)[1]?=Y b:=rfl
@[simp high] theorem bO{α:Type}{a:α}{l:List α}{i:Nat}:(a::l)[i+1]?=l[i]?:=rfl
@[simp high] theorem dM{α:Type}{a b:α}{l:List α}:(a::l).set 0 b=b::l:=rfl
@[simp high] theorem dP{α:Type}{a b:α}{l:List α}{i:Nat}:(a::l).set (i+1) b=a::l.set i b:=rfl
def zI(S:ac)(z:D):Option (D×ac):=Y (z,S)
@[simp] theorem ah:zI S d=Y (d,S):=rfl
@[simp] theorem aX:mC d env S=Y (d,S):=by rw[xQ];rfl
@[simp] theorem ai:af i env S=(env[i]?).join.bind (zI S):=by rw[Kk];rfl
def ZT(f:ac->D->D->Option D)(x:D)(q:D×ac):Option (D×ac):=(f q.2 x q.1).bind (zI q.2)
def kOp1(f:ac->D->D->Option D)(b:ME)(env:be)(q:D×ac):Option (D×ac):=(b env q.2).bind (ZT f q.1)
@[simp] theorem au:kOp1 f b env (x,S)=(b env S).bind (ZT f x):=id rfl
@[simp] theorem ar:ZT f x (y,S)=(f S x y).bind (zI S):=id rfl
@[simp] theorem aD:ay f a b env S=(a env S).bind (kOp1 f b env):=by rw[lX];rfl
def WY(q:D×ac):Option (Bool×ac):=match q.1 with | .bl k=>Y (k,q.2) | _=>L
@[simp] theorem aH:WY (.bl k,S)=Y (k,S):=id rfl
@[simp] theorem aJ:aF a env S=(a env S).bind WY:=by rw[xM];rfl
def qa9(g:ac->D->D->Option D)(y:D)(q:D×ac):Option (D×ac):=(g q.2 y q.1).bind (zI q.2)
def Qu(g:ac->D->D->Option D)(c:ME)(env:be)(y:D)(S:ac)(z:D):Option (D×ac):=match z with
 | .bl true=>(c env S).bind (qa9 g y)
 | .bl false=>Y (.bl false,S)
 | _=>L
def UW(f g:ac->D->D->Option D)(c:ME)(env:be)(x:D)(q:D×ac):Option (D×ac):=(f q.2 x q.1).bind (Qu g c env q.1 q.2)
def qaa(f g:ac->D->D->Option D)(b c:ME)(env:be)(q:D×ac):Option (D×ac):=(b env q.2).bind (UW f g c env q.1)
@[simp] theorem kCh1_s:qaa f g b c env (x,S)=(b env S).bind (UW f g c env x):=id rfl
@[simp] theorem kCh2_s:UW f g c env x (y,S)=(f S x y).bind (Qu g c env y S):=id rfl
@[simp] theorem kChz_t:Qu g c env y S 5.6=(c env S).bind (qa9 g y):=id rfl
@[simp] theorem kChz_f:Qu g c env y S 1.5=Y (.bl false,S):=id rfl
@[simp] theorem kCh3_s:qa9 g y (x,S)=(g S y x).bind (zI S):=id rfl
@[simp] theorem mChain_s:dA f g a b c env S=(a env S).bind (qaa f g b c env):=by
 rw[ul];unfold M.dA qaa UW Qu
 congr 1
def FI(q:D×ac):Option (Bool×ac):=(wL q.2 q.1).bind λk=>Y (k,q.2)
@[simp] theorem dm:FI (.bl k,S)=Y (k,S):=id rfl
@[simp] theorem kTru_n:FI (.non,S)=Y (false,S):=id rfl
@[simp] theorem kTru_i:FI (.int i,S)=Y (i != 0,S):=id rfl
@[simp] theorem kTru_t:FI (.tup xs,S)=Y (!xs.isEmpty,S):=id rfl
@[simp] theorem ZH:FI (.lst xs,S)=Y (!xs.isEmpty,S):=id rfl
@[simp] theorem cU:dQ a env S=(a env S).bind FI:=by rw[Cy];rfl
def Qw(u:MT)(env:be)(q:Bool×ac):Option (Bool×ac):=if q.1=true then u env q.2 else Y (false,q.2)
def ZS(u:MT)(env:be)(q:Bool×ac):Option (Bool×ac):=if q.1=true then Y (true,q.2) else u env q.2
def Xd(q:Bool×ac):Option (Bool×ac):=Y (!q.1,q.2)
@[simp] theorem qd:Qw u env (true,S)=u env S:=id rfl
@[simp] theorem CQ:Qw u env (false,S)=Y (false,S):=id rfl
@[simp] theorem rG:ZS u env (true,S)=Y (true,S):=id rfl
@[simp] theorem jv:ZS u env (false,S)=u env S:=id rfl
@[simp] theorem dC:Xd (k,S)=Y (!k,S):=id rfl
@[simp] theorem qa:dD t u env S=(t env S).bind (Qw u env):=by rw[xR];rfl
@[simp] theorem fG:gW t u env S=(t env S).bind (ZS u env):=by rw[Cz];rfl
@[simp] theorem du:dJ t env S=(t env S).bind Xd:=by rw[Fo];rfl
@[simp] theorem gR:bX env S=Y (true,S):=by rw[Fj];rfl
def UX(b:ME)(env:be)(q:D×ac):Option (D×ac):=(wL q.2 q.1).bind λk=>if k=true then b env q.2 else Y (q.1,q.2)
def Xc(b:ME)(env:be)(q:D×ac):Option (D×ac):=(wL q.2 q.1).bind λk=>if k=true then Y (q.1,q.2) else b env q.2
@[simp] theorem jw:UX b env (.bl true,S)=b env S:=id rfl
@[simp] theorem mj:UX b env (.bl false,S)=Y (.bl false,S):=id rfl
@[simp] theorem Xa:Xc b env (.bl true,S)=Y (.bl true,S):=id rfl
@[simp] theorem Xb:Xc b env (.bl false,S)=b env S:=id rfl
@[simp] theorem eI:eD a b env S=(a env S).bind (UX b env):=by rw[KA];rfl
@[simp] theorem Ks:wp a b env S=(a env S).bind (Xc b env):=by rw[PR];rfl
def FL(q:D×ac):Option (D×ac):=(wL q.2 q.1).bind λk=>Y (.bl (!k),q.2)
@[simp] theorem UQ:FL (.lst xs,S)=Y (.bl (!!xs.isEmpty),S):=id rfl
@[simp] theorem kNotV_t:FL (.tup xs,S)=Y (.bl (!!xs.isEmpty),S):=id rfl
@[simp] theorem kOr_c{d:D}{ds:List D}:Xc b env (.lst (d::ds),S)=Y (.lst (d::ds),S):=id rfl
@[simp] theorem kOr_e:Xc b env (.lst [],S)=b env S:=id rfl
@[simp] theorem UP:FL (.bl k,S)=Y (.bl (!k),S):=id rfl
@[simp] theorem CA:iq a env S=(a env S).bind FL:=by rw[Fl];rfl
def kIf(a b:ME)(env:be)(q:Bool×ac):Option (D×ac):=if q.1=true then a env q.2 else b env q.2
@[simp] theorem xW:kIf a b env (true,S)=a env S:=id rfl
@[simp] theorem AF:kIf a b env (false,S)=b env S:=id rfl
@[simp] theorem lM:oi t a b env S=(t env S).bind (kIf a b env):=by rw[PZ];rfl
@[simp] theorem av:ao env S=Y ([],S):=by rw[CB];rfl
def IJ(x:D)(q:List D×ac):Option (List D×ac):=Y (x::q.1,q.2)
def Qt(ms:MA)(env:be)(q:D×ac):Option (List D×ac):=(ms env q.2).bind (IJ q.1)
@[simp] theorem am{xs:List D}:IJ x (xs,S)=Y (x::xs,S):=id rfl
@[simp] theorem ak:Qt ms env (x,S)=(ms env S).bind (IJ x):=id rfl
@[simp] theorem aq:aa a ms env S=(a env S).bind (Qt ms env):=by rw[Fz];rfl
def cz(q:List D×ac):Option (D×ac):=if q.1.length<=Vj then Y (.tup q.1,q.2) else L
def lH(q:List D×ac):Option (D×ac):=if q.1.length<=Vj then Y (.lst q.1,q.2) else L
def sS(q:List D×ac):Option (D×ac):=if q.1.length<=Vj then Y (.ref q.2.length,q.2++[.lst q.1]) else L
theorem sz{n:Nat}(h:n<=1000):n<=Vj:=aaD h 0.1
theorem aV{xs:List D}(h:xs.length<=1000):cz (xs,S)=Y (.tup xs,S):=aas (sz h)
theorem db{xs:List D}(h:xs.length<=1000):lH (xs,S)=Y (.lst xs,S):=aas (sz h)
theorem lb{xs:List D}(h:xs.length<=1000):sS (xs,S)=Y (.ref S.length,S++[.lst xs]):=aas (sz h)
def ga:∀ S (x y:D),cz ([x,y],S)=Y (.tup [x,y],S):=λS x y=>aV 0.3
def io:∀ S (x y:D),lH ([x,y],S)=Y (.lst [x,y],S):=λS x y=>db 0.3
def wy:∀ S (x:D),cz ([x],S)=Y (.tup [x],S):=λS x=>aV 0.3
def JT:∀ S (x:D),lH ([x],S)=Y (.lst [x],S):=λS x=>db 0.3
def Ky:∀ S (x y z w:D),cz ([x,y,z,w],S)=Y (.tup [x,y,z,w],S):=λS x y z w=>aV 0.3
def Lw:∀ S (x y z u:D),cz ([x,y,z,u],S)=Y (.tup [x,y,z,u],S):=λS x y z u=>aV 0.3
@[simp] theorem bi:aR ms env S=(ms env S).bind cz:=by rw[Km];rfl
@[simp] theorem fH:dw ms env S=(ms env S).bind lH:=by rw[Kt];rfl
@[simp] theorem nN:fC ms env S=(ms env S).bind sS:=by rw[Fs];rfl
def Xg(f:List D->ac->Option (D×ac))(q:List D×ac):Option (D×ac):=f q.1 q.2
@[simp] theorem ca{f:List D->ac->Option (D×ac)}{xs:List D}:Xg f (xs,S)=f xs S:=id rfl
@[simp] theorem bZ{f:List D->ac->Option (D×ac)}:bF f ms env S=(ms env S).bind (Xg f):=by rw[iG];rfl
def rJ(n:Nat)(f:List D->ac->Option (D×ac))(q:List D×ac):Option (D×ac):=if q.1.length=n then f q.1 q.2 else L
@[simp] theorem kCallN_0{f:List D->ac->Option (D×ac)}:rJ 0 f ([],S)=f [] S:=id rfl
@[simp] theorem iJ{f:List D->ac->Option (D×ac)}:rJ 1 f ([x],S)=f [x] S:=id rfl
@[simp] theorem aY{f:List D->ac->Option (D×ac)}:rJ 2 f ([x,y],S)=f [x,y] S:=id rfl
@[simp] theorem bK{f:List D->ac->Option (D×ac)}{z:D}:rJ 3 f ([x,y,z],S)=f [x,y,z] S:=id rfl
@[simp] theorem Qv{f:List D->ac->Option (D×ac)}{z w:D}:rJ 4 f ([x,y,z,w],S)=f [x,y,z,w] S:=id rfl
@[simp] theorem aA{n:Nat}{f:List D->ac->Option (D×ac)}:ax n f ms env S=(ms env S).bind (rJ n f):=by rw[um];rfl
def kIsI(T:String)(q:D×ac):Option (D×ac):=(zK T q.2 q.1).bind (zI q.2)
@[simp] theorem pg:kIsI T (x,S)=(zK T S x).bind (zI S):=id rfl
@[simp] theorem pf:jI T a env S=(a env S).bind (kIsI T):=by rw[Ku];rfl
def kUn(f:ac->D->Option D)(q:D×ac):Option (D×ac):=(f q.2 q.1).bind (zI q.2)
@[simp] theorem Qn{f:ac->D->Option D}:kUn f (x,S)=(f S x).bind (zI S):=id rfl
@[simp] theorem PP{f:ac->D->Option D}:Av f a env S=(a env S).bind (kUn f):=by rw[PQ];rfl
@[simp] theorem cZ:bC env S=Y (L,S):=by rw[Az];rfl
def WZ(q:D×ac):Option (Option Int×ac):=match q.1 with | .int i=>Y (Y i,q.2) | _=>L
@[simp] theorem dB:WZ (.int i,S)=Y (Y i,S):=id rfl
@[simp] theorem dq:bS a env S=(a env S).bind WZ:=by rw[Fk];rfl
def iy(x:D)(l:Option Int)(q:Option Int×ac):Option (D×ac):=match x with
 | .tup xs=>Y (.tup (gK xs l q.1),q.2)
 | .lst xs=>Y (.lst (gK xs l q.1),q.2)
 | .rol xs=>Y (.lst (gK xs l q.1),q.2)
 | .ref r=>match q.2[r]? with | some 2.4=>Y (.lst (gK xs l q.1),q.2) | _=>L
 | _=>L
theorem Qp{r:Nat}{l h:Option Int}(hr:S[r]?=Y 2.4):iy (.ref r) l (h,S)=Y (.lst 2.01,S):=by
 show(match S[r]? with | some 2.4=>Y (D.lst 2.01,S) | _=>L)=_;rw[hr]
def ZK(hi:MO)(env:be)(x:D)(q:Option Int×ac):Option (D×ac):=(hi env q.2).bind (iy x q.1)
def kSl1(lo hi:MO)(env:be)(q:D×ac):Option (D×ac):=(lo env q.2).bind (ZK hi env q.1)
@[simp] theorem fz{lo:MO}:kSl1 lo hi env (x,S)=(lo env S).bind (ZK hi env x):=id rfl
@[simp] theorem fv{l:Option Int}:ZK hi env x (l,S)=(hi env S).bind (iy x l):=id rfl
@[simp] theorem mf{l h:Option Int}:iy 4.6 l (h,S)=Y (.tup 2.01,S):=id rfl
@[simp] theorem ZJ{l h:Option Int}:iy 2.4 l (h,S)=Y (.lst 2.01,S):=id rfl
@[simp] theorem kSl3_r{l h:Option Int}:iy (.rol xs) l (h,S)=Y (.lst 2.01,S):=id rfl
@[simp] theorem cM{lo:MO}:bz a lo hi env S=(a env S).bind (kSl1 lo hi env):=by rw[Ay];rfl
@[simp] theorem bA:bv env S=Y 9.2:=by rw[pd];rfl
def Qq(q:MS):qW->Option qW
 | .nx e S=>q e S
 | .rt d S=>Y 1.40
 | .bk e S=>Y (.bk e S)
 | .ct e S=>Y (.ct e S)
@[simp] theorem aE:Qq q 1.59=q e S:=id rfl
@[simp] theorem bE:Qq q 1.40=Y 1.40:=id rfl
@[simp] theorem kSeq_bk:Qq q (.bk e S)=Y (.bk e S):=id rfl
@[simp] theorem kSeq_ct:Qq q (.ct e S)=Y (.ct e S):=id rfl
@[simp] theorem aO:aI p q env S=(p env S).bind (Qq q):=by rw[Kn];unfold M.aI;congr 1;funext o;cases o<;>rfl
def kRt(q:D×ac):Option qW:=Y (.rt q.1 q.2)
@[simp] theorem bg:kRt (d,S)=Y 1.40:=id rfl
@[simp] theorem aP:bw a env S=(a env S).bind kRt:=by rw[Kq];rfl
def Xe(env:be)(q:D×ac):Option qW:=Y (.nx env q.2)
@[simp] theorem nR:Xe env (d,S)=Y 9.2:=id rfl
@[simp] theorem nO:eQ a env S=(a env S).bind (Xe env):=by rw[Fw];rfl
def ZV(p q:MS)(env:be)(r:Bool×ac):Option qW:=if r.1=true then p env r.2 else q env r.2
@[simp] theorem bQ:ZV p q env (true,S)=p env S:=id rfl
@[simp] theorem bP:ZV p q env (false,S)=q env S:=id rfl
@[simp] theorem bq:cj t p q env S=(t env S).bind (ZV p q env):=by rw[Kv];rfl
def kNx(q:be×ac):Option qW:=Y (.nx q.1 q.2)
@[simp] theorem bJ:kNx (e,S)=Y 1.59:=id rfl
def kAsg(tg:MG)(env:be)(q:D×ac):Option qW:=(tg q.1 env q.2).bind kNx
@[simp] theorem bn:kAsg tg env (d,S)=(tg d env S).bind kNx:=id rfl
@[simp] theorem bj:aT a tg env S=(a env S).bind (kAsg tg env):=by rw[jF];rfl
@[simp] theorem aN:aj i d env S=Y (env.set i (Y d),S):=by rw[qj];rfl
@[simp] theorem bN:aS [] env S=Y (env,S):=by rw[Gb];rfl
def kGs(gs:tU)(r:List D)(q:be×ac):Option (be×ac):=gs r q.1 q.2
@[simp] theorem cE:kGs gs r (e,S)=gs r e S:=id rfl
@[simp] theorem bx{r:List D}:ag tg gs (d::r) env S=(tg d env S).bind (kGs gs r):=by rw[AT];rfl
@[simp] theorem cx:bo 2 gs (.tup [x,y]) env S=gs [x,y] env S:=by rw[mT];rfl
@[simp] theorem qi{z:D}:bo 3 gs (.tup [x,y,z]) env S=gs [x,y,z] env S:=by rw[mT];rfl
@[simp] theorem qh{z w:D}:bo 4 gs (.tup [x,y,z,w]) env S=gs [x,y,z,w] env S:=by rw[mT];rfl
def FJ(env:be)(d:D)(r:Nat)(k:Int)(S:ac):Option (be×ac):=match S[r]? with
 | some 2.4=>(IL xs.length k).bind λj=>Y (env,S.set r 2.03)
 | _=>L
def KB(env:be)(d o:D)(q:D×ac):Option (be×ac):=match o,q.1 with
 | .ref r,.int k=>FJ env d r k q.2
 | _,_=>L
def Qo(i:ME)(env:be)(d:D)(q:D×ac):Option (be×ac):=(i env q.2).bind (KB env d q.1)
@[simp] theorem kSub1_s:Qo a env d (x,S)=(a env S).bind (KB env d x):=id rfl
@[simp] theorem kSub2_s:KB env d (.ref r) (.int i,S)=FJ env d r i S:=id rfl
theorem xU{r:Nat}(h:S[r]?=Y 2.4)(hj:IL xs.length i=Y j):FJ env d r i S=Y (env,S.set r 2.03):=by
 unfold FJ;rw[h];show(IL xs.length i).bind _=_;rw[hj];rfl
@[simp] theorem gSubD_s:gy a b d env S=(a env S).bind (Qo b env d):=by
 rw[Ga];unfold M.gy Qo KB FJ;congr 1
def kFor(tg:MG)(p:MS)(env:be)(q:List D×ac):Option qW:=cF tg p q.1 env q.2
@[simp] theorem xX{xs:List D}:kFor tg p env (xs,S)=cF tg p xs env S:=id rfl
@[simp] theorem xO:kY ms tg p env S=(ms env S).bind (kFor tg p env):=by rw[Kw];rfl
def Mv(tg:MG)(p:MS)(xs:List D):qW->Option qW
 | .nx e s=>cF tg p xs e s
 | .ct e s=>cF tg p xs e s
 | .bk e s=>Y 1.58
 | .rt d s=>Y 1.56
def kLp1(tg:MG)(p:MS)(xs:List D)(q:be×ac):Option qW:=(p q.1 q.2).bind (Mv tg p xs)
@[simp] theorem nQ:kLp1 tg p xs (e,S)=(p e S).bind (Mv tg p xs):=id rfl
@[simp] theorem lP:Mv tg p xs 1.59=cF tg p xs e S:=id rfl
@[simp] theorem kLp2_ct:Mv tg p xs (.ct e S)=cF tg p xs e S:=id rfl
@[simp] theorem kLp2_bk:Mv tg p xs (.bk e S)=Y 1.59:=id rfl
@[simp] theorem sT:Mv tg p xs 1.40=Y 1.40:=id rfl
@[simp] theorem uj:cF tg p [] env S=Y 9.2:=id rfl
theorem eH{xs:List D}:cF tg p (d::xs) env S=(tg d env S).bind (kLp1 tg p xs):=by
 show(tg d env S).bind _=_
 first | rfl | (congr 1;funext q;show(p q.1 q.2).bind _=(p q.1 q.2).bind _;congr 1;funext o;cases o<;>rfl)
def CM(q:D×ac):Option (List D×ac):=match q.1 with | .lst xs=>Y (xs,q.2) | .rol xs=>Y (xs,q.2) | .tup xs=>Y (xs,q.2) | _=>L
@[simp] theorem rH:CM (.lst xs,S)=Y (xs,S):=id rfl
@[simp] theorem kItS_r:CM (.rol xs,S)=Y (xs,S):=id rfl
@[simp] theorem II:CM (.tup xs,S)=Y (xs,S):=id rfl
@[simp] theorem cV:cR a env S=(a env S).bind CM:=by rw[wq];rfl
def UN(q:List D×ac):Option (List D×ac):=match q.1 with | [.int j]=>if -(2^62)<=j/\j<2^62 then Y (cT 0 j.toNat,q.2) else L | _=>L
theorem rE{j:Int}(h:-1000000<=j)(h':j<=1000000):UN ([.int j],S)=Y (cT 0 j.toNat,S):=aas ⟨by omega,by omega⟩
@[simp] theorem jt:cD ms env S=(ms env S).bind UN:=by rw[rp];rfl
def IK(q:List D×ac):Option (D×ac):=Y (.lst q.1,q.2)
def ph(g:MG)(t:MT)(e:ME)(cap:List 4.7)(env:be)(q:List D×ac):Option (D×ac):=if q.1.length<=Vj then(ej g t e q.1 1.43 q.2).bind IK else L
theorem iH{xs:List D}(h:xs.length<=1000):ph tg t a cap env (xs,S)=(ej tg t a xs 1.43 S).bind IK:=aas (sz h)
@[simp] theorem iI{xs:List D}:IK (xs,S)=Y (.lst xs,S):=id rfl
@[simp] theorem ci:bY ms tg t a cap env S=(ms env S).bind (ph tg t a cap env):=by rw[xP];rfl
def qa7(x:D)(q:List D×ac):Option (List D×ac):=Y (x::q.1,q.2)
def qa8(g:MG)(t:MT)(e:ME)(xs:List D)(env:be)(q:D×ac):Option (List D×ac):=(ej g t e xs env q.2).bind (qa7 q.1)
def UV(g:MG)(t:MT)(e:ME)(xs:List D)(env:be)(q:Bool×ac):Option (List D×ac):=if q.1=true then(e env q.2).bind (qa8 g t e xs env) else ej g t e xs env q.2
def kCl1(g:MG)(t:MT)(e:ME)(xs:List D)(q:be×ac):Option (List D×ac):=(t q.1 q.2).bind (UV g t e xs q.1)
@[simp] theorem pq:kCl1 tg t a xs (e,S)=(t e S).bind (UV tg t a xs e):=id rfl
@[simp] theorem po:UV tg t a xs e (true,S)=(a e S).bind (qa8 tg t a xs e):=id rfl
@[simp] theorem CP:UV tg t a xs e (false,S)=ej tg t a xs e S:=id rfl
@[simp] theorem pj:qa8 tg t a xs e (d,S)=(ej tg t a xs e S).bind (qa7 d):=id rfl
@[simp] theorem pi{xs:List D}:qa7 d (xs,S)=Y (d::xs,S):=id rfl
@[simp] theorem nP:ej tg t a [] env S=Y ([],S):=id rfl
theorem dR{xs:List D}:ej tg t a (d::xs) env S=(tg d env S).bind (kCl1 tg t a xs):=id rfl
def qac(x:D)(q:List D×be×ac):Option (List D×be×ac):=Y (x::q.1,q.2)
def qae(g:MG)(t:MT)(e:ME)(xs:List D)(env:be)(q:D×ac):Option (List D×be×ac):=(kj g t e xs env q.2).bind (qac q.1)
def qag(g:MG)(t:MT)(e:ME)(xs:List D)(env:be)(q:Bool×ac):Option (List D×be×ac):=if q.1=true then(e env q.2).bind (qae g t e xs env) else kj g t e xs env q.2
def kCe1(g:MG)(t:MT)(e:ME)(xs:List D)(q:be×ac):Option (List D×be×ac):=(t q.1 q.2).bind (qag g t e xs q.1)
theorem qah:kCe1 tg t a xs (e,S)=(t e S).bind (qag tg t a xs e):=id rfl
theorem qaf:qag tg t a xs e (true,S)=(a e S).bind (qae tg t a xs e):=id rfl
theorem qad:qae tg t a xs e (d,S)=(kj tg t a xs e S).bind (qac d):=id rfl
theorem qab{xs:List D}:qac d (xs,e,S)=Y (d::xs,e,S):=id rfl
theorem Ix:kj tg t a [] env S=Y ([],env,S):=id rfl
theorem FB{xs:List D}:kj tg t a (d::xs) env S=(tg d env S).bind (kCe1 tg t a xs):=id rfl
def ZY(r:List D)(z:List D×ac):Option (List D×ac):=Y (r++z.1,z.2)
def qa0(g:MG)(t:MT)(mi:MA)(g2:MG)(t2:MT)(e:ME)(xs:List D)(r:List D×be×ac):Option (List D×ac):=(ju g t mi g2 t2 e xs r.2.1 r.2.2).bind (ZY r.1)
def qa2(g:MG)(t:MT)(mi:MA)(g2:MG)(t2:MT)(e:ME)(xs:List D)(env:be)(q:List D×ac):Option (List D×ac):=(kj g2 t2 e q.1 env q.2).bind (qa0 g t mi g2 t2 e xs)
def qa4(g:MG)(t:MT)(mi:MA)(g2:MG)(t2:MT)(e:ME)(xs:List D)(env:be)(q:Bool×ac):Option (List D×ac):=if q.1=true then(mi env q.2).bind (qa2 g t mi g2 t2 e xs env) else ju g t mi g2 t2 e xs env q.2
def kCo1(g:MG)(t:MT)(mi:MA)(g2:MG)(t2:MT)(e:ME)(xs:List D)(q:be×ac):Option (List D×ac):=(t q.1 q.2).bind (qa4 g t mi g2 t2 e xs q.1)
section
variable{g2:MG}{t2:MT}{xs:List D}{mi2:MA}
theorem qa5:kCo1 tg t mi2 g2 t2 a xs (e,S)=(t e S).bind (qa4 tg t mi2 g2 t2 a xs e):=id rfl
theorem qa3:qa4 tg t mi2 g2 t2 a xs e (true,S)=(mi2 e S).bind (qa2 tg t mi2 g2 t2 a xs e):=id rfl
theorem qa1{us:List D}:qa2 tg t mi2 g2 t2 a xs e (us,S)=(kj g2 t2 a us e S).bind (qa0 tg t mi2 g2 t2 a xs):=id rfl
theorem ZZ{us:List D}:qa0 tg t mi2 g2 t2 a xs (us,e,S)=(ju tg t mi2 g2 t2 a xs e S).bind (ZY us):=id rfl
theorem ZX:ZY us (xs,S)=Y (us++xs,S):=id rfl
theorem Iw:ju tg t mi2 g2 t2 a [] env S=Y ([],S):=id rfl
theorem FA:ju tg t mi2 g2 t2 a (d::xs) env S=(tg d env S).bind (kCo1 tg t mi2 g2 t2 a xs):=id rfl
def ZW(q:List D×ac):Option (D×ac):=if q.1.length<=Vj then Y (.lst q.1,q.2) else L
theorem UT(h:xs.length<=1000):ZW (xs,S)=Y (.lst xs,S):=aas (sz h)
def kCo0(g:MG)(t:MT)(mi:MA)(g2:MG)(t2:MT)(e:ME)(cap:List 4.7)(env:be)(q:List D×ac):Option (D×ac):=(ju g t mi g2 t2 e q.1 1.43 q.2).bind ZW
theorem qa6:kCo0 tg t mi2 g2 t2 a cap env (xs,S)=(ju tg t mi2 g2 t2 a xs 1.43 S).bind ZW:=id rfl
theorem Qc:dL ms tg t mi2 g2 t2 a cap env S=(ms env S).bind (kCo0 tg t mi2 g2 t2 a cap env):=by rw[uk];rfl
end
def CN(n:Nat)(f:List D->ac->Option (D×ac))(q:List D×ac):Option qW:=if q.1.length=n then(f q.1 q.2).bind kRt else L
def Xf(l:List (cf×Nat×(List D->ac->Option (D×ac))))(i:Nat)(ms:MA)(env:be)(q:D×ac):Option qW:=(gE q.1).bind λk=>(DK l k).bind λp=>(ms 1.63 q.2).bind (CN p.1 p.2)
theorem Qs{l:List (cf×Nat×(List D->ac->Option (D×ac)))}{i n:Nat}{f:List D->ac->Option (D×ac)}{k:cf}(h:gE d=Y k)(h':DK l k=Y (n,f)):Xf l i ms env (d,S)=(ms 1.63 S).bind (CN n f):=by
 show(gE d).bind _=_;rw[h];show(DK l k).bind _=_;rw[h'];rfl
theorem Mx{n:Nat}{f:List D->ac->Option (D×ac)}{xs:List D}(h:xs.length=n):CN n f (xs,S)=(f xs S).bind kRt:=aas h
theorem UF{l:List (cf×Nat×(List D->ac->Option (D×ac)))}{i:Nat}:jJ l i a ms env S=(a env S).bind (Xf l i ms env):=by rw[Fx];rfl
@[simp] theorem gB:aK S (.int i) (.int j)=Y (.int (i+j)):=id rfl
theorem eN{xs ys:List D}(h:xs.length+ys.length<=1000):aK S 4.6 (.tup ys)=Y (.tup (xs++ys)):=aas (sz h)
theorem yH{xs ys:List D}(h:xs.length+ys.length<=1000):aK S 2.4 1.77=Y (.lst (xs++ys)):=aas (sz h)
@[simp] theorem mq:lI S (.int i) (.int j)=Y (.int (i - j)):=id rfl
@[simp] theorem QU:SR S (.int i) (.int j)=Y (.bl (decide (i<j))):=id rfl
@[simp] theorem fLe_i:fLe S (.int i) (.int j)=Y (.bl (decide (i<=j))):=id rfl
@[simp] theorem fGt_i:fGt S (.int i) (.int j)=Y (.bl (decide (j<i))):=id rfl
@[simp] theorem fGe_i:fGe S (.int i) (.int j)=Y (.bl (decide (j<=i))):=id rfl
@[simp] theorem IZ:MU S (.int i)=Y (.int (-i)):=id rfl
theorem kn{j:Int}(h:0<j):lj S (.int i) (.int j)=Y (.int (i%j)):=aas (aao h)
theorem Je{j:Int}(h:0<j)(h':j<1073741824):Gr S (.int i) (.int j)=Y (.int (i / j)):=aas (by show(decide (0<j)&&decide (j<1073741824))=true;rw[aao h,aao h'];rfl)
theorem QS{i j:Int}(h:(decide (0<=j)&&decide (j<=1000000)&&decide (i.natAbs<2^64))=true):zJ S (.int i) (.int j)=Y (.int (i^j.toNat)):=aas h
theorem jB(h:sE i j=true):cA S (.int i) (.int j)=Y (.int (i*j)):=aas h
theorem oV{i:Int}(h:-18446744073709551616<i)(h':i<18446744073709551616):sE i j=true:=by
 unfold sE;rw[aao (p:=i.natAbs<18446744073709551616) 0.0];rfl
theorem Cg{j:Int}(h:-18446744073709551616<j)(h':j<18446744073709551616):sE i j=true:=by
 unfold sE;rw[aao (p:=j.natAbs<18446744073709551616) 0.0];simp
@[simp] theorem fIx_t:aB S 4.6 (.int i)=ou xs i:=id rfl
@[simp] theorem Gp:aB S 2.4 (.int i)=ou xs i:=id rfl
@[simp] theorem fIx_r:aB S (.rol xs) (.int i)=ou xs i:=id rfl
theorem tI{r:Nat}(h:S[r]?=Y 2.4):aB S (.ref r) (.int i)=ou xs i:=by
 have:kg S (.ref r)=Y xs:=by simp only[kg,h]
 have t:DQ S (.ref r)=L:=by simp only[DQ,h]
 unfold aB;rw[t];show(kg S (.ref r)).bind _=_;rw[this];rfl
theorem Du{α:Type}{xs:List α}{i:Int}(h0:0<=i)(h:i<xs.length):ou xs i=Y (xs[i.toNat]'(by omega)):=by
 unfold ou IL;rw[aas h0,aas h];show xs[i.toNat]?=_;rw[aag]
@[simp] theorem CY:bb jc [.tup xs] S=Y (.int xs.length,S):=id rfl
@[simp] theorem qaA:bb jc [.lst xs] S=Y (.int xs.length,S):=id rfl
@[simp] theorem qaz:bb jc [.rol xs] S=Y (.int xs.length,S):=id rfl
@[simp] theorem fInt1_i:bb lm [.int i] S=Y (.int i,S):=id rfl
@[simp] theorem qm:bb lm [.bl k] S=Y (.int (if k then 1 else 0),S):=id rfl
@[simp] theorem KQ:bb on [.int i,.int j] S=Y (.int (if j>i then j else i),S):=id rfl
@[simp] theorem Vo:bb KP [.int i,.int j] S=Y (.int (if j<i then j else i),S):=id rfl
@[simp] theorem Vn{g:List D->D}{xs:List D}:bb (dh g) [.tup xs] S=Y (g xs,S):=id rfl
@[simp] theorem gS{g:List D->D}{xs:List D}:bb (dh g) [.lst xs] S=Y (g xs,S):=id rfl
theorem Ra{bs:List Bool}(h:iR xs=Y bs):bb Gs [.lst xs] S=Y (.bl (bs.all id),S):=by
 show((iR xs).bind _).bind _=_;rw[h];rfl
@[simp] theorem oo:yE S x .non=Y (.bl (rL x .non)):=id rfl
@[simp] theorem fIs_b:yE S x (.bl k)=Y (.bl (rL x (.bl k))):=id rfl
@[simp] theorem tJ:mr S x .non=Y (.bl (!rL x .non)):=id rfl
@[simp] theorem fIsNot_b:mr S x (.bl k)=Y (.bl (!rL x (.bl k))):=id rfl
theorem jD(h:cy 40 x=true)(h':cy 40 y=true):cm S x y=Y (.bl (gJ x y)):=by
 unfold cm;rw[wF h,wF h'];exact aas ⟨h,h'⟩
theorem yC(h:cy 40 x=true)(h':cy 40 y=true):kf S x y=Y (.bl (!gJ x y)):=by
 unfold kf;rw[wF h,wF h'];exact aas ⟨h,h'⟩
@[simp] theorem mw:cm S (.int i) (.int j)=Y (.bl (i==j)):=jD (by simp[cy]) (by simp[cy])
@[simp] theorem Jb:kf S (.int i) (.int j)=Y (.bl (!(i==j))):=yC (by simp[cy]) (by simp[cy])
@[simp] theorem fEq_bb:cm S (.bl k) (.bl l)=Y (.bl (k==l)):=jD (by simp[cy]) (by simp[cy])
@[simp] theorem cP:cm S (.str i) (.str j)=Y (.bl (i==j)):=jD (by simp[cy]) (by simp[cy])
@[simp] theorem uA:kf S (.str i) (.str j)=Y (.bl (!(i==j))):=yC (by simp[cy]) (by simp[cy])
theorem jC(hs:kg S y=Y ys)(h:cy 40 x=true)(h':ys.all (cy 39)=true):rN S x y=Y (.bl (ys.any λd=>gJ d x)):=by
 unfold rN;rw[hs];exact aas ⟨h,h'⟩
theorem ux(hs:kg S y=Y ys)(h:cy 40 x=true)(h':ys.all (cy 39)=true):lh S x y=Y (.bl (!ys.any λd=>gJ d x)):=by
 unfold lh;rw[hs];exact aas ⟨h,h'⟩
theorem KN{xs:List D}{k:Int}(h0:0<=k)(h1:k<=100000)(h:xs.length*k.toNat<=1000):cA S 4.6 (.int k)=Y (.tup (aeP k.toNat xs).flatten):=aas ⟨by omega,by omega,sz h⟩
def fK(f:MF)(x:D)(q:List D×ac):Option (D×ac):=f x q.1 q.2
def uX(f:MF)(ms:MA)(env:be)(q:D×ac):Option (D×ac):=if uo q.2 q.1=true then(ms env q.2).bind (fK f q.1) else L
@[simp] theorem nM{f:MF}:fB f a ms env S=(a env S).bind (uX f ms env):=by rw[Fq];rfl
@[simp] theorem kMeth_l{f:MF}{xs:List D}:uX f ms env (.lst xs,S)=(ms env S).bind (fK f 2.4):=id rfl
theorem wz{f:MF}{r:Nat}{xs:List D}(h:S[r]?=Y 2.4):uX f ms env (.ref r,S)=(ms env S).bind (fK f (.ref r)):=by
 unfold uX;exact aas (by simp only[uo,h])
@[simp] theorem gF{f:MF}{xs:List D}:fK f x (xs,S)=f x xs S:=id rfl
theorem qp{r:Nat}(h:S[r]?=Y 2.4)(hz:xs.length<1000):dN (.ref r) [y] S=Y (.non,S.set r (.lst (xs++[y]))):=by
 simp only[dN,h];exact aas (aaG hz 0.1)
def AG(q:List D×ac):Option (List D×ac):=match q.1 with | [.tup xs]=>Y (dW 0 xs,q.2) | _=>L
@[simp] theorem kEnum_s:AG ([.tup xs],S)=Y (dW 0 xs,S):=id rfl
@[simp] theorem lN:fI ms env S=(ms env S).bind AG:=by rw[Fv];rfl
def FK(x:D)(q:Option Int×ac):Option (D×ac):=match x,q.1 with
 | .tup xs,Y j=>if j = -1 then Y (.tup xs.reverse,q.2) else L
 | _,_=>L
def ZN(st:MO)(env:be)(q:D×ac):Option (D×ac):=(st env q.2).bind (FK q.1)
@[simp] theorem ZM{st:MO}:ZN st env (x,S)=(st env S).bind (FK x):=id rfl
@[simp] theorem UM:FK 4.6 (Y (-1),S)=Y (.tup xs.reverse,S):=id rfl
@[simp] theorem Zp{st:MO}:mO a st env S=(a env S).bind (ZN st env):=by rw[Ko];unfold M.mO ZN FK;congr 1
theorem Va{ns:List Int}(h:ns.length<64):vb S (.lst 2.6)=Y ns:=by
 unfold vb;rw[aas (show uo S (.lst 8.3)=true from rfl)];show(rM 8.3).bind _=_;rw[yf];exact aas h
def kPar(i j:Nat)(env:be)(q:List D×ac):Option qW:=match q.1 with | [v,w]=>Y (.nx ((env.set i (Y v)).set j (Y w)) q.2) | _=>L
@[simp] theorem Zq:oz i j ms env S=(ms env S).bind (kPar i j env):=by rw[Kr];rfl
@[simp] theorem ZQ:kPar i j env ([x,y],S)=Y (.nx ((env.set i (Y x)).set j (Y y)) S):=id rfl
def UU(ms:MA)(env:be)(q:D×ac):Option (D×ac):=if Oe q.1=true then(ms env q.2).bind (fK gT q.1) else if uo q.2 q.1=true then(ms env q.2).bind (fK qo q.1) else L
@[simp] theorem Qd:kZ a ms env S=(a env S).bind (UU ms env):=by rw[Kz];rfl
@[simp] theorem kCnt_t:UU ms env (.tup xs,S)=(ms env S).bind (fK gT 4.6):=id rfl
@[simp] theorem kCnt_l:UU ms env (.lst xs,S)=(ms env S).bind (fK qo 2.4):=id rfl
theorem MX{xs:List D}(h:cy 40 x=true)(h':xs.all (cy 39)=true):gT 4.6 [x] S=Y (.int (xs.countP λd=>gJ d x),S):=by
 show(if Oe 4.6=true then yF 4.6 [x] S else L)=_;rw[aas (show Oe 4.6=true from rfl)];exact aas ⟨h,h'⟩
def ZO(k:cf)(d:D)(z:List (cf×D)×ac):Option (List (cf×D)×ac):=Y ((k,d)::z.1,z.2)
def UO(r:List (ME×ME))(env:be)(k:cf)(q:D×ac):Option (List (cf×D)×ac):=(lW r env q.2).bind (ZO k q.1)
def kPr2(b:ME)(r:List (ME×ME))(env:be)(S:ac)(k:cf):Option (List (cf×D)×ac):=(b env S).bind (UO r env k)
def ZP(b:ME)(r:List (ME×ME))(env:be)(q:D×ac):Option (List (cf×D)×ac):=(gE q.1).bind (kPr2 b r env q.2)
@[simp] theorem rq:lW [] env S=Y ([],S):=id rfl
@[simp] theorem pe{r:List (ME×ME)}:lW ((a,b)::r) env S=(a env S).bind (ZP b r env):=id rfl
@[simp] theorem kPr1_i:ZP b r env (.int i,S)=(b env S).bind (UO r env (.inl i)):=id rfl
@[simp] theorem IG:ZP b r env (.str i,S)=(b env S).bind (UO r env (.inr i)):=id rfl
@[simp] theorem IF{k:cf}:UO r env k (d,S)=(lW r env S).bind (ZO k d):=id rfl
@[simp] theorem IE{k:cf}{z:List (cf×D)}:ZO k d (z,S)=Y ((k,d)::z,S):=id rfl
def xY(z:List (cf×D)×ac):Option (D×ac):=if z.1.length<=15 then Y (.dct ((dc [] z.1).map (·.1)) ((dc [] z.1).map (·.2)),z.2) else L
def CO(z:List (cf×D)×ac):Option (D×ac):=if z.1.length<=15 then Y (.ref z.2.length,z.2++[.dct ((dc [] z.1).map (·.1)) ((dc [] z.1).map (·.2))]) else L
@[simp] theorem Kx:iF ps env S=(lW ps env S).bind xY:=by rw[Fy];rfl
@[simp] theorem Qb:ft ps env S=(lW ps env S).bind CO:=by rw[AC];rfl
theorem FT{k:cf}:∀ {l:List (cf×D)},k∉l.map (·.1)->MM l k=false
 | [],_=>rfl
 | p::r,h=>by
  rw[aak,aaC,not_or] at h;unfold MM;rw[if_neg (λz=>h.1 z.symm)];exact FT h.2
theorem rm:∀ {l m:List (cf×D)},((m++l).map (·.1)).Nodup->dc m l=m++l
 | [],m,_=>by rw[aaN];rfl
 | p::r,m,h=>by
  show dc (OP m p.1 p.2) r=_
  have hn:p.1∉m.map (·.1):=by
   rw[aaY,aak,acb] at h;intro z;exact h.2.2 _ z _ aad rfl
  unfold OP;rw[FT hn,if_neg aeQ];rw[rm (by rw[aaZ];exact h),aaZ];rfl
theorem uf{l:List (cf×D)}(h:(l.map (·.1)).Nodup):dc [] l=l:=rm (m:=[]) h
theorem FM{l:List (cf×D)}(h:(l.map (·.1)).Nodup)(hl:l.length<=15):xY (l,S)=Y (.dct (l.map (·.1)) (l.map (·.2)),S):=by
 unfold xY;rw[aas hl];simp only[uf h]
theorem My{l:List (cf×D)}(h:(l.map (·.1)).Nodup)(hl:l.length<=15):CO (l,S)=Y (.ref S.length,S++[.dct (l.map (·.1)) (l.map (·.2))]):=by
 unfold CO;rw[aas hl];simp only[uf h]
theorem Br{α β:Type}:∀ (l:List (α×β)),(l.map (·.1)).zip (l.map (·.2))=l
 | []=>rfl
 | p::r=>by rw[aak,aak,List.zip_cons_cons,Br r]
@[simp] theorem fIx_dct:aB S 1.79 y=(gE y).bind (kS 2.00):=id rfl
theorem fIx_d{l:List (cf×D)}{k:cf}(h:gE y=Y k):aB S (.dct (l.map (·.1)) (l.map (·.2))) y=kS l k:=by
 show(gE y).bind (λk=>kS ((l.map (·.1)).zip (l.map (·.2))) k)=_;rw[h,Br];rfl
theorem qaC{r:Nat}{l:List (cf×D)}{k:cf}(hr:S[r]?=Y (.dct (l.map (·.1)) (l.map (·.2))))(h:gE y=Y k):aB S (.ref r) y=kS l k:=by
 have:DQ S (.ref r)=Y l:=by simp only[DQ,hr,Br]
 unfold aB;rw[this];show(gE y).bind _=_;rw[h];rfl
def xV(f:MF)(ms:MA)(env:be)(q:D×ac):Option (D×ac):=if Sm q.2 q.1=true then(ms env q.2).bind (fK f q.1) else L
def xT(l:List (cf×D))(q:D×ac):Option (D×ac):=(gE q.1).bind λk=>(kS l k).bind λd=>Y (d,q.2)
@[simp] theorem xN{l:List (cf×D)}:dU l a env S=(a env S).bind (xT l):=by rw[Ax];rfl
@[simp] theorem PX{f:MF}:fj f a ms env S=(a env S).bind (xV f ms env):=by rw[AA];rfl
@[simp] theorem kMethD_d{f:MF}{ks:List cf}{vs:List D}:xV f ms env (.dct ks vs,S)=(ms env S).bind (fK f 1.79):=id rfl
theorem Qr{f:MF}{r:Nat}{ks:List cf}{vs:List D}(h:S[r]?=Y 1.79):xV f ms env (.ref r,S)=(ms env S).bind (fK f (.ref r)):=by
 unfold xV;exact aas (by simp only[Sm,h])
@[simp] theorem valD_nil{k:cf}:kS [] k=L:=id rfl
@[simp] theorem valD_cons{k k':cf}{l:List (cf×D)}:kS ((k',d)::l) k=if k'=k then Y d else kS l k:=id rfl
@[simp] theorem keyOf_i:gE (.int i)=Y (.inl i):=id rfl
@[simp] theorem CK:gE (.str i)=Y (.inr i):=id rfl
theorem Vm{r:Nat}{l m:List (cf×D)}(hr:S[r]?=Y (.dct (l.map (·.1)) (l.map (·.2))))(hl:l.length+m.length<=1000) :
  yx (.ref r) [.dct (m.map (·.1)) (m.map (·.2))] S=Y (.non,S.set r (.dct ((dc l m).map (·.1)) ((dc l m).map (·.2)))):=by
 simp only[yx,hr,Br];exact aas (by rw[aaj,aaj];exact sz hl)
def sU(tg:MG)(p:MS)(env:be)(q:D×ac):Option qW:=match q.1 with
 | .ref r=>fq tg p r 2000 0 env q.2
 | .lst xs=>cF tg p xs env q.2
 | .rol xs=>cF tg p xs env q.2
 | .tup xs=>cF tg p xs env q.2
 | _=>L
@[simp] theorem iE:eG a tg p env S=(a env S).bind (sU tg p env):=by rw[Fu];rfl
@[simp] theorem KC:sU tg p env (.lst xs,S)=cF tg p xs env S:=id rfl
@[simp] theorem kForD_o:sU tg p env (.rol xs,S)=cF tg p xs env S:=id rfl
@[simp] theorem wA:sU tg p env (.tup xs,S)=cF tg p xs env S:=id rfl
@[simp] theorem US:sU tg p env (.ref r,S)=fq tg p r 2000 0 env S:=id rfl
def Mu(tg:MG)(p:MS)(r f i:Nat):qW->Option qW
 | .nx e s=>fq tg p r f i e s
 | .ct e s=>fq tg p r f i e s
 | .bk e s=>Y 1.58
 | .rt d s=>Y 1.56
def kRl1(tg:MG)(p:MS)(r f i:Nat)(q:be×ac):Option qW:=(p q.1 q.2).bind (Mu tg p r f i)
@[simp] theorem ZL{f:Nat}:kRl1 tg p r f i (e,S)=(p e S).bind (Mu tg p r f i):=id rfl
@[simp] theorem UL{f:Nat}:Mu tg p r f i 1.59=fq tg p r f i e S:=id rfl
@[simp] theorem kRl2_ct{f:Nat}:Mu tg p r f i (.ct e S)=fq tg p r f i e S:=id rfl
@[simp] theorem kRl2_bk{f:Nat}:Mu tg p r f i (.bk e S)=Y 1.59:=id rfl
@[simp] theorem kRl2_rt{f:Nat}:Mu tg p r f i 1.40=Y 1.40:=id rfl
theorem Iv{r f i:Nat}(h:S[r]?=Y 2.4)(hx:xs.length<=i):fq tg p r (f+1) i env S=Y 9.2:=by
 have hx':xs[i]?=L:=by simpa using hx
 unfold fq;rw[h];simp only[hx']
theorem Ft{r f i:Nat}(h:S[r]?=Y 2.4)(hx:xs[i]?=Y d):fq tg p r (f+1) i env S=(tg d env S).bind (kRl1 tg p r f (i+1)):=by
 show(match S[r]? with | some 2.4=>_ | _=>L)=_;rw[h];show(match xs[i]? with | none=>_ | some d=>_)=_;rw[hx];show(tg d env S).bind _=_
 first | rfl | (congr 1;funext q;show(p q.1 q.2).bind _=(p q.1 q.2).bind _;congr 1;funext o;cases o<;>rfl)
def IH(q:List D×ac):Option (D×ac):=match q.1 with | [.int j]=>if 0<=j/\j<=1000 then Y (.lst (cT 0 j.toNat),q.2) else L | _=>L
@[simp] theorem PY:fo ms env S=(ms env S).bind IH:=by rw[AB];rfl
theorem Mw{j:Int}(h0:0<=j)(h1:j<=1000):IH ([.int j],S)=Y (.lst (cT 0 j.toNat),S):=aas ⟨h0,h1⟩
def ZG(t:MT)(p:MS)(f:Nat):qW->Option qW
 | .nx e s=>iD t p f e s
 | .ct e s=>iD t p f e s
 | .bk e s=>Y 1.58
 | .rt d s=>Y 1.56
def kWh(t:MT)(p:MS)(f:Nat)(env:be)(q:Bool×ac):Option qW:=if q.1=true then(p env q.2).bind (ZG t p f) else Y (.nx env q.2)
@[simp] theorem PN:fh t p env S=iD t p 5000 env S:=by rw[Au];rfl
theorem Mp{f:Nat}:iD t p (f+1) env S=(t env S).bind (kWh t p f env):=by
 show(t env S).bind _=_
 first | rfl | (congr 1;done)
@[simp] theorem kWh_t{f:Nat}:kWh t p f env (true,S)=(p env S).bind (ZG t p f):=id rfl
@[simp] theorem kWh_f{f:Nat}:kWh t p f env (false,S)=Y 9.2:=id rfl
@[simp] theorem UK{f:Nat}:ZG t p f 1.59=iD t p f e S:=id rfl
theorem Vp{ns:List Int}(h:ns.length<64)(h0:ns≠[]):bb on [.lst 2.6] S=Y (.int (lT ns),S):=by
 show((on S [.lst 8.3]).bind _)=_
 have:on S [.lst 8.3]=Y (.int (lT ns)):=by
  show((vb S (.lst 8.3)).bind _)=_;rw[Va h];show(if ns.isEmpty=true then L else Y (D.int (lT ns)))=_;rw[if_neg (by cases ns with | nil=>exact absurd rfl h0 | cons _ _=>simp)]
 rw[this];rfl
theorem KS{x y:D}(h:(CS x||CS y)=true)(h1:uW S x=Y xs)(h2:uW S y=Y ys)(hl:xs.length+ys.length<=1000):aK S x y=Y (.lst (xs++ys)):=by
 unfold aK;rw[aas h,h1,h2];exact aas (sz hl)
def LY:qW->Option (D×ac)
 | .rt d S'=>Y (d,S')
 | .nx _ S'=>Y (.non,S')
 | .bk _ _=>L
 | .ct _ _=>L
@[simp] theorem az:LY 1.40=Y (d,S):=id rfl
@[simp] theorem outM_nx:LY 1.59=Y (.non,S):=id rfl
theorem bL{n:Nat}{ds:List D}{S:ac}(h:ds.length=n):aU N m n ds S=(m 1.50 S).bind LY:=by
 unfold aU;rw[aas h];first | rfl | (congr 1;funext o;cases o<;>rfl)
theorem runG{n:Nat}{S:ac}(h:ba N ds=env)(hn:ds.length=n):aU N m n ds S=(m env S).bind LY:=by rw[<- h];exact bL hn
theorem lG{N:List Str}{n k:Nat}{ds:List D}{S:ac}(hN:N.length=k)(h:ds.map Y++aeP (k - ds.length) L=env)(hn:ds.length=n):aU N m n ds S=(m env S).bind LY:=runG (by unfold ba;rw[hN];exact h) hn
@[simp] theorem rep0:aeP 0 (L:Option D)=[]:=id rfl
end
def wu:MS:=
 aI (cj (aF (ay fGt 1.2 0e0)) (aI (aT (ay lj 1.2 '1') 'b') (aI (aT (ay Gr 1.2 '1') (gy '0' 0e0)) (bw '2'))) bv) (aI (aT (ay aK 6.3 1e0) (gy '0' 2e0)) (aI (aT (ay lj (ay aK (ay aK (ay cA 4.8 48271e0) 12345e0) (ay cA 7e0 6.3)) 2147483647e0) (gy '0' 1e0)) (bw (ay lj (ay Gr (ay lj (ay cA 4.8 4.8) 1999999973e0) 64e0) '1'))))
def ID:MS:=
 aI (aT 1e0 '`') (aI (kY (cD (aa 10e0 ao)) 'a' (aT 1.19 '`')) (bw '0'))
def qb:MS:=
 aI (cj (aF (ay SR '1' 1.06)) (bw (ay aB '0' '1')) bv) (bw 0e0)
def wv(cellAt far:List D->ac->Option (D×ac)):MS:=
 aI (aT (ax 2 cellAt (aa '0' (aa (ay lj '1' (bF (bb on) (aa 1e0 (aa 1.06 ao)))) ao))) 'b') (aI (aT (ay lj (ay cA (ay aK (ay aK (ay lj '2' 2147483629e0) (ay cA (ay cA 7919e0 '1') '1')) 11e0) 48271e0) 2147483647e0) 'c') (aI (aT (ay lj (ay aK (ay aK (ay cA '3' 39373e0) (ay cA 7e0 '1')) 1e0) 2147483629e0) 'c') (aI (cj (aF (ay SR '2' (ay zJ 10e0 18e0))) (aT 0e0 'b') bv) (bw (fC (aa (ay lj '2' (ax 0 far ao)) (aa '3' 8.9)))))))
theorem qbk{a b c:D}:ou [a,b,c] 0=Y a/\ou [a,b,c] 1=Y b/\ou [a,b,c] 2=Y c:=⟨rfl,rfl,rfl⟩
def Pk(S:ac)(r:Nat):Prop:=∃ a b c:Int,S[r]?=Y (.lst [.int a,.int b,.int c])/\0<=a/\0<=b/\b<2147483647
def p60:Int:=1000000000000000000000000000000000000000000000000000000000000
theorem YU:(10:Int)^(60:Int).toNat=p60:=by decide +kernel
theorem YT:p60.natAbs<=2^(200*1):=by decide +kernel
theorem Ul:0<p60:=by decide +kernel
theorem Um{i:Int}(h:i.natAbs<2^4000):sE i p60=true:=by
 unfold sE;rw[aao h,aao (p:=p60.natAbs<2^4000) (by decide +kernel)];simp
def QR:MS:=aT 1.19 '`'
theorem qax:zJ S (.int 10) (.int 60)=Y (.int p60):=by
 have h:=QS (S:=S) (i:=10) (j:=60) (by decide +kernel);rw[YU] at h;exact h
theorem QQ{o:Option D}(h1:zJ S (.int 10) (.int 60)=Y (.int p))(h2:cA S (.int a) (.int p)=Y (.int (a*p))):QR [Y (.int a),o] S=Y (.nx [Y (.int (a*p)),o] S):=by
 simp[QR,h1,h2]
theorem Vl{o:Option D}(h:sE a p60=true):QR [Y (.int a),o] S=Y (.nx [Y (.int (a*p60)),o] S):=QQ qax (jB h)
theorem farL{B:Nat}(hB:∀ i:Int,i.natAbs<B->sE i p60=true)(l:List D):∀ (a:Int) (o:Option D),0<a->a.natAbs*2^(200*l.length)<B->∃ q o',cF 'a' QR l [Y (.int a),o] S=Y (.nx [Y (.int q),o'] S)/\0<q:=by
 induction l with
 | nil=>exact λa o h z=>⟨a,o,rfl,h⟩
 | cons d l ih=>
  intro a o h hb;have h1:a.natAbs<B:=aeD (Nat.le_mul_of_pos_right _ (Nat.pow_pos 0.1)) hb
  obtain⟨q,o',e,hq⟩:=ih (a*p60) (Y d) (Int.mul_pos h Ul) (by
   rw[Int.natAbs_mul];refine aeD ?_ hb;rw[aar,Nat.mul_add,Nat.pow_add,Nat.mul_assoc];refine aex _ ?_;rw[ads]
   exact aex _ YT)
  refine⟨q,o',?_,hq⟩;rw[eH,aN,ob,nQ];show(QR [Y (.int a),Y d] S).bind _=_;rw[Vl (hB a h1),ob,lP];exact e
theorem QP{N:List Str}(hN:N.length=2):∃ q:Int,aU N ID 0 [] S=Y (.int q,S)/\0<q:=by
 obtain⟨q,o',e,hq⟩:=farL (S:=S) (λi h=>Um h) (cT 0 10) 1 L 0.1 (by decide +kernel);refine⟨q,?_,hq⟩;rw[bL (show([]:List D).length=0 from rfl)];have:ba N []=[L,L]:=by simp[ba,hN,aeP]
 rw[this];have k1:UN ([.int 10],S)=Y (cT 0 10,S):=rE 0.1 0.1;have e':cF 'a' (aT 1.19 '`') (cT 0 10) [Y (.int 1),L] S=Y (.nx [Y (.int q),o'] S):=e;simp![ID,xO,jt,k1,xX,e']
theorem LU{m:Int}{N:List Str}(hN:N.length=3)(h:Pk S r)(h0:0<m)(h1:m<1073741824) :
  ∃ q S',aU N wu 2 [.ref r,.int m] S=Y (.int q,S')/\0<=q/\q<m/\Pk S' r/\(∀ j,j≠r->S'[j]?=S[j]?)/\S'.length=S.length:=by
 obtain⟨a,b,c,h,ha,hb,hb'⟩:=h;have hr:r<S.length:=(aac.mp h).1;have hm:∀ x:Int,0<=x%m/\x%m<m:=λx=>⟨acl _ 0.0,adi _ h0⟩
 have hst:ba N [.ref r,.int m]=[Y (.ref r),Y (.int m),L]:=by simp[ba,hN]
 rw[bL (show [D.ref r,D.int m].length=2 from rfl),hst];have hs:∀ c:yY,(S.set r c)[r]?=Y c:=λc=>aaL hr;by_cases hp:0<a
 ·refine⟨a%m,S.set r (.lst [.int (a / m),.int b,.int c]),?_,(hm a).1,(hm a).2,⟨a / m,b,c,hs _,Int.ediv_nonneg ha 0.0,hb,hb'⟩,λj hj=>by rw[aaF 1.16],by simp⟩;have w:=xU (env:=[Y (.ref r),Y (.int m),Y (.int (a%m))]) (d:=.int (a / m)) h (show IL _ 0=Y 0 from rfl);simp[wu,tI h,hp,kn h0,Je h0 h1,qbk,w]
 ·have hB:∀ x:Int,0<=x%2147483647/\x%2147483647<2147483647:=λx=>⟨acl _ 0.1,adi _ 0.1⟩
  let b':=(b*48271+12345+7*(c+1))%2147483647;have hb2:=hB (b*48271+12345+7*(c+1));have m3:sE b' b'=true:=oV 0.0 0.0;have s1:(S.set r (.lst [.int a,.int b,.int (c+1)]))[r]?=Y (.lst [.int a,.int b,.int (c+1)]):=hs _;have s2:((S.set r (.lst [.int a,.int b,.int (c+1)])).set r (.lst [.int a,.int b',.int (c+1)]))[r]?=Y (.lst [.int a,.int b',.int (c+1)]):=aaL (by simpa using hr);refine⟨b'*b'%1999999973 / 64%m,(S.set r (.lst [.int a,.int b,.int (c+1)])).set r (.lst [.int a,.int b',.int (c+1)]),?_,(hm _).1,(hm _).2,⟨a,b',c+1,s2,ha,(hB _).1,(hB _).2⟩,λj hj=>by rw[aaF 1.16,aaF 1.16],by simp⟩;have e1:cA (S.set r (.lst [.int a,.int b,.int (c+1)])) (.int b) (.int 48271)=Y (.int (b*48271)):=jB (Cg 0.1 0.1);have e2:cA (S.set r (.lst [.int a,.int b,.int (c+1)])) (.int 7) (.int (c+1))=Y (.int (7*(c+1))):=jB (oV 0.1 0.1);have e3:∀ S x,lj S (.int x) (.int 2147483647)=Y (.int (x%2147483647)):=λz z=>kn 0.1;have e4:∀ S x,lj S (.int x) (.int 1999999973)=Y (.int (x%1999999973)):=λz z=>kn 0.1;have e5:∀ S x,Gr S (.int x) (.int 64)=Y (.int (x / 64)):=λz z=>Je 0.1 0.1;have w1:=xU (env:=[Y (.ref r),Y (.int m),L]) (d:=.int (c+1)) h (show IL _ 2=Y 2 from rfl);have w2:=xU (env:=[Y (.ref r),Y (.int m),L]) (d:=.int b') s1 (show IL _ 1=Y 1 from rfl);simp[wu,tI h,tI s1,tI s2,hp,kn h0,qbk,e1,e2,e3,e4,e5,w1];rw[show(b*48271+12345+7*(c+1))%2147483647=b' from rfl,w2];simp[tI (hs _),qbk,jB m3,e4,e5,kn h0]
theorem GH{S:ac}{ns:List Int}{k:Int}{N:List Str}(hN:N.length=2)(h0:0<=k):∃ v,aU N qb 2 [.rol 2.6,.int k] S=Y (.int v,S):=by
 rw[bL (show [D.rol 2.6,D.int k].length=2 from rfl)];have hst:ba N [D.rol 2.6,D.int k]=[Y (D.rol 2.6),Y (.int k)]:=by simp[ba,hN]
 rw[hst];by_cases h:k<ns.length
 ·have e:ou 8.3 k=Y (.int (ns[k.toNat]'(by omega))):=by
   rw[Du h0 (by simpa using h)];simp
  exact⟨ns[k.toNat]'(by omega),by simp[qb,h,e]⟩
 ·exact⟨0,by simp[qb,h]⟩
theorem qbs{S:ac}{a b:Int}(ha:0<=a)(hb:0<=b)(hb':b<2147483647):Pk (S++[.lst [.int a,.int b,.int c]]) S.length:=⟨a,b,c,by simp,ha,hb,hb'⟩
theorem Mr{S:ac}{ns:List Int}{k:Int}{N:List Str}{cellAt far:List D->ac->Option (D×ac)}(hN:N.length=4)(h0:0<=k)(h1:k<=100000)
  (hc:∀ S k,0<=k->∃ v,cellAt [.rol 2.6,.int k] S=Y (.int v,S)) (hf:∀ S,∃ q,far [] S=Y (.int q,S)/\0<q) :
  ∃ a b,aU N (wv cellAt far) 2 [.rol 2.6,.int k] S=Y (.ref S.length,S++[.lst [.int a,.int b,.int 0]])/\0<=a/\0<=b/\b<2147483647:=by
 rw[bL (show [D.rol 2.6,D.int k].length=2 from rfl)];have hst:ba N [D.rol 2.6,D.int k]=[Y (D.rol 2.6),Y (.int k),L,L]:=by simp[ba,hN,aeP]
 rw[hst];have hmx:0<(if (ns.length:Int)>1 then(ns.length:Int) else 1):=by split<;>omega
 obtain⟨v,hv⟩:=hc S (k%(if (ns.length:Int)>1 then(ns.length:Int) else 1)) (acl _ 0.0);obtain⟨q,hq,q0⟩:=hf S;have e1:∀ S x,lj S (.int x) (.int 2147483629)=Y (.int (x%2147483629)):=λz z=>kn 0.1;have e2:∀ S x,lj S (.int x) (.int 2147483647)=Y (.int (x%2147483647)):=λz z=>kn 0.1;have e3:∀ S x,lj S (.int x) (.int q)=Y (.int (x%q)):=λz z=>kn q0;have p1:∀ S,cA S (.int 7919) (.int k)=Y (.int (7919*k)):=λz=>jB (oV 0.1 0.1);have p2:∀ S,cA S (.int (7919*k)) (.int k)=Y (.int (7919*k*k)):=λz=>jB (Cg 0.0 0.0);have p3:∀ S x,cA S (.int x) (.int 48271)=Y (.int (x*48271)):=λz z=>jB (Cg 0.1 0.1);have p4:∀ S x,cA S (.int x) (.int 39373)=Y (.int (x*39373)):=λz z=>jB (Cg 0.1 0.1);have p5:∀ S,cA S (.int 7) (.int k)=Y (.int (7*k)):=λz=>jB (oV 0.1 0.1)
 have pw:∀ S,zJ S (.int 10) (.int 18)=Y (.int 1000000000000000000):=λS=>by
  have h:=QS (S:=S) (i:=10) (j:=18) (by decide +kernel)
  rwa[show(10:Int)^(18:Int).toNat=1000000000000000000 by decide +kernel] at h
 have hb:∀ x:Int,0<=x%2147483629/\x%2147483629<2147483647:=λx=>⟨acl _ 0.1,by have:=adi x (show(0:Int)<2147483629 by decide);omega⟩
 have kl:∀ S x y,sS ([.int x,.int y,.int 0],S)=Y (.ref S.length,S++[.lst [.int x,.int y,.int 0]]):=λz z z=>lb 0.3;by_cases h:v<1000000000000000000
 ·refine⟨0%q,(((v%2147483629+7919*k*k+11)*48271%2147483647)*39373+7*k+1)%2147483629,?_,acl _ 0.0,(hb _).1,(hb _).2⟩;simp[-Int.zero_emod,wv,kn hmx,hv,e1,e2,e3,p1,p2,p3,p4,p5,pw,h,hq,kl]
 ·refine⟨v%q,(((v%2147483629+7919*k*k+11)*48271%2147483647)*39373+7*k+1)%2147483629,?_,acl _ 0.0,(hb _).1,(hb _).2⟩;simp[wv,kn hmx,hv,e1,e2,e3,p1,p2,p3,p4,p5,pw,h,hq,kl]
theorem tE{tg:MG}{p:MS}(I:be->ac->Prop):∀ (xs:List D),(∀ d∈xs,∀ env S,I env S->∃ env1 S1 env2 S2,tg d env S=Y (env1,S1)/\p env1 S1=Y (.nx env2 S2)/\I env2 S2) ->
  ∀ env S,I env S->∃ env' S',cF tg p xs env S=Y 1.29/\I env' S'
 | []=>λz env S h=>⟨env,S,rfl,h⟩
 | d::xs=>λhs env S h=>by
  obtain⟨env1,S1,env2,S2,e1,e2,h2⟩:=hs d aad env S h;obtain⟨env',S',e3,h3⟩:=tE I xs (λd hd=>hs d (aah _ hd)) env2 S2 h2;exact⟨env',S',by rw[eH,e1,ob,nQ,e2,ob,lP,e3],h3⟩
theorem Ia{lo:Int}{d:D}(h:d∈cT lo n):∃ i:Nat,i<n/\d=.int (lo+(i:Int)):=by
 obtain⟨i,hi⟩:=acq.mp h;exact⟨i,wV lo n i d hi⟩
def nr:D->Bool
 | .ref _=>false
 | .exc _ _ _=>false
 | .fn _=>false
 | _=>true
def QA:D->Bool
 | .int _=>true
 | .bl _=>true
 | _=>false
def KE:D->Bool
 | .bl _=>true
 | _=>false
def IP:D->Bool
 | .str _=>true
 | .txt=>true
 | _=>false
def iK:D->Bool
 | .tup _=>true
 | _=>false
def kR:D->Bool
 | .int _=>true
 | _=>false
def qC(lo hi:Int):D->Bool
 | .int i=>decide (lo<=i)&&decide (i<=hi)
 | _=>false
theorem QW{S:ac}{d:D}(h:nr d=true):zK "int" S d=Y (.bl (QA d)):=by cases d<;>first | rfl | cases h
theorem MV{S:ac}{d:D}(h:nr d=true):zK "bool" S d=Y (.bl (KE d)):=by cases d<;>first | rfl | cases h
theorem QV{S:ac}{d:D}(h:nr d=true):zK "str" S d=Y (.bl (IP d)):=by cases d<;>first | rfl | cases h
theorem yD{S:ac}{d:D}(h:nr d=true):zK "tuple" S d=Y (.bl (iK d)):=by cases d<;>first | rfl | cases h
noncomputable abbrev PF:=List D->ac->Option (D×ac)
def JM(pick:PF):Prop:=∀ (S:ac) (r:Nat) (m:Int),Pk S r->0<m->m<1073741824->∃ q S',pick [.ref r,.int m] S=Y (.int q,S')/\0<=q/\q<m/\Pk S' r/\(∀ j,j≠r->S'[j]?=S[j]?)/\S'.length=S.length
def CG(pick:PF):MS:=
 aI (aT (ay aB (dw (aa (!"rows") (aa (!"readers") (aa (!"writers") (aa (!"turns") (aa (!"passes") ao)))))) (ax 2 pick (aa '0' (aa 5e0 ao)))) 'a') (aI (aT (ay aB (dw (aa 0e0 (aa 0e0 (aa 1e0 (aa 2e0 (aa 3e0 (aa 5e0 ao))))))) (ax 2 pick (aa '0' (aa 6e0 ao)))) 'b') (aI (aT (ay cA (ay aB (dw (aa 0e0 (aa 1e0 (aa 2e0 (aa 9e0 ao))))) (ax 2 pick (aa '0' (aa 4e0 ao)))) (bF (bb lm) (aa (ay cm '1' (!"passes")) ao))) 'c') (bw (aR (aa '1' (aa '2' (aa '3' (aa (ax 2 pick (aa '0' 1.65)) ao))))))))
theorem Wr{q:Int}(h0:0<=q)(h1:q<6):∃ i:Int,ou [D.int 0,D.int 0,D.int 1,D.int 2,D.int 3,D.int 5] q=Y (.int i)/\0<=i/\i<=5:=by
 obtain rfl | rfl | rfl | rfl | rfl | rfl:q=0\/q=1\/q=2\/q=3\/q=4\/q=5:=by omega
 all_goals exact⟨_,rfl,by decide,by decide⟩
theorem SE{q:Int}(h0:0<=q)(h1:q<4):∃ i:Int,ou [D.int 0,D.int 1,D.int 2,D.int 9] q=Y (.int i)/\0<=i/\i<=9:=by
 obtain rfl | rfl | rfl | rfl:q=0\/q=1\/q=2\/q=3:=by omega
 all_goals exact⟨_,rfl,by decide,by decide⟩
theorem forR{tg:MG}{p:MS}{lo:Int}(I:Nat->be->ac->Prop)(n:Nat)(step:∀ i,i<n->∀ env S,I i env S->∃ env1 S1 env2 S2,tg (.int (lo+(i:Int))) env S=Y (env1,S1)/\p env1 S1=Y (.nx env2 S2)/\I (i+1) env2 S2) :
  ∀ env S,I 0 env S->∃ env' S',cF tg p (cT lo n) env S=Y 1.29/\I n env' S':=by
 have gen:∀ (m k:Nat),k+m=n->∀ env S,I k env S->∃ env' S',cF tg p ((List.range' k m).map λ(i:Nat)=>D.int (lo+(i:Int))) env S=Y 1.29/\I n env' S':=by
  intro m
  induction m with
  | zero=>exact λk hk env S h=>⟨env,S,rfl,by rw[<- hk];exact h⟩
  | succ m ih=>
   intro k hk env S h;obtain⟨env1,S1,env2,S2,e1,e2,h2⟩:=step k 0.0 env S h;obtain⟨env',S',e3,h3⟩:=ih (k+1) 0.0 env2 S2 h2;refine⟨env',S',?_,h3⟩;rw[List.range'_succ,aak,eH,e1,ob,nQ,e2,ob,lP,e3]
 intro env S h;have:=gen n 0 0.0 env S h;unfold cT;rw[List.range_eq_range'];exact this
def EntOk(n:Int)(xs:List D)(d:D):Prop:=∃ (g:Int) (w:Str) (m:Int) (t:D),d=.tup [.int g,.str w,.int m,t]/\0<=g/\g<n/\(w = "read"\/w = "write")/\0<=m/\m<=999/\(t=.non\/∃ k,t=.int k/\1<=k/\k<=9)/\ou xs g=Y (.str "out")
theorem EntOk.up{n':Int}{d:D}(h:EntOk n xs d)(hn:n<=n'):EntOk n' xs d:=by
 obtain⟨g,w,m,t,e,h0,h1,r⟩:=h;exact⟨g,w,m,t,e,h0,by omega,r⟩
theorem AY{S:ac}{q:Nat}(h:S[q]?=Y 2.4):bb (dh g) [.ref q] S=Y (g xs,S):=by
 have e:kg S (.ref q)=Y xs:=by simp only[kg,h]
 show((kg S (.ref q)).bind _).bind _=_;rw[e];rfl
theorem Pk.app{c:yY}(h:Pk S r):Pk (S++[c]) r/\S.length≠r:=by
 obtain⟨a,b,d,h,z⟩:=h;have hr:=(aac.mp h).1;exact⟨⟨a,b,d,by rw[aat hr];exact h,z⟩,by omega⟩
def IM(x:Str):Prop:=x = "rows"\/x = "readers"\/x = "writers"\/x = "turns"\/x = "passes"
theorem Wq{q:Int}(h0:0<=q)(h1:q<5):∃ x:Str,ou [D.str "rows",D.str "readers",D.str "writers",D.str "turns",D.str "passes"] q=Y (.str x)/\IM x:=by
 obtain rfl | rfl | rfl | rfl | rfl:q=0\/q=1\/q=2\/q=3\/q=4:=by omega
 ·exact⟨_,rfl,.inl rfl⟩
 ·exact⟨_,rfl,.inr 3.7⟩
 ·exact⟨_,rfl,.inr (.inr 3.7)⟩
 ·exact⟨_,rfl,.inr (.inr (.inr 3.7))⟩
 ·exact⟨_,rfl,.inr (.inr (.inr (.inr rfl)))⟩
def Keep(r:Nat)(S S':ac):Prop:=(∀ j,j≠r->S'[j]?=S[j]?)/\S'.length=S.length
theorem Keep.trans(h:Keep r S S')(h':Keep r S' S''):Keep r S S'':=⟨λj z=>(h'.1 j z).trans (h.1 j z),h'.2.trans h.2⟩
structure qbr(x:Str)(a b c:Int):Prop where
 w:IM x
 a0:0<=a
 a5:a<=5
 b0:0<=b
 b9:b<=9
 c0:0<=c
 c1:c<=1
theorem LL{pick:PF}(hp:JM pick){S:ac}{r:Nat}{N:List Str}(hN:N.length=4)(h:Pk S r):∃ x a b c S',aU N (CG pick) 1 [.ref r] S=Y (.tup [.str x,.int a,.int b,.int c],S')/\qbr x a b c/\Pk S' r/\Keep r S S':=by
 have hst:ba N [D.ref r]=[Y (.ref r),L,L,L]:=by simp[ba,hN,aeP]
 rw[bL (show [D.ref r].length=1 from rfl),hst];obtain⟨q1,S1,e1,l1,g1,P1,K1⟩:=hp _ _ 5 h 0.1 0.1;obtain⟨q2,S2,e2,l2,g2,P2,K2⟩:=hp _ _ 6 P1 0.1 0.1;obtain⟨q3,S3,e3,l3,g3,P3,K3⟩:=hp _ _ 4 P2 0.1 0.1;obtain⟨q4,S4,e4,l4,g4,P4,K4⟩:=hp _ _ 2 P3 0.1 0.1;obtain⟨x,i1,wx⟩:=Wq l1 g1;obtain⟨a,i2,a0,a5⟩:=Wr l2 g2;obtain⟨b,i3,b0,b9⟩:=SE l3 g3;have k1:∀ S,lH ([D.str "rows",D.str "readers",D.str "writers",D.str "turns",D.str "passes"],S)=Y (.lst [D.str "rows",D.str "readers",D.str "writers",D.str "turns",D.str "passes"],S):=λS=>db 0.3;have k2:∀ S,lH ([D.int 0,D.int 0,D.int 1,D.int 2,D.int 3,D.int 5],S)=Y (.lst [D.int 0,D.int 0,D.int 1,D.int 2,D.int 3,D.int 5],S):=λS=>db 0.3;have k3:∀ S,lH ([D.int 0,D.int 1,D.int 2,D.int 9],S)=Y (.lst [D.int 0,D.int 1,D.int 2,D.int 9],S):=λS=>db 0.3;have k4:∀ S (a b c d:D),cz ([a,b,c,d],S)=Y (.tup [a,b,c,d],S):=λS a b c d=>aV 0.3;have m1:∀ S (z:Bool),cA S (.int b) (.int (if z=true then 1 else 0))=Y (.int (b*(if z=true then 1 else 0))):=λS z=>jB (oV 0.0 0.0);refine⟨x,a,b*(if (x==("passes":Str))=true then 1 else 0),q4,S4,?_,⟨wx,a0,a5,by split<;>omega,by split<;>omega,l4,by omega⟩,P4,Keep.trans K1 (Keep.trans K2 (Keep.trans K3 K4))⟩;simp[-beq_iff_eq,CG,k1,k2,k3,k4,e1,e2,e3,e4,i1,i2,i3,m1]
theorem jG{S:ac}{c:yY}:(S++[c])[S.length]?=Y c:=by simp
theorem Lp{S:ac}{c d:yY}:(S++[c]).set S.length d=S++[d]:=by
 rw[List.set_append,if_neg (abN _)];simp
inductive Wd where | out | reads | rising | writes | raised
deriving DecidableEq
def Wd.s:Wd->Str
 | .out=>"out"
 | .reads=>"reads"
 | .rising=>"rising"
 | .writes=>"writes"
 | .raised=>"raised"
theorem Wd.eq(a b:Wd):(a.s==b.s)=decide (a=b):=by cases a<;>cases b<;>decide +kernel
structure En where
 g:Nat
 wr:Bool
 m:Int
 t:Option Int
def bI(b:Bool):Str:=if b then "write" else "read"
theorem rX(b:Bool):(bI b==("write":Str))=b:=by cases b<;>decide +kernel
theorem vW(b:Bool):(bI b==("read":Str)) = !b:=by cases b<;>decide +kernel
def bU:Option Int->D
 | none=>.non
 | some k=>.int k
def En.d(e:En):D:=.tup [.int (e.g:Nat),.str 5.3,.int e.m,bU e.t]
noncomputable abbrev Rm:=List Wd×List En
def Wd.d(w:Wd):D:=.str w.s
def cQ(ws:List Wd):D:=.tup 1.10
def esD(es:List En):D:=.tup 6.1
def aZ(R:Rm):D:=.tup [cQ R.1,esD R.2]
inductive Rw where | rows | readers | writers | turns | passes
deriving DecidableEq
def Rw.s:Rw->Str
 | .rows=>"rows"
 | .readers=>"readers"
 | .writers=>"writers"
 | .turns=>"turns"
 | .passes=>"passes"
theorem Rw.eq(a b:Rw):(a.s==b.s)=decide (a=b):=by cases a<;>cases b<;>decide +kernel
structure Rl where
 w:Rw
 a:Int
 b:Int
 c:Int
def Rl.d(r:Rl):D:=.tup [.str r.w.s,.int r.a,.int r.b,.int r.c]
structure Rl.Ok(r:Rl):Prop where
 a0:0<=r.a
 a5:r.a<=5
 b0:0<=r.b
 b9:r.b<=9
 c0:0<=r.c
 c1:r.c<=1
theorem MH(h:IM x):∃ w:Rw,x=w.s:=by
 rcases h with rfl | rfl | rfl | rfl | rfl
 ·exact⟨.rows,rfl⟩
 ·exact⟨.readers,rfl⟩
 ·exact⟨.writers,rfl⟩
 ·exact⟨.turns,rfl⟩
 ·exact⟨.passes,rfl⟩
section
variable{α:Type}{enc:α->D}{p:α->Bool}{f:α->D}{t:MT}{e:ME}{rest:be}{S:ac}
theorem XB:∀ (xs:List α) (a:Option D),(∀ x∈xs,t (Y (enc x)::rest) S=Y (p x,S))->(∀ x∈xs,p x=true->e (Y (enc x)::rest) S=Y (f x,S))->ej '`' t e 1.72 (a::rest) S=Y ((xs.filter p).map f,S)
 | []=>λa z z=>by simp
 | x::r=>λa h h2=>by
  have ih:=XB r (Y (enc x)) (λy hy=>h y (aah _ hy)) λy hy=>h2 y (aah _ hy);rw[aak,dR,aN,ob,dM,pq,h x 0.3,ob];cases hp:p x with
  | true=>rw[po,h2 x 0.3 hp,ob,pj,ih,ob,pi,acL hp,aak]
  | false=>rw[CP,ih,acM (by simp[hp])]
theorem gA{a:Option D}{xs:List α}(hc:oB cap env=a::rest)(hl:xs.length<=1000)(h:∀ x∈xs,t (Y (enc x)::rest) S=Y (p x,S))(h2:∀ x∈xs,p x=true->e (Y (enc x)::rest) S=Y (f x,S)) :
  ph '`' t e cap env (xs.map enc,S)=Y (.lst ((xs.filter p).map f),S):=by
 rw[iH (by rw[aaj];exact hl),hc,XB xs a h h2,ob,iI]
theorem XA:∀ (xs:List α) (k:Nat) (a b:Option D),(∀ i x,xs[i]?=Y x->t (Y (.int ((k+i:Nat):Int))::Y (enc x)::rest) S=Y (p x,S))->ej (bo 2 (ag '`' 7.4)) t '0' (dW k 1.72) (a::b::rest) S=Y (((xs.zipIdx k).filter λq=>p q.1).map λq=>.int (q.2:Int),S)
 | []=>λk a b z=>by simp[dW]
 | x::r=>λk a b h=>by
  have ih:=XA r (k+1) (Y (.int (k:Int))) (Y (enc x)) (λi y hy=>by
   have:=h (i+1) y (by simpa using hy);rw[show k+(i+1)=k+1+i by omega] at this
   exact this)
  have h0:=h 0 x rfl;rw[aem] at h0;rw[aak,dW,dR,cx,bx,aN,ob,dM,cE,bx,aN,ob,dP,dM,cE,bN,ob,pq,h0,ob,abP];cases hp:p x with
  | true=>
   rw[po,ai,bG,oj,ob,ah,ob,pj,ih,ob,pi,acL (p:=λq:α×Nat=>p q.1) (a:=(x,k)) hp,aak]
  | false=>rw[CP,ih,acM (p:=λq:α×Nat=>p q.1) (a:=(x,k)) (by simp[hp])]
theorem CL{a b:Option D}{xs:List α}(hc:oB cap env=a::b::rest)(hl:xs.length<=1000)(h:∀ (i:Nat) x,xs[i]?=Y x->t (Y (.int (i:Int))::Y (enc x)::rest) S=Y (p x,S)) :
  ph (bo 2 (ag '`' 7.4)) t '0' cap env (dW 0 1.72,S)=Y (.lst ((xs.zipIdx.filter λq=>p q.1).map λq=>.int (q.2:Int)),S):=by
 rw[iH (by rw[qr,aaj];exact hl),hc,XA xs 0 a b (λi x hx=>by rw[acQ];exact h i x hx),ob,iI]
end
theorem SG{α:Type}{xs:List α}{i:Nat}{x:α}(h:xs[i]?=Y x):ou xs (i:Int)=Y x:=by
 have hl:=(aac.mp h).1;rw[Du 0.0 0.0];rw[aac] at h;obtain⟨z,h⟩:=h;simpa using h
theorem at4(x a b c:D):ou [x,a,b,c] 0=Y x/\ou [x,a,b,c] 1=Y a/\ou [x,a,b,c] 2=Y b/\ou [x,a,b,c] 3=Y c:=⟨rfl,rfl,rfl,rfl⟩
theorem at2(x a:D):ou [x,a] 0=Y x/\ou [x,a] 1=Y a:=⟨rfl,rfl⟩
section
variable{S:ac}{e:En}{r:Rl}{R:Rm}
theorem En.ix0:aB S e.d (.int 0)=Y (.int (e.g:Nat)):=rfl
theorem En.ix1:aB S e.d (.int 1)=Y 3.6:=rfl
theorem En.ix2:aB S e.d (.int 2)=Y 1.60:=rfl
theorem En.ix3:aB S e.d (.int 3)=Y (bU e.t):=rfl
theorem Rl.ix0:aB S r.d (.int 0)=Y 6.7:=rfl
theorem Rl.ix1:aB S r.d (.int 1)=Y (.int r.a):=rfl
theorem Rl.ix2:aB S r.d (.int 2)=Y (.int r.b):=rfl
theorem Rl.ix3:aB S r.d (.int 3)=Y (.int r.c):=rfl
theorem Rm.ix0:aB S (aZ R) (.int 0)=Y (cQ R.1):=rfl
theorem Rm.ix1:aB S (aZ R) (.int 1)=Y (esD R.2):=rfl
theorem zR{ws:List Wd}{i:Nat}(h:ws[i]?=Y w):aB S (cQ ws) (.int (i:Int))=Y w.d:=by
 show ou 1.10 (i:Int)=_;exact SG (by rw[abv,h];rfl)
theorem RB{es:List En}{i:Nat}{e:En}(h:es[i]?=Y e):aB S (esD es) (.int (i:Int))=Y e.d:=by
 show ou 6.1 (i:Int)=_;exact SG (by rw[abv,h];rfl)
end
theorem Em{d i:Nat}:HT.gl n d (Y (i:Int))=min i n:=by
 show(if (i:Int)<0 then((i:Int)+(n:Int)).toNat else min (i:Int).toNat n)=_;rw[if_neg 0.0,abg]
theorem Eo{d:Nat}:HT.gl n d L=d:=rfl
theorem Nx{α:Type}(xs:List α)(i:Nat)(h:i<=xs.length):gK xs L (Y (i:Int))=xs.take i:=by
 unfold gK;rw[Em,Eo,acR h];simp
theorem qt{α:Type}(xs:List α)(i:Nat)(h:i<=xs.length):gK xs (Y (i:Int)) L=xs.drop i:=by
 unfold gK;rw[Em,Eo,acR h,abS 0.3]
def IC:MS:=bw (ay aK (ay aK (bz '0' bC (bS '1')) (aR 3.0)) (bz '0' (bS (ay aK '1' 1e0)) bC))
theorem OF{α:Type}(xs:List α)(i:Nat)(h:i<xs.length)(x:α):xs.take i++[x]++xs.drop (i+1)=xs.set i x:=by
 rw[List.set_eq_take_append_cons_drop,aas h];simp
theorem TK{N:List Str}(hN:N.length=3){ws:List Wd}{i:Nat}{w:Wd}(h:i<ws.length)(hl:ws.length<=100):aU N IC 3 [cQ ws,.int (i:Int),w.d] S=Y (cQ (ws.set i w),S):=by
 have hst:ba N [cQ ws,D.int (i:Int),w.d]=[Y (cQ ws),Y (.int (i:Int)),Y w.d]:=by simp[ba,hN]
 rw[bL (show [cQ ws,D.int (i:Int),w.d].length=3 from rfl),hst];have k1:cz ([w.d],S)=Y (.tup [w.d],S):=aV 0.3;have c1:gK 1.10 L (Y (i:Int))=(ws.take i).map Wd.d:=by rw[Nx _ _ (by rw[aaj];omega),ack]
 have c2:gK 1.10 (Y ((i:Int)+1)) L=(ws.drop (i+1)).map Wd.d:=by
  rw[show((i:Int)+1)=((i+1:Nat):Int) by omega,qt _ _ (by rw[aaj];omega),acK]
 have a1:aK S (.tup ((ws.take i).map Wd.d)) (.tup [w.d])=Y (.tup ((ws.take i).map Wd.d++[w.d])):=eN 0.9;have a2:aK S (.tup ((ws.take i).map Wd.d++[w.d])) (.tup ((ws.drop (i+1)).map Wd.d))=Y (.tup ((ws.take i).map Wd.d++[w.d]++(ws.drop (i+1)).map Wd.d)):=eN 0.9
 have e:(ws.take i).map Wd.d++[w.d]++(ws.drop (i+1)).map Wd.d=(ws.set i w).map Wd.d:=by
  rw[<- OF ws i h w];simp
 rw[e] at a2;simp![IC,cQ,cM,fz,cZ,fv,dq,dB,mf,c1,k1,a1,gB,c2,a2]
section
variable{S:ac}{ws:List Wd}{es:List En}{ms:MA}{env:be}
theorem qaM(a b:Wd):gJ a.d b.d=decide (a=b):=Wd.eq a b
theorem Ux:((ws.map Wd.d).all (cy n))=true:=by
 rw[aav];intro d hd;obtain⟨w,z,rfl⟩:=aaB.mp hd;cases n<;>rfl
theorem Bt(w:Wd):gT (cQ ws) [w.d] S=Y (.int (ws.count w:Nat),S):=by
 have h:=MX (S:=S) (x:=w.d) (xs:=ws.map Wd.d) rfl Ux;rw[show cQ ws=.tup 1.10 from rfl,h]
 congr 4
 rw[List.countP_map];apply List.countP_congr;intro a z;simp[qaM]
theorem rW:UU ms env (cQ ws,S)=(ms env S).bind (fK gT (cQ ws)):=rfl
theorem Bs:bb jc [cQ ws] S=Y (.int (ws.length:Nat),S):=by
 rw[show cQ ws=.tup 1.10 from rfl,CY,aaj]
theorem RA:bb jc [esD es] S=Y (.int (es.length:Nat),S):=by
 rw[show esD es=.tup 6.1 from rfl,CY,aaj]
end
def ur(r:Rl)(ws:List Wd)(wr:Bool):Bool:=
 if ws.count .reads+ws.count .rising+ws.count .out<ws.length then false
 else if wr then decide (ws.count .reads+ws.count .rising=0)
 else decide (ws.count .rising=0)&&(decide (r.a=0)||decide (((ws.count .reads+ws.count .rising:Nat):Int)<r.a))
def CH:MS:=
 aI (aT (ay aK (kZ '1' (aa (!"reads") ao)) (kZ '1' (aa (!"rising") ao))) 'c') (aI (cj (aF (ay SR (ay aK '3' (kZ '1' (aa (!"out") ao))) (bF (bb jc) 4.3))) (bw (mC 1.5)) bv) (aI (cj (aF (ay cm '2' (!"write"))) (bw (ay cm '3' 0e0)) bv) (bw (eD (ay cm (kZ '1' (aa (!"rising") ao)) 0e0) (wp (ay cm 4.8 0e0) (ay SR '3' 4.8))))))
theorem Qh{N:List Str}(hN:N.length=4){r:Rl}{ws:List Wd}:aU N CH 3 [r.d,cQ ws,.str (bI wr)] S=Y (.bl (ur r ws wr),S):=by
 refine abp (lG (env:=[Y r.d,Y (cQ ws),Y 6.2,L]) hN rfl rfl) ?_;have c1:∀ S,gT (cQ ws) [.str "reads"] S=Y (.int (ws.count .reads:Nat),S):=λS=>Bt .reads;have c2:∀ S,gT (cQ ws) [.str "rising"] S=Y (.int (ws.count .rising:Nat),S):=λS=>Bt .rising;have c3:∀ S,gT (cQ ws) [.str "out"] S=Y (.int (ws.count .out:Nat),S):=λS=>Bt .out;unfold ur;simp![CH,Qd,rW,gF,c1,c2,c3,gB,bZ,ca,Bs,QU];by_cases h1:ws.count .reads+ws.count .rising+ws.count .out<ws.length
 ·have:decide (((ws.count Wd.reads:Nat):Int)+((ws.count Wd.rising:Nat):Int)+((ws.count Wd.out:Nat):Int)<((ws.length:Nat):Int))=true:=aao 0.0;rw[this,aas h1];simp
 ·have:decide (((ws.count Wd.reads:Nat):Int)+((ws.count Wd.rising:Nat):Int)+((ws.count Wd.out:Nat):Int)<((ws.length:Nat):Int))=false:=aan 0.0;rw[this,if_neg h1];cases wr with
  | true=>
   have e:(bI true==("write":Str))=true:=rX true
   have e2:(((ws.count Wd.reads:Nat):Int)+((ws.count Wd.rising:Nat):Int)==0)=decide (ws.count Wd.reads+ws.count Wd.rising=0):=by
    rw[aaJ];simp;omega
   simp[e,e2]
  | false=>
   have e:(bI false==("write":Str))=false:=rX false;have e2:(((ws.count Wd.rising:Nat):Int)==0)=decide (ws.count Wd.rising=0):=by rw[aaJ];simp
   have e3:(r.a==0)=decide (r.a=0):=rfl;by_cases h2:ws.count Wd.rising=0
   ·by_cases h3:r.a=0
    ·simp[e,e2,Rl.ix1,h2,h3,rW,c2]
    ·simp[e,e2,Rl.ix1,h2,h3,rW,c2,abj.mpr h3]
   ·simp[e,e2,Rl.ix1,h2,rW,c2]
theorem oU{α:Type}(xs:List α)(i:Nat):gK xs L (Y (i:Int))=xs.take i:=by
 unfold gK;rw[Em,Eo];simp only[abR,Nat.sub_zero];rcases Nat.le_total i xs.length with h | h
 ·rw[acR h]
 ·rw[Nat.min_eq_right h,abS (aal _),abS h]
def ni(i:Nat):D:=.int (i:Int)
def nl(l:List Nat):D:=.lst (l.map ni)
def Up(a b:List Nat):List Nat:=if a=[] then b else a
def DC(p:En->Bool)(es:List En):List Nat:=(es.zipIdx.filter λq=>p q.1).map (·.2)
theorem rK{i:Nat}(h:i∈DC p es):i<es.length:=by
 unfold DC at h;obtain⟨q,hq,rfl⟩:=aaB.mp h;have:=(abc.mp hq).1;have:=List.snd_lt_of_mem_zipIdx this;omega
theorem MC:DC (λz=>false) es=[]:=by unfold DC;simp
theorem Pw{p:En->Bool}{es:List En}:D.lst ((es.zipIdx.filter λq=>p q.1).map λq=>.int (q.2:Int))=nl (DC p es):=by
 unfold nl DC ni;rw[abl];rfl
theorem ZR{S:ac}:Xc b env (nl l,S)=if l=[] then b env S else Y (nl l,S):=by
 cases l with
 | nil=>rfl
 | cons _ _=>rw[if_neg 0.3];exact kOr_c
theorem ZI{S:ac}{n:Nat}:iy (nl l) L (Y (n:Int),S)=Y (nl (l.take n),S):=by
 unfold nl;rw[ZJ,oU,ack]
theorem xu(n:Nat):D.lst (cT 0 n)=nl (List.range n):=by
 unfold cT nl ni;congr 1;apply ada;intro i z;rw[Int.zero_add]
theorem UR{S:ac}:CM (nl l,S)=Y (l.map ni,S):=rfl
def Gc(r:Rl)(es:List En):List Nat:=match r.w with
 | .rows=>(List.range es.length).take 1
 | .readers=>(Up (DC (λe=>!e.wr) es) (DC (λe=>e.wr) es)).take 1
 | .passes=>(List.range es.length).filter λi=>decide (lT (0::(es.take i).map λe=>e.m+1)<=r.b)
 | .turns=>(Up (DC (λe=>decide (e.m=1)) es) (Up (DC (λe=>e.wr) es) (DC (λe=>!e.wr) es))).take 1
 | .writers=>(Up (DC (λe=>e.wr) es) (DC (λe=>!e.wr) es)).take 1
theorem uv{i:Nat}(h:i∈Gc r es):i<es.length:=by
 have ho:∀ {a b:List Nat},i∈Up a b->i∈a\/i∈b:=λ{a b} h=>by unfold Up at h;split at h<;>simp[h]
 unfold Gc at h;split at h
 ·exact acg.mp (aaR h)
 ·exact(ho (aaR h)).elim rK rK
 ·exact acg.mp (abc.mp h).1
 ·exact(ho (aaR h)).elim rK λh=>(ho h).elim rK rK
 ·exact(ho (aaR h)).elim rK rK
def frR:ME:=bY (fI 4.3) (bo 2 (ag '`' 7.4)) (aF (ay cm 4.2 (!"read"))) '0' [L,L]
def frW:ME:=bY (fI 4.3) (bo 2 (ag '`' 7.4)) (aF (ay cm 4.2 (!"write"))) '0' [L,L]
def frT:ME:=bY (fI 4.3) (bo 2 (ag '`' 7.4)) (dD (aF (ay cm 1.35 (!"turns"))) (aF (ay cm 1.76 1e0))) '0' [L,L,Y 0]
def QH:ME:=bY (cR (bz '2' bC (bS '0'))) '`' bX (ay aK 6.3 1e0) [L]
def frP:ME:=bY (cD (aa (bF (bb jc) 4.3) ao)) '`' (aF (ay fLe (bF (bb on) (aa (ay aK (dw 8.9) QH) ao)) 1.76)) '0' [L,Y 0,Y 1]
def ut:MS:=
 aI (aT frR 'b') (aI (aT frW 'c') (aI (cj (aF (ay cm 1.2 (!"rows"))) (bw (bz (fo (aa (bF (bb jc) 4.3) ao)) bC (bS 1e0))) bv) (aI (cj (aF (ay cm 1.2 (!"readers"))) (bw (bz (wp '2' '3') bC (bS 1e0))) bv) (aI (cj (aF (ay cm 1.2 (!"passes"))) (bw frP) bv) (aI (aT frT 'd') (bw (bz (wp '4' (wp '3' '2')) bC (bS 1e0))))))))
section
variable{S:ac}{r:Rl}{es:List En}
theorem Dg{ms:MA}{env:be}:AG ([esD es],S)=Y (dW 0 6.1,S):=rfl
theorem qar{a c d e:Option D}(hl:es.length<=100):frR [a,Y (esD es),c,d,e] S=Y (nl (DC (λe=>!e.wr) es),S):=by
 have k:=CL (S:=S) (t:=aF (ay cm 4.2 (!"read"))) (cap:=[L,L]) (env:=[a,Y (esD es),c,d,e]) (enc:=En.d) (p:=λe=>!e.wr) (xs:=es) rfl 0.0 (λi x z=>by simp[En.ix1,-beq_iff_eq,vW]);rw[Pw (p:=λe=>!e.wr)] at k;simp![frR,ci,lN,Dg (ms:=ao) (env:=[]),k]
theorem qap{a c d e:Option D}(hl:es.length<=100):frW [a,Y (esD es),c,d,e] S=Y (nl (DC (λe=>e.wr) es),S):=by
 have k:=CL (S:=S) (t:=aF (ay cm 4.2 (!"write"))) (cap:=[L,L]) (env:=[a,Y (esD es),c,d,e]) (enc:=En.d) (p:=λe=>e.wr) (xs:=es) rfl 0.0 (λi x z=>by simp[En.ix1,-beq_iff_eq,rX]);rw[Pw] at k;simp![frW,ci,lN,Dg (ms:=ao) (env:=[]),k]
theorem qaq{c d e:Option D}(hl:es.length<=100):frT [Y r.d,Y (esD es),c,d,e] S=Y (nl (DC (λe=>decide (r.w=.turns)&&decide (e.m=1)) es),S):=by
 have hw:(r.w.s==("turns":Str))=decide (r.w=.turns):=Rw.eq r.w .turns
 have k:=CL (S:=S) (t:=dD (aF (ay cm 1.35 (!"turns"))) (aF (ay cm 1.76 1e0))) (cap:=[L,L,Y 0]) (env:=[Y r.d,Y (esD es),c,d,e]) (enc:=En.d) (p:=λe=>decide (r.w=.turns)&&decide (e.m=1)) (xs:=es) rfl 0.0 (λi x z=>by
  cases h:decide (r.w=.turns) with
  | true=>simp[En.ix2,Rl.ix0,-beq_iff_eq,hw,h];rfl
  | false=>simp[En.ix2,Rl.ix0,-beq_iff_eq,hw,h])
 rw[Pw (p:=λe=>decide (r.w=.turns)&&decide (e.m=1))] at k;simp![frT,ci,lN,Dg (ms:=ao) (env:=[]),k]
theorem Vg{i:Nat}{b:Option D}(hl:es.length<=60):QH [Y (.int (i:Int)),b,Y (esD es)] S=Y (.lst (((es.take i).map λe=>e.m+1).map .int),S):=by
 have k:=gA (S:=S) (t:=bX) (e:=ay aK 6.3 1e0) (cap:=[L]) (env:=[Y (.int (i:Int)),b,Y (esD es)]) (rest:=[]) (a:=L) (enc:=En.d) (p:=λz=>true) (f:=λe=>.int (e.m+1)) (xs:=es.take i) rfl 0.9 (λx z=>gR) (λx z z=>by simp[En.ix2])
 have e:iy (esD es) L (Y (i:Int),S)=Y (.tup ((es.take i).map En.d),S):=by
  rw[show esD es=.tup 6.1 from rfl,mf,oU,ack]
 rw[abE.mpr (λz z=>rfl)] at k;simp only[QH,ci,cV,cM,ai,bG,bM,bO,oj,ob,ah,fz,cZ,fv,dq,dB,e,II,k,abl];rfl
theorem qas{c d e:Option D}(hl:es.length<=60):frP [Y r.d,Y (esD es),c,d,e] S=Y (nl ((List.range es.length).filter λi=>decide (lT (0::(es.take i).map λe=>e.m+1)<=r.b)),S):=by
 have k:=gA (S:=S) (t:=(aF (ay fLe (bF (bb on) (aa (ay aK (dw 8.9) QH) ao)) 1.76))) (e:=af 0) (cap:=[L,Y 0,Y 1]) (env:=[Y r.d,Y (esD es),c,d,e]) (rest:=[Y r.d,Y (esD es)]) (a:=L) (enc:=ni) (p:=λi=>decide (lT (0::(es.take i).map λe=>e.m+1)<=r.b)) (f:=ni) (xs:=List.range es.length) rfl 0.9 (λi z=>by
  have h0:QH [Y (ni i),Y r.d,Y (esD es)] S=Y (.lst (((es.take i).map λe=>e.m+1).map .int),S):=Vg hl;have h1:lH ([.int 0],S)=Y (.lst [.int 0],S):=db 0.3;have h2:aK S (.lst [.int 0]) (.lst (((es.take i).map λe=>e.m+1).map .int))=Y (.lst ((0::(es.take i).map λe=>e.m+1).map .int)):=yH 0.9;have h3:bb on [.lst ((0::(es.take i).map λe=>e.m+1).map .int)] S=Y (.int (lT (0::(es.take i).map λe=>e.m+1)),S):=Vp 0.9 0.3
  simp![bZ,fH,h1,h0,h2,ca,h3,Rl.ix2,fLe_i]) (λi z z=>by simp)
 have e1:UN ([.int (es.length:Nat)],S)=Y ((List.range es.length).map ni,S):=by
  rw[rE 0.0 0.0];have:=xu es.length;simp only[nl,D.lst.injEq] at this;rw[abg,this]
 simp![frP,ci,jt,bZ,ca,RA,e1,k];rfl
theorem IV{N:List Str}(hN:N.length=5)(hl:es.length<=60):aU N ut 2 [r.d,esD es] S=Y (nl (Gc r es),S):=by
 refine abp (lG (env:=[Y r.d,Y (esD es),L,L,L]) hN rfl rfl) ?_;have a:(es.length:Nat)<=100:=by omega
 have w1:(r.w.s==("rows":Str))=decide (r.w=.rows):=Rw.eq r.w .rows;have w2:(r.w.s==("readers":Str))=decide (r.w=.readers):=Rw.eq r.w .readers;have w3:(r.w.s==("passes":Str))=decide (r.w=.passes):=Rw.eq r.w .passes;have lr:IH ([.int (es.length:Nat)],S)=Y (nl (List.range es.length),S):=by rw[Mw 0.0 0.0,abg,xu]
 have s1:∀ l:List Nat,iy (nl l) L (Y 1,S)=Y (nl (l.take 1),S):=λl=>ZI (n:=1);have o1:∀ (b:ME) env (l:List Nat),Xc b env (nl l,S)=if l=[] then b env S else Y (nl l,S):=λb env l=>ZR
 simp![ut,qar a,qap a,Rl.ix0,cP,w1,w2,w3];unfold Gc;cases hw:r.w<;>rw[hw] at w1 w2 w3<;>simp[cM,PY,RA,lr,s1,o1,qas hl,qaq a,hw,Up,Rl.ix0,w1,w2,w3,-beq_iff_eq]
 ·split<;>simp[s1]
 ·rw[MC,aas rfl];split<;>simp[s1]
 ·split
  ·split<;>simp[s1]
  ·simp[s1]
end
structure ROk(R:Rm):Prop where
 out:∀ e∈R.2,R.1[e.g]?=Y .out
 nd:(R.2.map (·.g)).Nodup
theorem HX:∀ (n:Nat) (l:List Nat),l.Nodup->(∀ x∈l,x<n)->l.length<=n
 | 0=>λl w h=>by cases l with | nil=>exact aal _ | cons x _=>exact absurd (h x 0.3) 0.0
 | n+1=>λl hn h=>by
  by_cases hm:n∈l
  ·have:=HX n (l.erase n) (hn.erase n) λx hx=>by
    have h1:=h x (List.mem_of_mem_erase hx);have h2:x≠n:=λz=>by rw[z] at hx;exact(List.Nodup.not_mem_erase hn) hx
    omega
   rw[List.length_erase_of_mem hm] at this;omega
  ·have:=HX n l hn λx hx=>by
    have h1:=h x hx;have h2:x≠n:=λz=>hm (z ▸ hx);omega
   omega
theorem ROk.lt(h:ROk R){e:En}(he:e∈R.2):e.g<R.1.length:=(aac.mp (h.out e he)).1
theorem ROk.len(h:ROk R):R.2.length<=R.1.length:=by
 have:=HX R.1.length (R.2.map (·.g)) h.nd λx hx=>by obtain⟨e,he,rfl⟩:=aaB.mp hx;exact h.lt he
 rwa[aaj] at this
structure Ev where
 w:Str
 g:Nat
def Ev.d(e:Ev):D:=.tup [.str e.w,.int (e.g:Nat)]
def pR(ws:List Wd):List Nat:=(List.range ws.length).filter λg=>decide (ws[g]?=Y .rising)&&decide (ws.count .out+1=ws.length)
def oa(r:Rl)(ws:List Wd)(es:List En):List Nat:=(Gc r es).filter λi=>match es[i]? with | some e=>ur r ws e.wr | none=>false
def tQ(r:Rl)(e:En):En:={ e with m:=e.m+(if r.w=.passes then 1 else 0) }
def vQ(r:Rl)(R:Rm)(i:Nat)(e:En):Rm:=(R.1.set e.g (if e.wr then .writes else .reads),(R.2.take i).map (tQ r)++R.2.drop (i+1))
def lF(r:Rl)(R:Rm):Rm×List Ev:=match pR R.1 with
 | g::_=>((R.1.set g .raised,R.2),[⟨"steps",g⟩])
 | []=>match oa r R.1 R.2 with
  | i::_=>match R.2[i]? with
   | some e=>(vQ r R i e,[⟨"in",e.g⟩])
   | none=>(R,[])
  | []=>(R,[])
def uP(r:Rl):Nat->Rm->Rm×List Ev
 | 0,R=>(R,[])
 | n+1,R=>let a:=lF r R;let b:=uP r n a.1;(b.1,a.2++b.2)
theorem Ih(r:Rl)(es:List En):(es.map (tQ r)).map (·.g)=es.map (·.g):=by rw[abl];rfl
theorem Ve{i:Nat}(h:ROk R)(hi:R.2[i]?=Y e):ROk (vQ r R i e):=by
 obtain⟨ws,es⟩:=R
 have hs:es=es.take i++e::es.drop (i+1):=by
  obtain⟨hl,he⟩:=aac.mp hi;rw[<- he,List.getElem_cons_drop,acp]
 have hnd:((es.take i).map (·.g)++e.g::(es.drop (i+1)).map (·.g)).Nodup:=by
  have:=h.nd;dsimp only at this;rw[hs] at this;simpa using this
 rw[acb,abL] at hnd;obtain⟨n1,⟨n2,n3⟩,n4⟩:=hnd;refine⟨λx hx=>?_,?_⟩
 ·show(ws.set e.g _)[x.g]?=_
  have key:∃ y∈es,y.g=x.g/\x.g≠e.g:=by
   rcases aap.mp hx with hx | hx
   ·obtain⟨y,hy,rfl⟩:=aaB.mp hx;refine⟨y,aaR hy,rfl,λz=>?_⟩;exact n4 _ (aaB.mpr ⟨y,hy,rfl⟩) _ aad z
   ·refine⟨x,abH hx,rfl,λz=>n2 ?_⟩;rw[<- z];exact aaB.mpr ⟨x,hx,rfl⟩
  obtain⟨y,hy,e1,ne⟩:=key;rw[aaF (Ne.symm ne),<- e1];exact h.out y hy
 ·show(((es.take i).map (tQ r)++es.drop (i+1)).map (·.g)).Nodup;rw[aaY,Ih,acb];exact⟨n1,n3,λa ha b hb=>n4 a ha b (aah _ hb)⟩
theorem nY{ws:List Wd}{g:Nat}(h:g∈pR ws):ws[g]?=Y .rising:=by
 have:=(abc.mp h).2;rw[aae] at this;exact aba this.1
theorem tX(h:ROk R):ROk (lF r R).1/\(lF r R).1.1.length=R.1.length:=by
 unfold lF;split
 ·rename_i g l hg;have hr:R.1[g]?=Y .rising:=nY (by rw[hg];exact aad);refine⟨⟨λe he=>?_,h.nd⟩,by simp⟩;show(R.1.set g .raised)[e.g]?=_;have h1:=h.out e he;rw[aaF (λz=>by rw[z,h1] at hr;cases hr)];exact h1
 ·split
  ·split
   ·rename_i e he;exact⟨Ve h he,by simp[vQ]⟩
   ·exact⟨h,rfl⟩
  ·exact⟨h,rfl⟩
theorem OH:∀ (n:Nat) {R:Rm},ROk R->ROk (uP r n R).1/\(uP r n R).1.1.length=R.1.length
 | 0,R,h=>⟨h,rfl⟩
 | n+1,R,h=>by
  obtain⟨h1,h2⟩:=tX (r:=r) h;obtain⟨h3,h4⟩:=OH n h1;exact⟨h3,h4.trans h2⟩
def wa:ME:=bY (cD (aa (bF (bb jc) 3.0) ao)) '`' (dD (aF (ay cm (ay aB '1' '0') (!"rising"))) (aF (ay cm (kZ '1' (aa (!"out") ao)) (ay lI (bF (bb jc) 4.3) 1e0)))) '0' [L,Y 2]
def BB(fronts lets:PF):ME:=bY (cR (ax 2 fronts (aa '0' 3.2))) '`' (dQ (ax 3 lets (aa '1' (aa '3' (aa (ay aB (ay aB '2' '0') 1e0) ao))))) '0' [L,Y 0,Y 3,Y 2]
def BC:ME:=bY (cR (bz '3' bC (bS 1.12))) '`' bX (ay aK (ay aK 7.7 (aR (aa (ay aK 6.3 (bF (bb lm) (aa (ay cm 3.5 (!"passes")) ao))) ao))) 7.8) [L,Y 0]
def Ho(put:PF):MS:=aI (aT (ax 3 put (aa '2' (aa (ay aB '6' 0e0) (aa (!"raised") ao)))) 'b') (eQ (fB dN '4' (aa (aR (aa (!"steps") (aa (ay aB '6' 0e0) ao))) ao)))
def Yk(put:PF):MS:=aI (aT (ay aB '3' 1.12) (bo 4 9.4)) (aI (aT (ax 3 put (aa '2' (aa '8' (aa (ay aB (dw (aa (!"reads") (aa (!"writes") ao))) (bF (bb lm) (aa (ay cm '9' (!"write")) ao))) ao)))) 'b') (aI (aT BC 'l') (aI (aT (ay aK (bF 2.8 (aa '<' ao)) (bz '3' (bS (ay aK 1.12 1e0)) bC)) 'c') (eQ (fB dN '4' (aa (aR (aa (!"in") (aa '8' ao))) ao))))))
def tZ(fronts lets put:PF):MS:=aI (aT wa 'f') (aI (aT (BB fronts lets) 'g') (cj (aF (ay kf '6' (dw ao))) (Ho put) (cj (aF (ay kf '7' (dw ao))) (Yk put) bv)))
def rC(fronts lets put:PF):MS:=
 aI (aT '1' (bo 2 1.7)) (aI (aT (fC ao) 'd') (aI (kY (cD (aa (ay cA 2e0 (bF (bb jc) 3.0)) ao)) 'e' (tZ fronts lets put)) (bw (aR (aa (aR (aa '2' 3.2)) 2.5)))))
structure NO(fronts lets put:PF):Prop where
 f:∀ (S:ac) (r:Rl) (es:List En),es.length<=60->fronts [r.d,esD es] S=Y (nl (Gc r es),S)
 l:∀ (S:ac) (r:Rl) (ws:List Wd) (wr:Bool),lets [r.d,cQ ws,.str (bI wr)] S=Y (.bl (ur r ws wr),S)
 p:∀ (S:ac) (ws:List Wd) (i:Nat) (w:Wd),i<ws.length->ws.length<=100->put [cQ ws,.int (i:Int),w.d] S=Y (cQ (ws.set i w),S)
section
variable{S:ac}{ws:List Wd}{es:List En}{r:Rl}
theorem ON{S:ac}{n:Nat}(h:n<=1000):UN ([.int (n:Int)],S)=Y ((List.range n).map ni,S):=by
 rw[rE 0.0 0.0];have:=xu n;simp only[nl,D.lst.injEq] at this;rw[abg,this]
theorem wl{S:ac}{i:Nat}{l:List Nat}:aB S (nl (i::l)) (.int 0)=Y (.int (i:Int)):=by
 show ou ((i::l).map ni) ((0:Nat):Int)=_;exact SG rfl
theorem Hr{a0 a1 a3 a4 a5 a6 a7 a8 a9 b0 b1 b2:Option D}(hl:ws.length<=60):wa [a0,a1,Y (cQ ws),a3,a4,a5,a6,a7,a8,a9,b0,b1,b2] S=Y (nl (pR ws),S):=by
 have k:=gA (S:=S) (t:=dD (aF (ay cm (ay aB '1' '0') (!"rising"))) (aF (ay cm (kZ '1' (aa (!"out") ao)) (ay lI (bF (bb jc) 4.3) 1e0)))) (e:=af 0) (cap:=[L,Y 2]) (env:=[a0,a1,Y (cQ ws),a3,a4,a5,a6,a7,a8,a9,b0,b1,b2]) (rest:=[Y (cQ ws)]) (a:=L) (enc:=ni) (p:=λg=>decide (ws[g]?=Y .rising)&&decide (ws.count .out+1=ws.length)) (f:=ni) (xs:=List.range ws.length) rfl 0.9 (λg hg=>by
  have hg:=acg.mp hg;have e1:ws[g]?=Y ws[g]:=aag hg;have e2:aB S (cQ ws) (ni g)=Y (ws[g]).d:=zR e1
  have e3:cm S (ws[g]).d (.str "rising")=Y (.bl (decide (ws[g]=.rising))):=by
   show cm S (.str (ws[g]).s) (.str "rising")=_;rw[cP];exact congrArg (λb=>Y (D.bl b)) (Wd.eq ws[g] .rising)
  have e4:∀ S,gT (cQ ws) [.str "out"] S=Y (.int (ws.count .out:Nat),S):=λS=>Bt .out;have e5:(((ws.count Wd.out:Nat):Int)==(ws.length:Nat) - 1)=decide (ws.count .out+1=ws.length):=by rw[aaJ];simp;omega
  simp![qa,e2,e3,e1,abu];cases hd:decide (ws[g]=.rising) with
  | true=>simp![qd,Qd,rW,gF,e4,bZ,ca,Bs,mq,mw,e5,abh]
  | false=>simp only[CQ,aaK]) (λg z z=>by simp)
 simp![wa,ci,jt,bZ,ca,Bs,ON (show ws.length<=1000 by omega),k];rfl
theorem LD{put:PF}(O:NO fronts lets put){a1 a4 a5 a6 a7 a8 a9 b0 b1 b2:Option D}(hl:es.length<=60):BB fronts lets [Y r.d,a1,Y (cQ ws),Y (esD es),a4,a5,a6,a7,a8,a9,b0,b1,b2] S=Y (nl (oa r ws es),S):=by
 have hlen:(Gc r es).length<=1000:=by
  have h1:(Gc r es).length<=60\/(Gc r es).length<=es.length:=by
   unfold Gc;split
   ·left;simp;omega
   ·left;simp;omega
   ·right;exact aaD (aby _ _) 0.3
   ·left;simp;omega
   ·left;simp;omega
  omega
 have k:=gA (S:=S) (t:=dQ (ax 3 lets (aa '1' (aa '3' (aa (ay aB (ay aB '2' '0') 1e0) ao))))) (e:=af 0) (cap:=[L,Y 0,Y 3,Y 2]) (env:=[Y r.d,a1,Y (cQ ws),Y (esD es),a4,a5,a6,a7,a8,a9,b0,b1,b2]) (rest:=[Y r.d,Y (esD es),Y (cQ ws)]) (a:=L) (enc:=ni) (p:=λi=>match es[i]? with | some e=>ur r ws e.wr | none=>false) (f:=ni) (xs:=Gc r es) rfl hlen (λi hi=>by
  have e1:es[i]?=Y (es[i]'(uv hi)):=aag (uv hi);have e2:aB S (esD es) (ni i)=Y (es[i]'(uv hi)).d:=RB e1
  simp![cU,e2,En.ix1,bK,O.l,dm,e1]) (λg z z=>by simp)
 simp![BB,ci,cV,O.f S r es hl,UR,k];rfl
theorem qbg{e:En}{b:Option D}:(ay aK (ay aK 7.7 (aR (aa (ay aK 6.3 (bF (bb lm) (aa (ay cm 3.5 (!"passes")) ao))) ao))) 7.8) [Y e.d,Y r.d] S=Y ((tQ r e).d,S):=by
 have w3:(r.w.s==("passes":Str))=decide (r.w=.passes):=Rw.eq r.w .passes;have c1:iy e.d L (Y 2,S)=Y (.tup [.int (e.g:Nat),.str 5.3],S):=rfl;have c2:iy e.d (Y 3) (L,S)=Y (.tup [bU e.t],S):=rfl;have a1:∀ x y z,aK S (.tup [x,y]) (.tup [z])=Y (.tup [x,y,z]):=λx y z=>eN 0.3;have a2:∀ x y z w,aK S (.tup [x,y,z]) (.tup [w])=Y (.tup [x,y,z,w]):=λx y z w=>eN 0.3;simp![cM,fz,cZ,fv,dq,dB,c1,bZ,En.ix2,Rl.ix0,cP,w3,ca,qm,gB,wy,a1,c2,a2];unfold tQ En.d;by_cases h:r.w=.passes<;>simp[h]
theorem Hs{i:Nat}{l:List Nat}{a1 a2 a4 a5 a6 a8 a9 b0 b1 b2:Option D}(hl:es.length<=60):BC [Y r.d,a1,a2,Y (esD es),a4,a5,a6,Y (nl (i::l)),a8,a9,b0,b1,b2] S=Y (.lst (((es.take i).map (tQ r)).map En.d),S):=by
 have k:=gA (S:=S) (t:=bX) (e:=ay aK (ay aK 7.7 (aR (aa (ay aK 6.3 (bF (bb lm) (aa (ay cm 3.5 (!"passes")) ao))) ao))) 7.8) (cap:=[L,Y 0]) (env:=[Y r.d,a1,a2,Y (esD es),a4,a5,a6,Y (nl (i::l)),a8,a9,b0,b1,b2]) (rest:=[Y r.d]) (a:=L) (enc:=En.d) (p:=λz=>true) (f:=λe=>(tQ r e).d) (xs:=es.take i) rfl 0.9 (λx z=>gR) (λx z z=>qbg (b:=L));rw[abE.mpr (λz z=>rfl)] at k
 have e:iy (esD es) L (Y (i:Int),S)=Y (.tup ((es.take i).map En.d),S):=by
  rw[show esD es=.tup 6.1 from rfl,mf,oU,ack]
 have e0:aB S (nl (i::l)) (.int 0)=Y (.int (i:Int)):=wl;simp![BC,ci,cV,cM,fz,cZ,fv,dq,e0,dB,e,II,k,abl];rfl
theorem Ja:kf S (nl l) (.lst [])=Y (.bl (!decide (l=[]))):=by
 have ok:cy 40 (nl l)=true:=by
  show(l.map ni).all (cy 39)=true;rw[aav];intro d hd;obtain⟨i,z,rfl⟩:=aaB.mp hd;rfl
 rw[yC ok rfl];cases l with
 | nil=>rfl
 | cons _ _=>rfl
theorem Jg{evs:List Ev}{v:Ev}(h:evs.length<500):dN 0.7 [v.d] (S++[.lst 3.1])=Y (.non,S++[.lst ((evs++[v]).map Ev.d)]):=by
 rw[qp jG (by rw[aaj];omega),Lp];simp
theorem Db{evs:List Ev}:uX f ms env (.ref S.length,S++[.lst 3.1])=(ms env (S++[.lst 3.1])).bind (fK f 0.7):=wz jG
theorem LC{put:PF}(O:NO fronts lets put){g:Nat}{l:List Nat}{evs:List Ev}{a0 a1 a3 a5 a7 a8 a9 b0 b1 b2:Option D}(hg:g<ws.length)(hl:ws.length<=60)(he:evs.length<500) :
  Ho put [a0,a1,Y (cQ ws),a3,Y 0.7,a5,Y (nl (g::l)),a7,a8,a9,b0,b1,b2] (S++[.lst 3.1])=Y (.nx [a0,a1,Y (cQ (ws.set g .raised)),a3,Y 0.7,a5,Y (nl (g::l)),a7,a8,a9,b0,b1,b2] (S++[.lst ((evs++[Ev.mk "steps" g]).map Ev.d)])):=by
 have p1:∀ S,put [cQ ws,.int (g:Int),.str "raised"] S=Y (cQ (ws.set g .raised),S):=λS=>O.p S ws g .raised hg 0.0;have ap:dN 0.7 [.tup [.str "steps",.int (g:Int)]] (S++[.lst 3.1])=Y (.non,S++[.lst ((evs++[Ev.mk "steps" g]).map Ev.d)]):=Jg (v:=⟨"steps",g⟩) he;simp![Ho,wl,bK,p1,nO,nM,Db,ga,gF,ap,nR]
theorem Ts{put:PF}(O:NO fronts lets put){i:Nat}{l:List Nat}{evs:List Ev}{a1 a5 a6 a8 a9 b0 b1 b2:Option D}(hi:es[i]?=Y e)(hg:e.g<ws.length)(hl:ws.length<=60)(hl2:es.length<=60)(he:evs.length<500) :
  ∃ c8 c9 d0 d1 d2,Yk put [Y r.d,a1,Y (cQ ws),Y (esD es),Y 0.7,a5,a6,Y (nl (i::l)),a8,a9,b0,b1,b2] (S++[.lst 3.1])=Y (.nx [Y r.d,a1,Y (cQ (vQ r (ws,es) i e).1),Y (esD (vQ r (ws,es) i e).2),Y 0.7,a5,a6,Y (nl (i::l)),c8,c9,d0,d1,d2] (S++[.lst ((evs++[Ev.mk "in" e.g]).map Ev.d)])):=by
 have hlt:=(aac.mp hi).1;have p1:∀ S,put [cQ ws,.int 2.0,(if e.wr then Wd.writes else Wd.reads).d] S=Y (cQ (ws.set e.g (if e.wr then .writes else .reads)),S):=λS=>O.p S ws e.g _ hg 0.0;have ap:dN 0.7 [.tup [.str "in",.int 2.0]] (S++[.lst 3.1])=Y (.non,S++[.lst ((evs++[Ev.mk "in" e.g]).map Ev.d)]):=Jg (v:=⟨"in",e.g⟩) he;have x1:∀ S,aB S (esD es) (.int (i:Int))=Y e.d:=λS=>RB hi;have wd:∀ S,aB S (.lst [.str "reads",.str "writes"]) (.int (if e.wr=true then 1 else 0))=Y (if e.wr then Wd.writes else Wd.reads).d:=λS=>by cases e.wr<;>rfl
 have g4:∀ env S,bo 4 9.4 e.d env S=9.4 [.int (e.g:Nat),.str 5.3,.int e.m,bU e.t] env S:=λenv S=>qh
 have cd:gK 6.1 (Y ((i:Int)+1)) L=(es.drop (i+1)).map En.d:=by
  rw[show((i:Int)+1)=((i+1:Nat):Int) by omega,qt _ _ (by rw[aaj];omega),acK]
 have sd:∀ S,iy (esD es) (Y ((i:Int)+1)) (L,S)=Y (.tup ((es.drop (i+1)).map En.d),S):=λS=>by
  rw[show esD es=.tup 6.1 from rfl,mf,cd]
 have ad:∀ S,aK S (.tup (((es.take i).map (tQ r)).map En.d)) (.tup ((es.drop (i+1)).map En.d))=Y (esD (vQ r (ws,es) i e).2):=λS=>by
  rw[eN 0.9,<- aaY];rfl
 refine⟨Y (.int (e.g:Nat)),Y 3.6,Y 1.60,Y (bU e.t),Y (.lst (((es.take i).map (tQ r)).map En.d)),?_⟩
 ·simp![Yk,wl,x1,g4,bx,cE,bN,fH,io,bZ,cP,rX,ca,qm,wd,bK,p1,Hs hl2,gS,cM,fz,dq,gB,dB,fv,cZ,sd,ad,nO,nM,Db,ga,gF,ap,nR]
  try rfl
theorem LB{put:PF}(O:NO fronts lets put)(h:ROk R)(hl:R.1.length<=50){evs:List Ev}{a1 a5 a6 a7 a8 a9 b0 b1 b2:Option D}(he:evs.length<500) :
  ∃ c6 c7 c8 c9 d0 d1 d2,tZ fronts lets put [Y r.d,a1,Y (cQ R.1),Y (esD R.2),Y 0.7,a5,a6,a7,a8,a9,b0,b1,b2] (S++[.lst 3.1])=Y (.nx [Y r.d,a1,Y (cQ (lF r R).1.1),Y (esD (lF r R).1.2),Y 0.7,a5,c6,c7,c8,c9,d0,d1,d2] (S++[.lst ((evs++(lF r R).2).map Ev.d)])):=by
 obtain⟨ws,es⟩:=R;have hl2:es.length<=60:=by have:=h.len;simp only at this hl;omega
 have hl1:ws.length<=60:=by simp only at hl;omega
 have k0:∀ S,lH ([],S)=Y (.lst [],S):=λS=>db 0.3;have e1:∀ (T:ac) (a6:Option D),wa [Y r.d,a1,Y (cQ ws),Y (esD es),Y 0.7,a5,a6,a7,a8,a9,b0,b1,b2] T=Y (nl (pR ws),T):=λT a6=>Hr hl1;have e2:∀ (T:ac) (a6 a7:Option D),BB fronts lets [Y r.d,a1,Y (cQ ws),Y (esD es),Y 0.7,a5,a6,a7,a8,a9,b0,b1,b2] T=Y (nl (oa r ws es),T):=λT a6 a7=>LD O hl2;unfold lF;dsimp only;cases hA:pR ws with
 | cons g l=>
  have hr:ws[g]?=Y .rising:=nY (by rw[hA];exact aad);have hg:g<ws.length:=(aac.mp hr).1;rw[hA] at e1;have e3:=LC O (S:=S) (ws:=ws) (g:=g) (l:=l) (evs:=evs) (a0:=Y r.d) (a1:=a1) (a3:=Y (esD es)) (a5:=a5) (a7:=Y (nl (oa r ws es))) (a8:=a8) (a9:=a9) (b0:=b0) (b1:=b1) (b2:=b2) hg hl1 he;refine⟨Y (nl (g::l)),Y (nl (oa r ws es)),a8,a9,b0,b1,b2,?_⟩;simp![tZ,e1,e2,fH,k0,Ja,reduceCtorEq,abB,aaH,e3]
 | nil=>
  rw[hA] at e1;cases hB:oa r ws es with
  | nil=>
   rw[hB] at e2;refine⟨Y (nl []),Y (nl []),a8,a9,b0,b1,b2,?_⟩;simp![tZ,e1,e2,fH,k0,Ja,abz,aaz,aaN]
  | cons i l=>
   rw[hB] at e2;have hi:i∈oa r ws es:=by rw[hB];exact aad
   have hlt:i<es.length:=uv (abc.mp hi).1;have ei:es[i]?=Y es[i]:=aag hlt;have hg:(es[i]).g<ws.length:=h.lt (R:=(ws,es)) (aci hlt);obtain⟨c8,c9,d0,d1,d2,e3⟩:=Ts O (S:=S) (ws:=ws) (es:=es) (r:=r) (i:=i) (l:=l) (evs:=evs) (a1:=a1) (a5:=a5) (a6:=Y (nl [])) (a8:=a8) (a9:=a9) (b0:=b0) (b1:=b1) (b2:=b2) ei hg hl1 hl2 he;dsimp only;rw[ei];refine⟨Y (nl []),Y (nl (i::l)),c8,c9,d0,d1,d2,?_⟩;simp![tZ,e1,e2,fH,k0,Ja,abz,aaz,reduceCtorEq,abB,aaH,e3]
theorem JU:(lF r R).2.length<=1:=by
 unfold lF;split
 ·simp
 ·split
  ·split<;>simp
  ·simp
theorem DX{put:PF}(O:NO fronts lets put){N:List Str}(hN:N.length=13)(h:ROk R)(hl:R.1.length<=50) :
  aU N (rC fronts lets put) 2 [r.d,aZ R] S=Y (.tup [aZ (uP r (2*R.1.length) R).1,.ref S.length],S++[.lst ((uP r (2*R.1.length) R).2.map Ev.d)]):=by
 refine abp (lG (env:=[Y r.d,Y (aZ R),L,L,L,L,L,L,L,L,L,L,L]) hN rfl rfl) ?_
 obtain⟨env',S',e,R',evs',c5,c6,c7,c8,c9,d0,d1,d2,o1,o2,o3,o4,rfl,rfl⟩:=forR (tg:=aj 5) (p:=tZ fronts lets put) (lo:=0) (λi env T=>∃ (R':Rm) (evs':List Ev) (c5 c6 c7 c8 c9 d0 d1 d2:Option D),ROk R'/\R'.1.length=R.1.length/\evs'.length<=i/\(i<=2*R.1.length->uP r (2*R.1.length) R=((uP r (2*R.1.length - i) R').1,evs'++(uP r (2*R.1.length - i) R').2)) /\
   env=[Y r.d,Y (aZ R),Y (cQ R'.1),Y (esD R'.2),Y 0.7,c5,c6,c7,c8,c9,d0,d1,d2]/\T=S++[.lst (evs'.map Ev.d)]) (2*R.1.length) (λi hi env T hI=>by
  obtain⟨R',evs',c5,c6,c7,c8,c9,d0,d1,d2,o1,o2,o3,o4,rfl,rfl⟩:=hI;obtain⟨f6,f7,f8,f9,g0,g1,g2,e⟩:=LB O (r:=r) (S:=S) (R:=R') o1 0.0 (evs:=evs') (a1:=Y (aZ R)) (a5:=Y (.int (0+(i:Int)))) (a6:=c6) (a7:=c7) (a8:=c8) (a9:=c9) (b0:=d0) (b1:=d1) (b2:=d2) 0.0;obtain⟨q1,q2⟩:=tX (r:=r) o1;have fw:=JU (r:=r) (R:=R');refine⟨_,_,_,_,aN,e,(lF r R').1,evs'++(lF r R').2,_,f6,f7,f8,f9,g0,g1,g2,q1,q2.trans o2,by rw[aau];omega,λhn=>?_,rfl,rfl⟩;rw[o4 0.0,show 2*R.1.length - i=(2*R.1.length - (i+1))+1 by omega]
  simp only[uP,aaZ]) [Y r.d,Y (aZ R),Y (cQ R.1),Y (esD R.2),Y 0.7,L,L,L,L,L,L,L,L] (S++[.lst []]) ⟨R,[],L,L,L,L,L,L,L,L,h,rfl,aal _,λz=>by simp,rfl,rfl⟩
 have o5:=o4 (aal _);rw[Nat.sub_self] at o5;simp only[uP,aaN] at o5;have k0:sS ([],S)=Y (.ref S.length,S++[.lst []]):=lb 0.3;have mu:∀ S,cA S (.int 2) (.int (R.1.length:Nat))=Y (.int (2*(R.1.length:Nat))):=λS=>jB (oV 0.1 0.1)
 have kr:∀ S,UN ([.int (2*(R.1.length:Nat))],S)=Y (cT 0 (2*R.1.length),S):=λS=>by
  rw[rE 0.0 0.0];congr 3
 have g2:∀ env S,bo 2 1.7 (aZ R) env S=1.7 [cQ R.1,esD R.2] env S:=λenv S=>cx;rw[o5];simp![rC,g2,bx,cE,bN,nN,k0,xO,jt,bZ,ca,Bs,mu,kr,xX,e,ga];rfl
end
inductive Ak where | up | down | leave | stop
deriving DecidableEq
def Ak.s:Ak->Str
 | .up=>"up"
 | .down=>"down"
 | .leave=>"leave"
 | .stop=>"stop"
inductive Dd where
 | ask (wr:Bool) (g:Nat) (t:Option Int)
 | act (k:Ak) (g:Nat)
 | tick
def Dd.d:Dd->D
 | .ask wr g t=>.tup [.str (bI wr),.int (g:Int),bU t]
 | .act k g=>.tup [.str k.s,.int (g:Int)]
 | .tick=>.tup [.str "tick"]
def Dy(t:Option Int):Prop:=∀ k,t=Y k->0<=k/\k<=9
def Dd.Ok(n:Nat):Dd->Prop
 | .ask _ g t=>g<n/\Dy t
 | .act _ g=>g<n
 | .tick=>True
def sR(pick:PF):MS:=
 aI (aT (ax 2 pick 3.9) 'b') (aI (aT (ax 2 pick (aa '0' (aa 12e0 ao))) 'c') (aI (cj (aF (ay SR '3' 6e0)) (bw (aR (aa (ay aB (dw (aa (!"read") (aa (!"write") ao))) (ay lj '3' 2e0)) (aa '2' (aa (ay aB (dw (aa 1.9 (aa 1.9 (aa 1.9 (aa 0e0 (aa 1e0 (aa 9e0 ao))))))) (ax 2 pick (aa '0' (aa 6e0 ao)))) ao))))) bv) (aI (cj (aF (ay cm '3' 11e0)) (bw (aR (aa (!"tick") ao))) bv) (bw (aR (aa (ay aB (dw (aa (!"up") (aa (!"down") (aa (!"leave") (aa (!"leave") (aa (!"stop") ao)))))) (ay lI '3' 6e0)) 3.0))))))
theorem Wt{q:Int}(h0:0<=q)(h1:q<6):∃ t:Option Int,ou [D.non,D.non,D.non,D.int 0,D.int 1,D.int 9] q=Y (bU t)/\Dy t:=by
 have n:Dy L:=λk h=>by cases h
 have s:∀ j:Int,0<=j->j<=9->Dy (Y j):=λj a b k h=>by cases h;exact⟨a,b⟩
 obtain rfl | rfl | rfl | rfl | rfl | rfl:q=0\/q=1\/q=2\/q=3\/q=4\/q=5:=by omega
 ·exact⟨L,rfl,n⟩
 ·exact⟨L,rfl,n⟩
 ·exact⟨L,rfl,n⟩
 ·exact⟨Y 0,rfl,s 0 0.1 0.1⟩
 ·exact⟨Y 1,rfl,s 1 0.1 0.1⟩
 ·exact⟨Y 9,rfl,s 9 0.1 0.1⟩
theorem qbj{q:Int}(h0:6<=q)(h1:q<11):∃ k:Ak,ou [D.str "up",D.str "down",D.str "leave",D.str "leave",D.str "stop"] (q - 6)=Y 5.0:=by
 obtain rfl | rfl | rfl | rfl | rfl:q=6\/q=7\/q=8\/q=9\/q=10:=by omega
 ·exact⟨.up,rfl⟩
 ·exact⟨.down,rfl⟩
 ·exact⟨.leave,rfl⟩
 ·exact⟨.leave,rfl⟩
 ·exact⟨.stop,rfl⟩
theorem at_wr{q:Int}:∃ wr:Bool,ou [D.str "read",D.str "write"] (q%2)=Y 6.2:=by
 obtain h | h:q%2=0\/q%2=1:=by omega
 ·exact⟨false,by rw[h];rfl⟩
 ·exact⟨true,by rw[h];rfl⟩
theorem Sb{pick:PF}(hp:JM pick){S:ac}{r n:Nat}{N:List Str}(hN:N.length=4)(P:Pk S r)(h1:1<=n)(h9:n<=9):∃ (dd:Dd) (S':ac),aU N (sR pick) 2 [.ref r,.int (n:Int)] S=Y (dd.d,S')/\dd.Ok n/\Pk S' r/\Keep r S S':=by
 have hst:ba N [D.ref r,.int (n:Int)]=[Y (.ref r),Y 0.4,L,L]:=by simp[ba,hN,aeP]
 rw[bL (show [D.ref r,D.int (n:Int)].length=2 from rfl),hst];obtain⟨g,S1,e1,g0,g1,P1,K1⟩:=hp _ _ (n:Int) P 0.0 0.0;obtain⟨q,S2,e2,q0,q1,P2,K2⟩:=hp _ _ 12 P1 0.1 0.1;obtain⟨g',rfl⟩:∃ g':Nat,g=(g':Int):=⟨g.toNat,by omega⟩
 have md:∀ S,lj S (.int q) (.int 2)=Y (.int (q%2)):=λS=>kn 0.1;by_cases h6:q<6
 ·obtain⟨l,S3,e3,l0,l1,P3,K3⟩:=hp _ _ 6 P2 0.1 0.1;obtain⟨t,et,ot⟩:=Wt l0 l1;obtain⟨wr,ew⟩:=at_wr (q:=q);have k1:∀ S,lH ([D.str "read",D.str "write"],S)=Y (.lst [D.str "read",D.str "write"],S):=λS=>db 0.3;have k2:∀ S,lH ([D.non,D.non,D.non,D.int 0,D.int 1,D.int 9],S)=Y (.lst [D.non,D.non,D.non,D.int 0,D.int 1,D.int 9],S):=λS=>db 0.3;have k3:∀ S (a b c:D),cz ([a,b,c],S)=Y (.tup [a,b,c],S):=λS a b c=>aV 0.3;refine⟨.ask wr g' t,S3,?_,⟨by omega,ot⟩,P3,Keep.trans K1 (Keep.trans K2 K3)⟩;simp[sR,e1,e2,h6,k1,md,ew,e3,k2,et,k3,Dd.d]
 ·by_cases h11:q=11
  ·subst h11;have k1:∀ S (a:D),cz ([a],S)=Y (.tup [a],S):=λS a=>aV 0.3;refine⟨.tick,S2,?_,trivial,P2,Keep.trans K1 K2⟩;simp[sR,e1,e2,k1,Dd.d]
  ·obtain⟨k,ek⟩:=qbj (q:=q) 0.0 0.0;have k1:∀ S,lH ([D.str "up",D.str "down",D.str "leave",D.str "leave",D.str "stop"],S)=Y (.lst [D.str "up",D.str "down",D.str "leave",D.str "leave",D.str "stop"],S):=λS=>db 0.3;have k2:∀ S (a b:D),cz ([a,b],S)=Y (.tup [a,b],S):=λS a b=>aV 0.3;refine⟨.act k g',S2,?_,(by show g'<n;omega),P2,Keep.trans K1 K2⟩;simp[sR,e1,e2,h6,abj.mpr h11,k1,ek,k2,Dd.d]
def aW(es:List En)(g:Nat):Bool:=es.any λe=>decide (e.g=g)
def gL(R:Rm):Dd->Bool
 | .tick=>true
 | .ask _ g _=>decide (R.1[g]?=Y .out)&&!aW R.2 g
 | .act .up g=>decide (R.1[g]?=Y .reads)
 | .act .down g=>decide (R.1[g]?=Y .writes)||decide (R.1[g]?=Y .raised)
 | .act .leave g=>decide (R.1[g]?≠Y .out)
 | .act .stop g=>aW R.2 g||decide (R.1[g]?=Y .rising)
def Ds:ME:=ay rN 4.2 (bY (cR '3') '`' bX 1.2 [L])
def qbf:ME:=ft [(mC (.str "read"),eD (ay cm '4' (!"out")) (iq '5')),(mC (.str "write"),eD (ay cm '4' (!"out")) (iq '5')),(mC (.str "up"),ay cm '4' (!"reads"))]
def qbe:ME:=iF [(mC (.str "down"),ay rN '4' (aR (aa (!"writes") (aa (!"raised") ao)))),(mC (.str "leave"),ay kf '4' (!"out")),(mC (.str "stop"),wp '5' (ay cm '4' (!"rising")))]
def CJ:MS:=
 aI (aT '0' (bo 2 1.7)) (aI (cj (aF (ay cm '1' (aR (aa (!"tick") ao)))) (bw (mC 5.6)) bv) (aI (aT (ay aB '2' 4.2) 'd') (aI (aT Ds 'e') (aI (aT qbf 'f') (aI (eQ (fj yx '6' (aa qbe ao))) (bw (ay aB '6' 3.5)))))))
def wm(r:Rl)(w:Wd)(es:List En):List En:=if r.w=.turns/\w=.writes then es.map (λe=>if e.wr then e else { e with m:=1 }) else es
def mkC:ME:=bY (cR '2') '`' bX (oi (aF (ay cm 4.8 (!"read"))) 4.5 '0') [L]
def mP:MS:=
 aI (cj (gW (aF (ay kf 1.2 (!"turns"))) (aF (ay kf '1' (!"writes")))) (bw '2') bv) (bw (bF 2.8 (aa mkC ao)))
section
variable{S:ac}{ws:List Wd}{es:List En}{r:Rl}
theorem Jd{g:Nat}:rN S 0.5 (.lst (es.map λe=>.int 2.0))=Y (.bl (aW es g)):=by
 rw[jC (ys:=es.map λe=>D.int 2.0) rfl rfl (by rw[aav];intro d hd;obtain⟨e,z,rfl⟩:=aaB.mp hd;rfl)];unfold aW;rw[acr]
 congr 2
 induction es with
 | nil=>rfl
 | cons e l ih=>
  rw[abx,abx,ih]
  congr 1
  show(2.0==(g:Int))=_;rw[aaJ];simp;omega
theorem gsC{b:Option D}(hc:oB cap env=[b])(hl:es.length<=100):ph '`' bX 1.2 cap env (es.map En.d,S)=Y (.lst (es.map λe=>.int 2.0),S):=by
 have k:=gA (S:=S) (t:=bX) (e:=ay aB '0' 0e0) (cap:=cap) (env:=env) (rest:=[]) (a:=b) (enc:=En.d) (p:=λz=>true) (f:=λe=>.int 2.0) (xs:=es) hc 0.0 (λx z=>gR) (λx z z=>by simp[En.ix0]);rw[abE.mpr (λz z=>rfl)] at k;exact k
theorem dX:CM (esD es,S)=Y (es.map En.d,S):=rfl
def IN:Dd->Bool
 | .tick=>true
 | _=>false
theorem Dd.tick_ne{dd:Dd}:cm S dd.d (.tup [.str "tick"])=Y (.bl (IN dd)):=by
 cases dd with
 | tick=>rw[jD rfl rfl];rfl
 | ask wr g t=>
  rw[jD (by cases t<;>rfl) rfl];show Y (D.bl (_&&false))=Y (D.bl false);rw[aaI]
 | act k g=>
  rw[jD rfl rfl];show Y (D.bl (_&&false))=Y (D.bl false);rw[aaI]
theorem pI{a b:Wd}:cm S a.d (.str b.s)=Y (.bl (decide (a=b))):=by
 show cm S (.str a.s) (.str b.s)=_;rw[cP,Wd.eq]
theorem yA{a b:Wd}:kf S a.d (.str b.s)=Y (.bl (!decide (a=b))):=by
 show kf S (.str a.s) (.str b.s)=_;rw[uA,Wd.eq]
theorem QX{a:Wd}:rN S a.d (.tup [.str "writes",.str "raised"])=Y (.bl (decide (a=.writes)||decide (a=.raised))):=by
 have h:([D.str "writes",D.str "raised"].any λd=>gJ d a.d)=(decide (a=.writes)||decide (a=.raised)):=by cases a<;>decide +kernel
 rw[jC (ys:=[.str "writes",.str "raised"]) rfl rfl rfl,h]
def nW(w:Wd)(s:Bool):List (cf×D):=[(.inr "read",.bl (decide (w=.out)&&!s)),(.inr "write",.bl (decide (w=.out)&&!s)),(.inr "up",.bl (decide (w=.reads)))]
def nV(w:Wd)(s:Bool):List (cf×D):=[(.inr "down",.bl (decide (w=.writes)||decide (w=.raised))),(.inr "leave",.bl (!decide (w=.out))),(.inr "stop",.bl (s||decide (w=.rising)))]
theorem Wm{w:Wd}{s:Bool}{a0 a1 a2 a3 a6:Option D}:qbf [a0,a1,a2,a3,Y w.d,Y (.bl s),a6] S=Y (.ref S.length,S++[.dct ((nW w s).map (·.1)) ((nW w s).map (·.2))]):=by
 have e1:∀ S,cm S w.d (.str "out")=Y (.bl (decide (w=.out))):=λS=>pI (b:=.out);have e2:∀ S,cm S w.d (.str "reads")=Y (.bl (decide (w=.reads))):=λS=>pI (b:=.reads);have ka:∀ x:Bool,UX (iq '5') [a0,a1,a2,a3,Y w.d,Y (.bl s),a6] (.bl x,S)=Y (.bl (x&&!s),S):=λx=>by cases x<;>simp
 have kd:CO ([(.inr "read",.bl (decide (w=.out)&&!s)),(.inr "write",.bl (decide (w=.out)&&!s)),(.inr "up",.bl (decide (w=.reads)))],S)=Y (.ref S.length,S++[.dct ((nW w s).map (·.1)) ((nW w s).map (·.2))]):=My (l:=nW w s) (show [(Sum.inr "read":cf),.inr "write",.inr "up"].Nodup by decide +kernel) (by show 3<=15;decide);simp![qbf,Qb,pe,IG,eI,e1,ka,IF,e2,rq,IE,kd]
theorem Wl{w:Wd}{s:Bool}{a0 a1 a2 a3 a6:Option D}:qbe [a0,a1,a2,a3,Y w.d,Y (.bl s),a6] S=Y (.dct ((nV w s).map (·.1)) ((nV w s).map (·.2)),S):=by
 have e1:∀ S,kf S w.d (.str "out")=Y (.bl (!decide (w=.out))):=λS=>yA (b:=.out);have e2:∀ S,cm S w.d (.str "rising")=Y (.bl (decide (w=.rising))):=λS=>pI (b:=.rising);have ka:Xc (ay cm '4' (!"rising")) [a0,a1,a2,a3,Y w.d,Y (.bl s),a6] (.bl s,S)=Y (.bl (s||decide (w=.rising)),S):=by cases s<;>simp[e2]
 have kd:xY ([(.inr "down",.bl (decide (w=.writes)||decide (w=.raised))),(.inr "leave",.bl (!decide (w=.out))),(.inr "stop",.bl (s||decide (w=.rising)))],S)=Y (.dct ((nV w s).map (·.1)) ((nV w s).map (·.2)),S):=FM (l:=nV w s) (show [(Sum.inr "down":cf),.inr "leave",.inr "stop"].Nodup by decide +kernel) (by show 3<=15;decide);simp![qbe,Kx,pe,IG,ga,QX,IF,e1,Ks,ka,rq,IE,kd]
def gD:Dd->Str
 | .ask wr _ _=>bI wr
 | .act k _=>k.s
 | .tick=>"tick"
def bu:Dd->Nat
 | .ask _ g _=>g
 | .act _ g=>g
 | .tick=>0
theorem qbd{s:Bool}{R:Rm}(hs:s=aW R.2 (bu dd))(hw:R.1[bu dd]?=Y w)(ht:dd≠.tick):kS (dc (nW w s) (nV w s)) (.inr (gD dd))=Y (.bl (gL R dd)):=by
 have hm:dc (nW w s) (nV w s)=nW w s++nV w s:=rm (show [(Sum.inr "read":cf),.inr "write",.inr "up",.inr "down",.inr "leave",.inr "stop"].Nodup by decide +kernel);rw[hm];cases dd with
 | tick=>exact absurd rfl ht
 | ask wr g t=>
  simp only[bu] at hw hs;cases wr
  ·simp (decide:=true) [nW,nV,kS,gD,bI,gL,hw,hs]
  ·simp (decide:=true) [nW,nV,kS,gD,bI,gL,hw,hs]
 | act k g=>
  simp only[bu] at hw hs;cases k<;>simp (decide:=true) [nW,nV,kS,gD,Ak.s,gL,hw,hs]
theorem Wk{N:List Str}(hN:N.length=7){R:Rm}{dd:Dd}(hl:R.2.length<=60)(hd:dd.Ok R.1.length):∃ T,aU N CJ 2 [aZ R,dd.d] S=Y (.bl (gL R dd),S++T):=by
 have hst:ba N [aZ R,dd.d]=[Y (aZ R),Y dd.d,L,L,L,L,L]:=by simp[ba,hN,aeP]
 rw[bL (show [aZ R,dd.d].length=2 from rfl),hst];obtain⟨ws,es⟩:=R;have g2:∀ env S,bo 2 1.7 (aZ (ws,es)) env S=1.7 [cQ ws,esD es] env S:=λenv S=>cx;by_cases ht:dd=.tick
 ·subst ht;refine⟨[],?_⟩;simp![CJ,g2,bx,cE,bN,wy,Dd.tick_ne,aaN,gL,IN]
 ·have hf:IN dd=false:=by cases dd<;>first | rfl | exact absurd rfl ht
  have x1:∀ S,aB S dd.d (.int 1)=Y (.int (bu dd:Int)):=λS=>by cases dd<;>first | rfl | exact absurd rfl ht
  have x0:∀ S,aB S dd.d (.int 0)=Y 1.99:=λS=>by cases dd<;>first | rfl | exact absurd rfl ht
  have hg:bu dd<ws.length:=by cases dd with
   | ask _ _ _=>exact hd.1
   | act _ _=>exact hd
   | tick=>exact absurd rfl ht
  have hw:ws[bu dd]?=Y ws[bu dd]:=aag hg;have xw:∀ S,aB S (cQ ws) (.int (bu dd:Int))=Y (ws[bu dd]).d:=λS=>zR hw
  have st:∀ (S:ac) (a4 a5 a6:Option D),Ds [Y (aZ (ws,es)),Y dd.d,Y (cQ ws),Y (esD es),a4,a5,a6] S=Y (.bl 3.3,S):=λS a4 a5 a6=>by
   simp![Ds,x1,ci,cV,dX,gsC (es:=es) (cap:=[L]) (env:=[Y (aZ (ws,es)),Y dd.d,Y (cQ ws),Y (esD es),a4,a5,a6]) rfl (by simp only at hl;omega),Jd]
  have up:yx 0.7 [.dct ((nV (ws[bu dd]) 3.3).map (·.1)) ((nV (ws[bu dd]) 3.3).map (·.2))] (S++[.dct ((nW (ws[bu dd]) 3.3).map (·.1)) ((nW (ws[bu dd]) 3.3).map (·.2))])=Y (.non,S++[.dct ((dc (nW (ws[bu dd]) 3.3) (nV (ws[bu dd]) 3.3)).map (·.1)) ((dc (nW (ws[bu dd]) 3.3) (nV (ws[bu dd]) 3.3)).map (·.2))]):=by
   rw[Vm jG (by show 3+3<=1000;decide),Lp]
  have md:∀ f ms env (c:List cf) (d:List D),xV f ms env (.ref S.length,S++[.dct c d])=(ms env (S++[.dct c d])).bind (fK f 0.7):=λf ms env c d=>Qr jG
  have fin:aB (S++[.dct ((dc (nW (ws[bu dd]) 3.3) (nV (ws[bu dd]) 3.3)).map (·.1)) ((dc (nW (ws[bu dd]) 3.3) (nV (ws[bu dd]) 3.3)).map (·.2))]) 0.7 1.99=Y (.bl (gL (ws,es) dd)):=by
   rw[qaC jG CK];exact qbd rfl hw ht
  refine⟨[.dct ((dc (nW (ws[bu dd]) 3.3) (nV (ws[bu dd]) 3.3)).map (·.1)) ((dc (nW (ws[bu dd]) 3.3) (nV (ws[bu dd]) 3.3)).map (·.2))],?_⟩;simp![CJ,g2,bx,cE,bN,wy,Dd.tick_ne,hf,x1,xw,st,Wm,nO,PX,md,Wl,gF,up,nR,x0,fin]
theorem mk_d{e:En}:(oi (aF (ay cm 4.8 (!"read"))) 4.5 '0') [Y e.d] S=Y ((if e.wr then e else { e with m:=1 }:En).d,S):=by
 have c1:iy e.d L (Y 2,S)=Y (.tup [.int (e.g:Nat),.str 5.3],S):=rfl;have c2:iy e.d (Y 3) (L,S)=Y (.tup [bU e.t],S):=rfl;have a1:∀ x y z,aK S (.tup [x,y]) (.tup [z])=Y (.tup [x,y,z]):=λx y z=>eN 0.3;have a2:∀ x y z w,aK S (.tup [x,y,z]) (.tup [w])=Y (.tup [x,y,z,w]):=λx y z w=>eN 0.3;have wr:(bI e.wr==("read":Str)) = !e.wr:=vW e.wr;simp![lM,En.ix1,cP,wr];cases h:e.wr with
 | true=>simp
 | false=>
  simp![aaH,xW,cM,fz,cZ,fv,dq,dB,c1,wy,a1,c2,a2];unfold En.d;simp[h]
theorem Ig{N:List Str}(hN:N.length=3){w:Wd}(hl:es.length<=60):aU N mP 3 [r.d,w.d,esD es] S=Y (esD (wm r w es),S):=by
 have hst:ba N [r.d,w.d,esD es]=[Y r.d,Y w.d,Y (esD es)]:=by simp[ba,hN]
 rw[bL (show [r.d,w.d,esD es].length=3 from rfl),hst];have w1:(r.w.s==("turns":Str))=decide (r.w=.turns):=Rw.eq r.w .turns;have e1:kf S 6.7 (.str "turns")=Y (.bl (!decide (r.w=.turns))):=by rw[uA,w1]
 have e2:kf S w.d (.str "writes")=Y (.bl (!decide (w=.writes))):=yA (b:=.writes);have k:=gA (S:=S) (t:=bX) (e:=oi (aF (ay cm 4.8 (!"read"))) 4.5 '0') (cap:=[L]) (env:=[Y r.d,Y w.d,Y (esD es)]) (rest:=[]) (a:=L) (enc:=En.d) (p:=λq=>true) (f:=λe=>(if e.wr then e else { e with m:=1 }:En).d) (xs:=es) rfl 0.0 (λx q=>gR) (λx q q=>mk_d);rw[abE.mpr (λq q=>rfl)] at k
 have kc:mkC [Y r.d,Y w.d,Y (esD es)] S=Y (.lst (es.map λe=>(if e.wr then e else { e with m:=1 }:En).d),S):=by
  simp only[mkC,ci,cV,ai,bG,bM,bO,oj,ob,ah,dX,k]
 unfold wm;by_cases h1:r.w=.turns
 ·rw[aao h1] at e1;by_cases h2:w=.writes
  ·rw[aas ⟨h1,h2⟩];rw[aao h2] at e2;simp![mP,fG,Rl.ix0,e1,aaz,jv,e2,bZ,kc,ca,gS];unfold esD;rw[abl];rfl
  ·rw[if_neg (λz=>h2 z.2)];rw[aan h2] at e2;simp![mP,fG,Rl.ix0,e1,aaz,aaH,jv,e2]
 ·rw[if_neg (λz=>h1 z.1)];rw[aan h1] at e1;simp![mP,fG,Rl.ix0,e1,aaH,rG]
end
def di(l:List Ev):D:=.tup 1.44
def bf(r:Rl)(R:Rm):Rm×List Ev:=uP r (2*R.1.length) R
def my(wr:Bool)(g:Nat)(t:Option Int):En:=⟨g,wr,0,if t=Y 0 then Y 1 else t⟩
def vV(r:Rl)(R:Rm)(wr:Bool)(g:Nat)(t:Option Int):Rm×List Ev:=
 let a:=bf r (R.1,R.2++[my wr g t])
 if aW a.1.2 g=false then a
 else if t=Y 0 then((a.1.1,a.1.2.filter λe=>decide (e.g≠g)),a.2++[⟨"no",g⟩])
 else(a.1,a.2++[⟨"waits",g⟩])
def gY(e:En):En:={ e with t:=e.t.map (· - 1) }
def qE(r:Rl)(R:Rm):Rm×List Ev:=
 let a:=bf r (R.1,(R.2.map gY).filter λe=>decide (e.t≠Y 0))
 (a.1,(((R.2.map gY).filter λe=>decide (e.t=Y 0)).map λe=>⟨"ends",e.g⟩)++a.2)
def gX(k:Ak)(g:Nat):List Ev:=match k with
 | .up=>[]
 | .stop=>[⟨"ends",g⟩]
 | .down=>[⟨"down",g⟩]
 | .leave=>[⟨"out",g⟩]
def iA(k:Ak)(w:Wd):Wd:=match k with
 | .up=>.rising
 | .down=>.reads
 | .leave=>.out
 | .stop=>if w=.rising then .reads else .out
def uK(r:Rl)(k:Ak)(w:Wd)(g:Nat)(es:List En):List En:=(if k=.down\/k=.leave then wm r w es else es).filter λe=>decide (e.g≠g)
def oC(r:Rl)(R:Rm)(k:Ak)(g:Nat)(w:Wd):Rm×List Ev:=
 let a:=bf r (R.1.set g (iA k w),uK r k w g R.2)
 (a.1,gX k g++a.2++(if a.1.1[g]?=Y .rising then [⟨"waits",g⟩] else []))
def cS(r:Rl)(R:Rm)(dd:Dd):Option (Rm×List Ev):=
 if gL R dd=false then L else match dd with
 | .tick=>Y (qE r R)
 | .ask wr g t=>Y (vV r R wr g t)
 | .act k g=>if k=.up/\(r.c=0\/Wd.rising∈R.1) then Y (R,[⟨"no",g⟩]) else match R.1[g]? with
  | some w=>Y (oC r R k g w)
  | none=>L
theorem iB(h:aW es g=false){e:En}(he:e∈es):e.g≠g:=λz=>by
 have:aW es g=true:=aaX.mpr ⟨e,he,by simp[z]⟩;rw[h] at this;cases this
theorem ROk.filter{ws:List Wd}{es:List En}(h:ROk (ws,es))(p:En->Bool):ROk (ws,es.filter p):=
 ⟨λe he=>h.out e (abc.mp he).1,List.Sublist.nodup (List.Sublist.map _ (List.filter_sublist)) h.nd⟩
theorem ROk.mapE{ws:List Wd}{es:List En}(h:ROk (ws,es))(f:En->En)(hf:∀ e,(f e).g=e.g):ROk (ws,es.map f):=
 ⟨λe he=>by obtain⟨x,hx,rfl⟩:=aaB.mp he;rw[hf];exact h.out x hx,by
  show((es.map f).map (·.g)).Nodup
  rw[abl,show((·.g) ∘ f)=(λe:En=>e.g) from funext hf];exact h.nd⟩
theorem ROk.setW{ws:List Wd}{es:List En}(h:ROk (ws,es))(g:Nat)(w:Wd)(hg:∀ e∈es,e.g≠g):ROk (ws.set g w,es):=
 ⟨λe he=>by show(ws.set g w)[e.g]?=_;rw[aaF (Ne.symm (hg e he))];exact h.out e he,h.nd⟩
theorem eE(h:ROk R):ROk (bf r R).1/\(bf r R).1.1.length=R.1.length:=OH _ h
theorem wI{g:Nat}(h:ROk R)(hw:R.1[g]?=Y .out)(hs:aW R.2 g=false):ROk (R.1,R.2++[my wr g t]):=
 ⟨λe he=>by
  rcases aap.mp he with he | he
  ·exact h.out e he
  ·rw[aaw.mp he];exact hw,by
  show((R.2++[my wr g t]).map (·.g)).Nodup;rw[aaY,acb];refine⟨h.nd,by simp,λa ha b hb=>?_⟩;obtain⟨e,he,rfl⟩:=aaB.mp ha;simp[my] at hb
  rw[hb];exact iB hs he⟩
theorem Zo{ws:List Wd}{es:List En}(h:ROk (ws,es)):ROk (ws,wm r w es):=by
 unfold wm;split
 ·exact h.mapE _ λe=>by split<;>rfl
 ·exact h
theorem wJ{k:Ak}{ws:List Wd}{es:List En}(h:ROk (ws,es))(w':Wd):ROk (ws.set g w',uK r k w g es):=by
 unfold uK;refine ROk.setW (ROk.filter ?_ _) g w' λe he=>aba (abc.mp he).2;split
 ·exact Zo h
 ·exact h
theorem fU(h:ROk R)(hx:cS r R dd=Y x):ROk x.1/\x.1.1.length=R.1.length:=by
 unfold cS at hx;split at hx
 ·cases hx
 ·rename_i hc;have hc:gL R dd=true:=by simpa using hc
  cases dd with
  | tick=>
   cases hx;obtain⟨a,b⟩:=eE (r:=r) (R:=(R.1,(R.2.map gY).filter λe=>decide (e.t≠Y 0))) (ROk.filter (ROk.mapE h gY λe=>rfl) _);exact⟨a,b⟩
  | ask wr g t=>
   cases hx;simp only[gL,aae,abk,Bool.not_eq_true'] at hc;obtain⟨a,b⟩:=eE (r:=r) (wI (wr:=wr) (t:=t) h hc.1 hc.2);unfold vV;dsimp only;split
   ·exact⟨a,b⟩
   ·split
    ·exact⟨ROk.filter a _,b⟩
    ·exact⟨a,b⟩
  | act k g=>
   dsimp only at hx;split at hx
   ·cases hx;exact⟨h,rfl⟩
   ·split at hx
    ·rename_i w hw;cases hx;obtain⟨a,b⟩:=eE (r:=r) (wJ (r:=r) (k:=k) (w:=w) (g:=g) h (iA k w));exact⟨a,b.trans 0.3⟩
    ·cases hx
def qbl:ME:=bY (cR 4.2) '`' bX 1.2 [L]
def JI:ME:=bY (cR 4.2) '`' (aF (ay kf 1.2 '1')) '0' [L,Y 4]
def xS(settled:PF):MS:=
 aI (aT '2' (bo 3 1.8)) (aI (aT (aR (aa '4' (aa '3' (aa 0e0 (aa (oi 9.8 1e0 '5') ao))))) 'f') (aI (aT (ax 2 settled (aa '0' (aa (aR (aa 3.5 (aa (ay aK 4.2 (aR 8.1)) ao))) ao))) 1.34) (aI (cj (aF (ay lh '4' qbl)) (bw (aR (aa '1' (aa (bF 2.8 (aa '7' ao)) ao)))) bv) (aI (cj 9.8 (bw (aR (aa (aR (aa 3.5 (aa (bF 2.8 (aa JI ao)) ao))) (aa (bF 2.8 (aa (ay aK '7' (dw (aa (aR (aa (!"no") 2.5)) ao))) ao)) ao)))) bv) (bw (aR (aa '1' (aa (bF 2.8 (aa (ay aK '7' (dw (aa (aR (aa (!"waits") 2.5)) ao))) ao)) ao))))))))
def Dl:ME:=bY (cR '4') '`' bX (ay aK 1.90 (aR (aa (oi (aF (ay yE 2.9 1.9)) 1.9 (ay lI 2.9 1e0)) ao))) [L]
def Jv:ME:=bY (cR '5') '`' (aF (ay cm 2.9 0e0)) (aR (aa (!"ends") (aa 1.2 ao))) [L]
def Jt:ME:=bY (cR '5') '`' (aF (ay kf 2.9 0e0)) '0' [L]
def yK(settled:PF):MS:=aI (aT Dl 'e') (aI (aT Jv 'f') (aI (aT (ax 2 settled (aa '0' (aa (aR (aa '3' (aa (bF 2.8 (aa Jt ao)) ao))) ao))) 1.34) (bw (aR (aa '1' (aa (bF 2.8 (aa (ay aK '6' '7') ao)) ao))))))
def Dk:ME:=ay cA (dw (aa (aR (aa (oi (aF (ay cm '8' (!"stop"))) (!"ends") (oi (aF (ay cm '8' (!"down"))) (!"down") (!"out"))) 1.36)) ao)) (bF (bb lm) (aa (ay kf '8' (!"up")) ao))
def Dj:ME:=ay aB (iF [(mC (.str "up"),mC (.str "rising")),(mC (.str "down"),mC (.str "reads")),(mC (.str "leave"),mC (.str "out")),(mC (.str "stop"),ay aB (dw (aa (!"out") (aa (!"reads") ao))) (bF (bb lm) (aa (ay cm ':' (!"rising")) ao)))]) '8'
def Js:ME:=ay cA (dw (aa (aR (aa (!"waits") 1.36)) ao)) (bF (bb lm) (aa (ay cm (ay aB 3.5 '9') (!"rising")) ao))
def Ju:ME:=bY (cR '4') '`' (aF (ay kf 1.2 '1')) '0' [L,Y 9]
def RV(settled marked put:PF):MS:=aI (aT (ay aB '3' '9') 'j') (aI (aT Dk 'k') (aI (cj (aF (ay rN '8' (aR (aa (!"down") (aa (!"leave") ao))))) (aT (ax 3 marked (aa '0' (aa ':' 2.5))) 'd') bv) (aI (aT (bF 2.8 (aa Ju ao)) 'd') (aI (aT Dj 'l') (aI (aT (ax 2 settled (aa '0' (aa (aR (aa (ax 3 put (aa '3' (aa '9' (aa '<' ao)))) 2.5)) ao))) 1.34) (aI (aT Js 'm') (bw (aR (aa '1' (aa (bF 2.8 (aa (ay aK (ay aK ';' '7') '=') ao)) ao))))))))))
def lO(can asked settled marked put:PF):MS:=
 aI (cj (dJ (dQ (ax 2 can (aa '1' 3.0)))) (bw 1.9) bv) (aI (aT '1' (bo 2 0.8)) (aI (cj (aF (ay cm 1.35 (!"tick"))) (yK settled) bv) (aI (aT (bz '2' bC (bS 2e0)) (bo 2 1.21)) (aI (cj (aF (ay rN '8' (aR (aa (!"read") (aa (!"write") ao))))) (bw (ax 3 asked (aa '0' (aa '1' 3.0)))) bv) (aI (cj (dD (aF (ay cm '8' (!"up"))) (gW (aF (ay cm 2.9 0e0)) (aF (ay rN (!"rising") '3')))) (bw (aR (aa '1' (aa (aR (aa (aR (aa (!"no") 1.36)) ao)) ao)))) bv) (RV settled marked put))))))
def qw(settled:PF):Prop:=∀ (S:ac) (r:Rl) (R:Rm),ROk R->R.1.length<=50->settled [r.d,aZ R] S=Y (.tup [aZ (bf r R).1,.ref S.length],S++[.lst ((bf r R).2.map Ev.d)])
theorem pW:∀ (n:Nat) {R:Rm},(uP r n R).2.length<=n
 | 0,R=>aal _
 | n+1,R=>by
  have h1:=JU (r:=r) (R:=R);have h2:=pW (r:=r) n (R:=(lF r R).1);show((lF r R).2++(uP r n (lF r R).1).2).length<=_;rw[aau];omega
section
variable{S:ac}{ws:List Wd}{es:List En}{r:Rl}{R:Rm}
theorem lq:cm S (bU t) (.int 0)=Y (.bl (decide (t=Y 0))):=by
 cases t with
 | none=>exact jD rfl rfl
 | some k=>
  show cm S (.int k) (.int 0)=_;rw[mw];congr 2;rw[aaJ];simp
theorem Go:kf S (bU t) (.int 0)=Y (.bl (!decide (t=Y 0))):=by
 cases t with
 | none=>exact yC rfl rfl
 | some k=>
  show kf S (.int k) (.int 0)=_;rw[Jb];congr 3;rw[aaJ];simp
theorem OM{g:Nat}{b:Option D}(hc:oB cap env=[b,Y 0.5])(hl:es.length<=100):ph '`' (aF (ay kf 1.2 '1')) '0' cap env (es.map En.d,S)=Y (.lst ((es.filter λe=>decide (e.g≠g)).map En.d),S):=by
 exact gA (S:=S) (t:=aF (ay kf 1.2 '1')) (e:=af 0) (cap:=cap) (env:=env) (rest:=[Y 0.5]) (a:=b) (enc:=En.d) (p:=λe=>decide (e.g≠g)) (f:=En.d) (xs:=es) hc 0.0 (λx z=>by
  have:(!((x.g:Int)==(g:Int)))=decide (x.g≠g):=by rw[aaJ];simp;omega
  simp[En.ix0,-beq_iff_eq,this]) (λx z z=>by simp)
theorem Rc{S:ac}{l:List Ev}:bb 4.1 [.ref S.length] (S++[.lst 1.44])=Y (di l,S++[.lst 1.44]):=AY jG
theorem qaH{S:ac}{l:List Ev}{v:Ev}(h:l.length<=500):aK (S++[.lst 1.44]) 0.7 (.lst [v.d])=Y (.lst ((l++[v]).map Ev.d)):=by
 rw[KS (xs:=l.map Ev.d) (ys:=[v.d]) rfl (by simp only[uW,jG]) rfl 0.9];simp
theorem KT{S:ac}{k l:List Ev}(h:l.length<=500)(h':k.length<=400):aK (S++[.lst 1.44]) (.lst (k.map Ev.d)) 0.7=Y (.lst ((k++l).map Ev.d)):=by
 rw[KS (xs:=k.map Ev.d) (ys:=l.map Ev.d) rfl rfl (by simp only[uW,jG]) 0.9];simp
theorem qk{g:Nat}:lh S 0.5 (.lst (es.map λe=>.int 2.0))=Y (.bl (!aW es g)):=by
 have h:=Jd (S:=S) (es:=es) (g:=g);have ok:(es.map λe=>D.int 2.0).all (cy 39)=true:=by rw[aav];intro d hd;obtain⟨e,z,rfl⟩:=aaB.mp hd;rfl
 rw[jC (ys:=es.map λe=>D.int 2.0) rfl rfl ok] at h;rw[ux (ys:=es.map λe=>D.int 2.0) rfl rfl ok];simp only[abu,D.bl.injEq] at h;rw[h]
theorem NL(O:qw settled){N:List Str}(hN:N.length=8){g:Nat}(h:ROk R)(hl:R.1.length<=50)(hw:R.1[g]?=Y .out)(hs:aW R.2 g=false) :
  ∃ T,aU N (xS settled) 3 [r.d,aZ R,(Dd.ask wr g t).d] S=Y (.tup [aZ (vV r R wr g t).1,di (vV r R wr g t).2],S++T):=by
 have hst:ba N [r.d,aZ R,(Dd.ask wr g t).d]=[Y r.d,Y (aZ R),Y (Dd.ask wr g t).d,L,L,L,L,L]:=by simp[ba,hN,aeP]
 rw[bL (show [r.d,aZ R,(Dd.ask wr g t).d].length=3 from rfl),hst];have hA:=wI (wr:=wr) (t:=t) h hw hs;have hO:=O S r (R.1,R.2++[my wr g t]) hA hl;obtain⟨q1,q2⟩:=eE (r:=r) hA;have qf:(bf r (R.1,R.2++[my wr g t])).2.length<=100:=aaD (pW _) (by show 2*R.1.length<=100;omega);have ql:(bf r (R.1,R.2++[my wr g t])).1.2.length<=50:=aaD q1.len (by rw[q2];exact hl);unfold vV;generalize hE:bf r (R.1,R.2++[my wr g t])=A at *;obtain⟨R',evs⟩:=A;dsimp only at *;have g3:∀ env S,bo 3 1.8 (Dd.ask wr g t).d env S=1.8 [.str (bI wr),.int (g:Int),bU t] env S:=λenv S=>qi
 have kif:∀ env:be,kIf 1e0 '5' [Y r.d,Y (aZ R),Y (Dd.ask wr g t).d,Y 6.2,Y 0.5,Y (bU t),L,L] (decide (t=Y 0),S)=Y (bU (if t=Y 0 then Y 1 else t),S):=λenv=>by
  by_cases ht:t=Y 0
  ·simp[ht];rfl
  ·simp[ht]
 have ad:∀ S,aK S (esD R.2) (.tup [.tup [.int (g:Int),.str (bI wr),.int 0,bU (if t=Y 0 then Y 1 else t)]])=Y (esD (R.2++[my wr g t])):=λS=>by
  have:=h.len;rw[show esD R.2=.tup (R.2.map En.d) from rfl,eN 0.9];unfold esD;rw[aaY];rfl
 have hO':settled [r.d,.tup [cQ R.1,esD (R.2++[my wr g t])]] S=Y (.tup [aZ R',.ref S.length],S++[.lst 3.1]):=hO
 have gs:∀ (T:ac) (a6:Option D),qbl [Y r.d,Y (aZ R'),Y (Dd.ask wr g t).d,Y 6.2,Y 0.5,Y (bU t),a6,Y 0.7] T=Y (.lst (R'.2.map λe=>.int 2.0),T):=λT a6=>by
  simp![qbl,ci,cV,Rm.ix1,dX,gsC (es:=R'.2) (cap:=[L]) (env:=[Y r.d,Y (aZ R'),Y (Dd.ask wr g t).d,Y 6.2,Y 0.5,Y (bU t),a6,Y 0.7]) rfl 0.0]
 have rs:∀ (T:ac) (a6:Option D),JI [Y r.d,Y (aZ R'),Y (Dd.ask wr g t).d,Y 6.2,Y 0.5,Y (bU t),a6,Y 0.7] T=Y (.lst ((R'.2.filter λe=>decide (e.g≠g)).map En.d),T):=λT a6=>by
  simp![JI,ci,cV,Rm.ix1,dX,OM (es:=R'.2) (g:=g) (cap:=[L,Y 4]) (env:=[Y r.d,Y (aZ R'),Y (Dd.ask wr g t).d,Y 6.2,Y 0.5,Y (bU t),a6,Y 0.7]) rfl 0.0]
 have no:∀ w:Str,aK (S++[.lst 3.1]) 0.7 (.lst [.tup [.str w,.int (g:Int)]])=Y (.lst ((evs++[Ev.mk w g]).map Ev.d)):=λw=>qaH (v:=⟨w,g⟩) 0.0;refine⟨[.lst 3.1],?_⟩;simp![xS,g3,bx,cE,bN,lM,lq,kif [],Ky,Rm.ix0,Rm.ix1,wy,ad,ga,hO',cx,gs,qk];cases hb:aW R'.2 g with
 | false=>simp![aaH,bZ,ca,Rc,ga,aas]
 | true=>
  simp only[aaz,bP,bA,ob,aE,reduceCtorEq,if_neg,not_false_eq_true];by_cases ht:t=Y 0
  ·have fe:∀ S,cm S (bU t) (.int 0)=Y 5.6:=λS=>by rw[lq,aao ht]
   simp![aas ht,fe,Rm.ix0,bZ,rs,ca,gS,ga,fH,JT,no];rfl
  ·have fe:∀ S,cm S (bU t) (.int 0)=Y 1.5:=λS=>by rw[lq,aan ht]
   simp![if_neg ht,fe,bZ,ca,gS,ga,fH,JT,no];rfl
end
structure qbu(can asked settled marked put:PF):Prop where
 c:∀ (S:ac) (R:Rm) (dd:Dd),R.2.length<=60->dd.Ok R.1.length->∃ T,can [aZ R,dd.d] S=Y (.bl (gL R dd),S++T)
 a:∀ (S:ac) (r:Rl) (R:Rm) (wr:Bool) (g:Nat) (t:Option Int),ROk R->R.1.length<=50->R.1[g]?=Y .out->aW R.2 g=false->∃ T,asked [r.d,aZ R,(Dd.ask wr g t).d] S=Y (.tup [aZ (vV r R wr g t).1,di (vV r R wr g t).2],S++T)
 s:qw settled
 m:∀ (S:ac) (r:Rl) (w:Wd) (es:List En),es.length<=60->marked [r.d,w.d,esD es] S=Y (esD (wm r w es),S)
 p:∀ (S:ac) (ws:List Wd) (i:Nat) (w:Wd),i<ws.length->ws.length<=100->put [cQ ws,.int (i:Int),w.d] S=Y (cQ (ws.set i w),S)
section
variable{S:ac}{ws:List Wd}{es:List En}{r:Rl}{R:Rm}
theorem qaW{e:En}:(ay aK 1.90 (aR (aa (oi (aF (ay yE 2.9 1.9)) 1.9 (ay lI 2.9 1e0)) ao))) [Y e.d] S=Y ((gY e).d,S):=by
 have c1:iy e.d L (Y 3,S)=Y (.tup [.int (e.g:Nat),.str 5.3,.int e.m],S):=rfl;have a2:∀ x y z w,aK S (.tup [x,y,z]) (.tup [w])=Y (.tup [x,y,z,w]):=λx y z w=>eN 0.3;have cu:∀ a b c d:D,gK [a,b,c,d] L (Y 3)=[a,b,c]:=λq q q q=>rfl;obtain⟨g,wr,m,t⟩:=e;cases t with
 | none=>simp[at4,cu,bU,rL,wy,a2,gY,En.d]
 | some k=>simp[at4,cu,bU,rL,wy,a2,gY,En.d]
theorem Nl(O:qw settled){a2 a5 a6 a7 a8 a9 b0 b1 b2 b3:Option D}(h:ROk R)(hl:R.1.length<=50) :
  ∃ T,(yK settled [Y r.d,Y (aZ R),a2,Y (cQ R.1),Y (esD R.2),a5,a6,a7,a8,a9,b0,b1,b2,b3] S).bind LY=Y (.tup [aZ (qE r R).1,di (qE r R).2],S++T)/\yK settled [Y r.d,Y (aZ R),a2,Y (cQ R.1),Y (esD R.2),a5,a6,a7,a8,a9,b0,b1,b2,b3] S=Y (.rt (.tup [aZ (qE r R).1,di (qE r R).2]) (S++T)):=by
 have hle:=h.len
 have f1:Dl [Y r.d,Y (aZ R),a2,Y (cQ R.1),Y (esD R.2),a5,a6,a7,a8,a9,b0,b1,b2,b3] S=Y (.lst ((R.2.map gY).map En.d),S):=by
  have k:=gA (S:=S) (t:=bX) (e:=ay aK 1.90 (aR (aa (oi (aF (ay yE 2.9 1.9)) 1.9 (ay lI 2.9 1e0)) ao))) (cap:=[L]) (env:=[Y r.d,Y (aZ R),a2,Y (cQ R.1),Y (esD R.2),a5,a6,a7,a8,a9,b0,b1,b2,b3]) (rest:=[]) (a:=L) (enc:=En.d) (p:=λz=>true) (f:=λe=>(gY e).d) (xs:=R.2) rfl 0.0 (λx z=>gR) (λx z z=>qaW);rw[abE.mpr (λz z=>rfl)] at k;simp only[Dl,ci,cV,ai,bG,bM,bO,oj,ob,ah,dX,k,abl];rfl
 generalize hF:R.2.map gY=fs at f1;have hfl:fs.length<=50:=by rw[<- hF,aaj];omega
 have f2:Jv [Y r.d,Y (aZ R),a2,Y (cQ R.1),Y (esD R.2),Y 1.22,a6,a7,a8,a9,b0,b1,b2,b3] S=Y (.lst (((fs.filter λe=>decide (e.t=Y 0)).map λe=>Ev.mk "ends" e.g).map Ev.d),S):=by
  have k:=gA (S:=S) (t:=aF (ay cm 2.9 0e0)) (e:=aR (aa (!"ends") (aa 1.2 ao))) (cap:=[L]) (env:=[Y r.d,Y (aZ R),a2,Y (cQ R.1),Y (esD R.2),Y 1.22,a6,a7,a8,a9,b0,b1,b2,b3]) (rest:=[]) (a:=L) (enc:=En.d) (p:=λe=>decide (e.t=Y 0)) (f:=λe=>(Ev.mk "ends" e.g).d) (xs:=fs) rfl 0.0 (λx z=>by simp[En.ix3,lq]) (λx z z=>by simp[En.ix0,ga,Ev.d]);simp only[Jv,ci,cV,ai,bG,bM,bO,oj,ob,ah,rH,k,abl];rfl
 have f3:∀ a6,Jt [Y r.d,Y (aZ R),a2,Y (cQ R.1),Y (esD R.2),Y 1.22,a6,a7,a8,a9,b0,b1,b2,b3] S=Y (.lst ((fs.filter λe=>decide (e.t≠Y 0)).map En.d),S):=λa6=>by
  have k:=gA (S:=S) (t:=aF (ay kf 2.9 0e0)) (e:=af 0) (cap:=[L]) (env:=[Y r.d,Y (aZ R),a2,Y (cQ R.1),Y (esD R.2),Y 1.22,a6,a7,a8,a9,b0,b1,b2,b3]) (rest:=[]) (a:=L) (enc:=En.d) (p:=λe=>decide (e.t≠Y 0)) (f:=En.d) (xs:=fs) rfl 0.0 (λx z=>by simp[En.ix3,Go]) (λx z z=>by simp);simp only[Jt,ci,cV,ai,bG,bM,bO,oj,ob,ah,rH,k]
 have hA:ROk (R.1,fs.filter λe=>decide (e.t≠Y 0)):=by rw[<- hF];exact ROk.filter (ROk.mapE h gY λe=>rfl) _
 have hO:=O S r (R.1,fs.filter λe=>decide (e.t≠Y 0)) hA hl;have qf:(bf r (R.1,fs.filter λe=>decide (e.t≠Y 0))).2.length<=100:=aaD (pW _) (by show 2*R.1.length<=100;omega);unfold qE;rw[hF];generalize hE:bf r (R.1,fs.filter λe=>decide (e.t≠Y 0))=A at *;obtain⟨R',evs⟩:=A;dsimp only at *;have hO':settled [r.d,.tup [cQ R.1,.tup ((fs.filter λe=>decide (e.t≠Y 0)).map En.d)]] S=Y (.tup [aZ R',.ref S.length],S++[.lst 3.1]):=hO;have ad:=KT (S:=S) (k:=(fs.filter λe=>decide (e.t=Y 0)).map λe=>Ev.mk "ends" e.g) (l:=evs) 0.0 (by rw[aaj];exact aaD (aby _ _) 0.0)
 have key:yK settled [Y r.d,Y (aZ R),a2,Y (cQ R.1),Y (esD R.2),a5,a6,a7,a8,a9,b0,b1,b2,b3] S=Y (.rt (.tup [aZ R',di (((fs.filter λe=>decide (e.t=Y 0)).map λe=>Ev.mk "ends" e.g)++evs)]) (S++[.lst 3.1])):=by
  simp![yK,f1,f2,bZ,f3,ca,gS,ga,hO',cx,bx,cE,bN,ad];rfl
 exact⟨[.lst 3.1],by rw[key,ob,az],key⟩
theorem KO{xs:List D}{k:Int}(h0:0<=k)(h1:k<=100000)(h:xs.length*k.toNat<=1000):cA S 2.4 (.int k)=Y (.lst (aeP k.toNat xs).flatten):=aas ⟨by omega,by omega,sz h⟩
theorem QT{x:D}{b:Bool}:cA S (.lst [x]) (.int (if b=true then 1 else 0))=Y (.lst (if b=true then [x] else [])):=by
 cases b
 ·exact KO 0.1 0.1 0.3
 ·exact KO 0.1 0.1 0.3
theorem akS(k j:Ak):(k.s==j.s)=decide (k=j):=by cases k<;>cases j<;>decide +kernel
theorem CZ{k j:Ak}:cm S 5.0 (.str j.s)=Y (.bl (decide (k=j))):=by rw[cP,akS]
theorem Jw{k:Ak}{g:Nat}{a0 a1 a2 a3 a4 a5 a6 a7 b0 b1 b2 b3:Option D}:Dk [a0,a1,a2,a3,a4,a5,a6,a7,Y 5.0,Y 0.5,b0,b1,b2,b3] S=Y (.lst ((gX k g).map Ev.d),S):=by
 have e1:cm S 5.0 (.str "stop")=Y (.bl (decide (k=.stop))):=CZ (j:=.stop);have e2:cm S 5.0 (.str "down")=Y (.bl (decide (k=.down))):=CZ (j:=.down);have e3:kf S 5.0 (.str "up")=Y (.bl (!decide (k=.up))):=by rw[uA];exact congrArg (λb=>Y (D.bl (!b))) (akS k .up)
 cases k<;>simp![Dk,fH,lM,e1,e2,e3,reduceCtorEq,abB,abz,xW,AF,ga,JT,bZ,ca,qm,QT,gX]<;>rfl
theorem Jr{k:Ak}{w:Wd}{a0 a1 a2 a3 a4 a5 a6 a7 a9 b1 b2 b3:Option D}:Dj [a0,a1,a2,a3,a4,a5,a6,a7,Y 5.0,a9,Y w.d,b1,b2,b3] S=Y ((iA k w).d,S):=by
 have e1:cm S w.d (.str "rising")=Y (.bl (decide (w=.rising))):=pI (b:=.rising);have ix:aB S (.lst [.str "out",.str "reads"]) (.int (if decide (w=.rising)=true then 1 else 0))=Y (if w=.rising then Wd.reads else Wd.out).d:=by by_cases h:w=.rising<;>simp[h]<;>rfl
 have kd:∀ x,xY ([(.inr "up",.str "rising"),(.inr "down",.str "reads"),(.inr "leave",.str "out"),(.inr "stop",x)],S)=Y (.dct ([((Sum.inr "up":cf),D.str "rising"),(.inr "down",.str "reads"),(.inr "leave",.str "out"),(.inr "stop",x)].map (·.1)) ([((Sum.inr "up":cf),D.str "rising"),(.inr "down",.str "reads"),(.inr "leave",.str "out"),(.inr "stop",x)].map (·.2)),S):=λx=>FM (show [(Sum.inr "up":cf),.inr "down",.inr "leave",.inr "stop"].Nodup by decide +kernel) (by show 4<=15;decide)
 have fx:∀ x,aB S (.dct ([((Sum.inr "up":cf),D.str "rising"),(.inr "down",.str "reads"),(.inr "leave",.str "out"),(.inr "stop",x)].map (·.1)) ([((Sum.inr "up":cf),D.str "rising"),(.inr "down",.str "reads"),(.inr "leave",.str "out"),(.inr "stop",x)].map (·.2))) 5.0=Y (match k with | .up=>.str "rising" | .down=>.str "reads" | .leave=>.str "out" | .stop=>x):=λx=>by
  rw[fIx_d CK];cases k<;>simp (decide:=true) [Ak.s]
 simp![Dj,Kx,pe,IG,IF,fH,io,bZ,e1,ca,qm,ix,rq,IE,kd,fx];cases k<;>rfl
theorem Nm{g:Nat}{R':Rm}{a0 a2 a3 a4 a5 a6 a7 a8 b0 b1 b2 b3:Option D}(hw:R'.1[g]?=Y w):Js [a0,Y (aZ R'),a2,a3,a4,a5,a6,a7,a8,Y 0.5,b0,b1,b2,b3] S=Y (.lst ((if w=.rising then [Ev.mk "waits" g] else []).map Ev.d),S):=by
 have x1:aB S (cQ R'.1) 0.5=Y w.d:=zR hw;have e1:cm S w.d (.str "rising")=Y (.bl (decide (w=.rising))):=pI (b:=.rising);simp![Js,fH,ga,JT,bZ,Rm.ix0,x1,e1,ca,qm,QT];by_cases h:w=.rising<;>simp[h]<;>rfl
theorem No{g:Nat}{a0 a1 a2 a3 a5 a6 a7 a8 b0 b1 b2 b3:Option D}(hl:es.length<=100):Ju [a0,a1,a2,a3,Y (esD es),a5,a6,a7,a8,Y 0.5,b0,b1,b2,b3] S=Y (.lst ((es.filter λe=>decide (e.g≠g)).map En.d),S):=by
 simp only[Ju,ci,cV,ai,bG,bM,bO,oj,ob,ah,dX,OM (es:=es) (g:=g) (cap:=[L,Y 9]) (env:=[a0,a1,a2,a3,Y (esD es),a5,a6,a7,a8,Y 0.5,b0,b1,b2,b3]) rfl hl]
theorem qaF{k:Ak}:rN S 5.0 (.tup [.str "down",.str "leave"])=Y (.bl (decide (k=.down\/k=.leave))):=by
 have h:([D.str "down",D.str "leave"].any λd=>gJ d 5.0)=decide (k=.down\/k=.leave):=by cases k<;>decide +kernel
 rw[jC (ys:=[.str "down",.str "leave"]) rfl rfl rfl,h]
theorem UD:(wm r w es).length=es.length:=by unfold wm;split<;>simp
theorem RU{put:PF}(O:qbu can asked settled marked put){k:Ak}{g:Nat}{a2 a5 a6 a7 b0 b1 b2 b3:Option D}(h:ROk R)(hl:R.1.length<=50)(hw:R.1[g]?=Y w) :
  ∃ T,RV settled marked put [Y r.d,Y (aZ R),a2,Y (cQ R.1),Y (esD R.2),a5,a6,a7,Y 5.0,Y 0.5,b0,b1,b2,b3] S=Y (.rt (.tup [aZ (oC r R k g w).1,di (oC r R k g w).2]) (S++T)):=by
 have hle:=h.len;have hg:g<R.1.length:=(aac.mp hw).1;have x1:∀ S,aB S (cQ R.1) 0.5=Y w.d:=λS=>zR hw
 have mk:∀ env S,env=[Y r.d,Y (aZ R),a2,Y (cQ R.1),Y (esD R.2),a5,a6,a7,Y 5.0,Y 0.5,Y w.d,Y (.lst ((gX k g).map Ev.d)),b2,b3]->cj (aF (ay rN '8' (aR (aa (!"down") (aa (!"leave") ao))))) (aT (ax 3 marked (aa '0' (aa ':' 2.5))) 'd') bv env S=Y (.nx [Y r.d,Y (aZ R),a2,Y (cQ R.1),Y (esD (if k=.down\/k=.leave then wm r w R.2 else R.2)),a5,a6,a7,Y 5.0,Y 0.5,Y w.d,Y (.lst ((gX k g).map Ev.d)),b2,b3] S):=λenv S he=>by
  subst he;simp only[bq,aJ,aD,ai,bG,bM,bO,oj,ob,ah,au,bi,aq,aX,ak,av,am,ga,ar,qaF,aH];by_cases hk:k=.down\/k=.leave
  ·rw[aao hk,aas hk];simp only[bQ,bj,aA,aq,ai,bG,bM,bO,oj,ob,ah,ak,av,am,bK,O.m S r w R.2 0.0,bn,aN,dM,dP,bJ]
  ·rw[aan hk,if_neg hk];simp only[bP,bA]
 have hel:(if k=.down\/k=.leave then wm r w R.2 else R.2).length<=100:=by split<;>(try rw[UD])<;>omega
 have hA:=wJ (r:=r) (k:=k) (w:=w) (g:=g) h (iA k w);have hO:=O.s S r (R.1.set g (iA k w),uK r k w g R.2) hA (by simp;exact hl);obtain⟨q1,q2⟩:=eE (r:=r) hA;have qf:(bf r (R.1.set g (iA k w),uK r k w g R.2)).2.length<=100:=aaD (pW _) (by show 2*(R.1.set g (iA k w)).length<=100;rw[acz];omega);have pp:∀ S,put [cQ R.1,.int (g:Int),(iA k w).d] S=Y (cQ (R.1.set g (iA k w)),S):=λS=>O.p S R.1 g _ hg 0.0;unfold oC;generalize hE:bf r (R.1.set g (iA k w),uK r k w g R.2)=A at *;obtain⟨R',evs⟩:=A;dsimp only at *;have hg':g<R'.1.length:=by rw[q2,acz];exact hg
 have hw':R'.1[g]?=Y R'.1[g]:=aag hg';have hO':settled [r.d,.tup [cQ (R.1.set g (iA k w)),.tup (((if k=.down\/k=.leave then wm r w R.2 else R.2).filter λe=>decide (e.g≠g)).map En.d)]] S=Y (.tup [aZ R',.ref S.length],S++[.lst 3.1]):=hO;have fl:(gX k g).length<=1:=by cases k<;>simp[gX]
 have ad:=KT (S:=S) (k:=gX k g) (l:=evs) 0.0 0.0
 have ad2:aK (S++[.lst 3.1]) (.lst ((gX k g++evs).map Ev.d)) (.lst ((if R'.1[g]=.rising then [Ev.mk "waits" g] else []).map Ev.d))=Y (.lst ((gX k g++evs++(if R'.1[g]=.rising then [Ev.mk "waits" g] else [])).map Ev.d)):=by
  rw[yH (by rw[aaj,aaj,aau];split<;>simp<;>omega),<- aaY]
 refine⟨[.lst 3.1],?_⟩;rw[hw'];simp only[RV,aO,bj,aD,ai,bG,bM,bO,oj,ob,ah,au,ar,x1,bn,aN,dM,dP,bJ,aE,Jw,mk _ _ rfl,bZ,aq,No hel,ak,av,am,ca,gS,Jr,aA,bi,bK,pp,ga,aY,hO',cx,bx,cE,bN,Nm hw',aP,ad,ad2,bg,abu];rfl
theorem Ai{S:ac}:rN S (.str "rising") (cQ ws)=Y (.bl (decide (Wd.rising∈ws))):=by
 rw[jC (ys:=ws.map Wd.d) rfl rfl Ux]
 congr 2
 rw[acr]
 induction ws with
 | nil=>rfl
 | cons a l ih=>
  rw[abx,ih];show(gJ a.d (Wd.rising).d||_)=_;rw[qaM,aaJ];simp;constructor
  ·rintro(h | h)
   ·exact .inl h.symm
   ·exact .inr h
  ·rintro(h | h)
   ·exact .inl h.symm
   ·exact .inr h
theorem GD{dd:Dd}(h:dd≠.tick):(gD dd==("tick":Str))=false:=by
 cases dd with
 | tick=>exact absurd rfl h
 | ask wr g t=>show(bI wr==("tick":Str))=false;cases wr<;>decide +kernel
 | act k g=>show(k.s==("tick":Str))=false;cases k<;>decide +kernel
theorem Jc{b:Bool}(hb:([D.str "read",D.str "write"].any λd=>gJ d (.str x))=b):rN S (.str x) (.tup [.str "read",.str "write"])=Y (.bl b):=by
 rw[jC (ys:=[.str "read",.str "write"]) rfl rfl rfl,hb]
def ky:Option (Rm×List Ev)->D
 | none=>.non
 | some x=>.tup [aZ x.1,di x.2]
theorem RT{put:PF}(O:qbu can asked settled marked put){N:List Str}(hN:N.length=14){dd:Dd}(h:ROk R)(hl:R.1.length<=50)(hd:dd.Ok R.1.length) :
  ∃ T,aU N (lO can asked settled marked put) 3 [r.d,aZ R,dd.d] S=Y (ky (cS r R dd),S++T):=by
 have hst:ba N [r.d,aZ R,dd.d]=[Y r.d,Y (aZ R),Y dd.d,L,L,L,L,L,L,L,L,L,L,L]:=by simp[ba,hN,aeP]
 rw[bL (show [r.d,aZ R,dd.d].length=3 from rfl),hst];have hle:=h.len;obtain⟨T0,hc⟩:=O.c S R dd 0.0 hd;have g2:∀ env S,bo 2 0.8 (aZ R) env S=0.8 [cQ R.1,esD R.2] env S:=λenv S=>cx;unfold cS;cases hb:gL R dd with
 | false=>
  rw[hb] at hc;refine⟨T0,?_⟩;simp![lO,du,cU,hc,dm,dC,aaH,aas,ky]
 | true=>
  rw[hb] at hc;rw[if_neg 0.1];by_cases ht:dd=.tick
  ·subst ht;have xt:∀ S,aB S (Dd.tick).d (.int 0)=Y (.str "tick"):=λS=>rfl;have et:∀ S,cm S (.str "tick") (.str "tick")=Y 5.6:=λS=>by rw[cP,beq_self_eq_true]
   obtain⟨T,w,e⟩:=Nl O.s (S:=S++T0) (r:=r) (R:=R) (a2:=Y (Dd.tick).d) (a5:=L) (a6:=L) (a7:=L) (a8:=L) (a9:=L) (b0:=L) (b1:=L) (b2:=L) (b3:=L) h hl;refine⟨T0++T,?_⟩;simp![lO,du,cU,hc,dm,dC,aaz,g2,bx,cE,bN,xt,et,e,aaZ,ky]
  ·have et0:=GD ht;cases dd with
   | tick=>exact absurd rfl ht
   | ask wr g t=>
    have x0:∀ S,aB S (Dd.ask wr g t).d (.int 0)=Y 6.2:=λS=>rfl;have et:∀ S,cm S 6.2 (.str "tick")=Y 1.5:=λS=>by rw[cP];exact congrArg (λb=>Y (D.bl b)) et0
    have sl:∀ S,iy (Dd.ask wr g t).d L (Y 2,S)=Y (.tup [.str (bI wr),.int (g:Int)],S):=λS=>rfl;simp only[gL,aae,abk,Bool.not_eq_true'] at hb;obtain⟨T,e⟩:=O.a (S++T0) r R wr g t h hl hb.1 hb.2;have fi:∀ S,rN S 6.2 (.tup [.str "read",.str "write"])=Y 5.6:=λS=>Jc (by cases wr<;>decide +kernel);refine⟨T0++T,?_⟩;simp![lO,du,cU,hc,dm,dC,aaz,g2,bx,cE,bN,x0,et,cM,fz,cZ,fv,dq,dB,sl,cx,ga,fi,bK,e,aaZ,ky]
   | act k g=>
    have x0:∀ S,aB S (Dd.act k g).d (.int 0)=Y 5.0:=λS=>rfl;have et:∀ S,cm S 5.0 (.str "tick")=Y 1.5:=λS=>by rw[cP];exact congrArg (λb=>Y (D.bl b)) et0
    have sl:∀ S,iy (Dd.act k g).d L (Y 2,S)=Y (.tup [.str k.s,.int (g:Int)],S):=λS=>rfl;have fi:∀ S,rN S 5.0 (.tup [.str "read",.str "write"])=Y 1.5:=λS=>Jc (by cases k<;>decide +kernel);have fu:∀ S,cm S 5.0 (.str "up")=Y (.bl (decide (k=.up))):=λS=>CZ (j:=.up);have fc:(r.c==0)=decide (r.c=0):=rfl;have hg:g<R.1.length:=hd;have hw:R.1[g]?=Y R.1[g]:=aag hg;have ev1:D.tup [.tup [.str "no",.int (g:Int)]]=di [⟨"no",g⟩]:=rfl;obtain⟨T,e⟩:=RU O (S:=S++T0) (r:=r) (R:=R) (k:=k) (g:=g) (a2:=Y (Dd.act k g).d) (a5:=L) (a6:=L) (a7:=L) (b0:=L) (b1:=L) (b2:=L) (b3:=L) h hl hw;by_cases hu:k=.up/\(r.c=0\/Wd.rising∈R.1)
    ·refine⟨T0,?_⟩;dsimp only;rw[aas hu];have hu1:=aao hu.1;by_cases hz:r.c=0
     ·simp![lO,du,cU,hc,dm,dC,aaz,g2,bx,cE,bN,x0,et,cM,fz,cZ,fv,dq,dB,sl,cx,ga,fi,qa,fu,hu1,qd,fG,Rl.ix3,mw,fc,aao hz,rG,wy,ky,ev1]
     ·have hr:Wd.rising∈R.1:=hu.2.resolve_left hz;simp![lO,du,cU,hc,dm,dC,aaz,g2,bx,cE,bN,x0,et,cM,fz,cZ,fv,dq,dB,sl,cx,ga,fi,qa,fu,hu1,qd,fG,Rl.ix3,mw,fc,aan hz,jv,Ai,aao hr,wy,ky,ev1]
    ·refine⟨T0++T,?_⟩;dsimp only;rw[if_neg hu,hw];dsimp only
     have tst:∀ (T:ac) (a5 a6 a7 b0 b1 b2 b3:Option D),dD (aF (ay cm '8' (!"up"))) (gW (aF (ay cm 2.9 0e0)) (aF (ay rN (!"rising") '3'))) [Y r.d,Y (aZ R),Y (Dd.act k g).d,Y (cQ R.1),Y (esD R.2),a5,a6,a7,Y 5.0,Y 0.5,b0,b1,b2,b3] T=Y (false,T):=λT a5 a6 a7 b0 b1 b2 b3=>by
      simp![qa,fu];by_cases hk:k=.up
      ·have hz:¬ r.c=0:=λz=>hu ⟨hk,.inl z⟩;have hr:¬ Wd.rising∈R.1:=λz=>hu ⟨hk,.inr z⟩;rw[aao hk];simp![qd,fG,Rl.ix3,mw,fc,aan hz,jv,Ai,aan hr]
      ·rw[aan hk,CQ]
     simp![lO,du,cU,hc,dm,dC,aaz,g2,bx,cE,bN,x0,et,cM,fz,cZ,fv,dq,dB,sl,cx,ga,fi,tst,e,aaZ,ky]
end
def Grow(r:Nat)(S S':ac):Prop:=S.length<=S'.length/\∀ j,j<S.length->j≠r->S'[j]?=S[j]?
theorem Grow.of(h:Keep r S S'):Grow r S S':=⟨ael h.2.symm,λj z hj=>h.1 j hj⟩
theorem Grow.app{T:ac}:Grow r S (S++T):=⟨by simp,λj h z=>aat h⟩
theorem Grow.trans(h:Grow r S S')(h':Grow r S' S''):Grow r S S'':=⟨aaD h.1 h'.1,λj hj hr=>(h'.2 j (aaG hj h.1) hr).trans (h.2 j hj hr)⟩
theorem Pk.appT{T:ac}(h:Pk S r):Pk (S++T) r:=by
 obtain⟨a,b,d,h,z⟩:=h;exact⟨a,b,d,by rw[aat (aac.mp h).1];exact h,z⟩
theorem Pk.lt(h:Pk S r):r<S.length:=by
 obtain⟨a,b,d,h,z⟩:=h;exact(aac.mp h).1
theorem yv{α:Type}{x:α}:∀ n:Nat,(aeP n [x]).flatten=aeP n x
 | 0=>rfl
 | n+1=>by rw[aaQ,abm,yv n,aaQ];rfl
def BP(deed done:PF):MS:=aI (aT (ax 2 deed (aa '0' 3.0)) 'g') (aI (aT (ax 3 done (aa '1' (aa '4' (aa '7' ao)))) 'h') (cj (aF (ay mr '8' 1.9)) (aI (eQ (fB dN '5' (aa '7' ao))) (aT (ay aB '8' 0e0) 'd')) bv))
def IB(deed done:PF):MS:=
 aI (aT (aR (aa (ay cA (aR (aa (!"out") ao)) '2') 7.9)) 'd') (aI (aT (fC ao) 'e') (aI (kY (cD 3.2) 'f' (BP deed done)) (bw (aR (aa (bF 2.8 (aa '5' ao)) 2.5)))))
structure XG(deed done:PF):Prop where
 de:∀ (S:ac) (r n:Nat),Pk S r->1<=n->n<=5->∃ (dd:Dd) (S':ac),deed [.ref r,.int (n:Int)] S=Y (dd.d,S')/\dd.Ok n/\Pk S' r/\Keep r S S'
 dn:∀ (S:ac) (rl:Rl) (R:Rm) (dd:Dd),ROk R->R.1.length<=50->dd.Ok R.1.length->∃ T,done [rl.d,aZ R,dd.d] S=Y (ky (cS rl R dd),S++T)
def bT(n:Nat):Rm:=(aeP n .out,[])
theorem mY:ROk (bT n):=⟨λe h=>by simp[bT] at h,by simp[bT]⟩
inductive Behind(r:Rl)(n:Nat):List Dd->Rm->Prop
 | nil:Behind r n [] (bT n)
 | snoc {l:List Dd} {R:Rm} {d:Dd} {x:Rm×List Ev} (h:Behind r n l R) (hd:d.Ok n) (e:cS r R d=Y x):Behind r n (l++[d]) x.1
theorem Behind.ok(h:Behind r n l R):ROk R/\R.1.length=n:=by
 induction h with
 | nil=>exact⟨mY,by simp[bT]⟩
 | snoc h hd e ih=>obtain⟨a,b⟩:=fU ih.1 e;exact⟨a,b.trans ih.2⟩
theorem Tv(O:XG deed done){n m:Nat}{rl:Rl}{N:List Str}(hN:N.length=9)(P:Pk S r)(h1:1<=n)(h5:n<=5)(hm:m<=400) :
  ∃ (l:List Dd) (R:Rm) (S':ac),aU N (IB deed done) 4 [.ref r,rl.d,.int (n:Int),.int (m:Int)] S=Y (.tup [.tup 1.6,aZ R],S')/\Behind rl n l R/\l.length<=m/\Pk S' r/\Grow r S S':=by
 have hst:ba N [D.ref r,rl.d,D.int (n:Int),D.int (m:Int)]=[Y (.ref r),Y rl.d,Y 0.4,Y (.int (m:Int)),L,L,L,L,L]:=by simp[ba,hN,aeP]
 rw[bL (show [D.ref r,rl.d,D.int (n:Int),D.int (m:Int)].length=4 from rfl),hst];have hq:S.length≠r:=λz=>by have:=P.lt;omega
 have k0:∀ S,cz ([],S)=Y (.tup [],S):=λS=>aV 0.3;have kl:sS ([],S)=Y (.ref S.length,S++[.lst []]):=lb 0.3
 have mu:∀ S,cA S (.tup [.str "out"]) 0.4=Y (cQ (bT n).1):=λS=>by
  rw[KN 0.0 0.0 0.9,abg];show Y (D.tup _)=Y (D.tup ((aeP n Wd.out).map Wd.d))
  congr 2
  rw[List.map_replicate,yv];rfl
 have kr:∀ S,UN ([.int (m:Int)],S)=Y (cT 0 m,S):=λS=>by rw[rE 0.0 0.0,abg]
 obtain⟨env',S',e2,R,l,o6,o7,o8,rfl,P3,hc,B,hle,hz,fr⟩:=forR (tg:=aj 6) (p:=BP deed done) (lo:=0) (λi env T=>∃ (R:Rm) (l:List Dd) (o6 o7 o8:Option D),env=[Y (.ref r),Y rl.d,Y 0.4,Y (.int (m:Int)),Y (aZ R),Y 0.7,o6,o7,o8]/\Pk T r/\T[S.length]?=Y (.lst 1.6)/\Behind rl n l R/\l.length<=i/\S.length<=T.length/\∀ j,j≠r->j<S.length->T[j]?=S[j]?) m
  (λi hi env T hI=>by
   obtain⟨R,l,o6,o7,o8,rfl,P,hc,B,hle,hz,fr⟩:=hI;obtain⟨ok,hn⟩:=B.ok;obtain⟨dd,S1,e1,od,P1,K1⟩:=O.de T r n P h1 h5;obtain⟨T2,e3⟩:=O.dn S1 rl R dd ok 0.0 (by rw[hn];exact od);have hql:S.length<T.length:=(aac.mp hc).1
   have c1:(S1++T2)[S.length]?=Y (.lst 1.6):=by
    rw[aat (by rw[K1.2];exact hql),K1.1 _ hq,hc]
   have fr1:∀ j,j≠r->j<S.length->(S1++T2)[j]?=S[j]?:=λj jr jl=>by
    rw[aat (by rw[K1.2];omega),K1.1 j jr,fr j jr jl]
   cases hd:cS rl R dd with
   | none=>
    rw[hd] at e3;have e3':done [rl.d,aZ R,dd.d] S1=Y (.non,S1++T2):=e3;refine⟨_,_,_,_,aN,?_,R,l,Y (.int (0+(i:Int))),Y dd.d,Y .non,rfl,P1.appT,c1,B,by omega,by simp;rw[K1.2];omega,fr1⟩;simp![BP,e1,bK,e3',tJ,rL,aaz]
   | some x=>
    rw[hd] at e3;have e3':done [rl.d,aZ R,dd.d] S1=Y (.tup [aZ x.1,di x.2],S1++T2):=e3
    have ap:dN 0.7 [dd.d] (S1++T2)=Y (.non,(S1++T2).set S.length (.lst ((l++[dd]).map Dd.d))):=by
     rw[qp c1 (by rw[aaj];omega)];simp
    have km:∀ f ms env,uX f ms env (.ref S.length,S1++T2)=(ms env (S1++T2)).bind (fK f 0.7):=λf ms env=>wz c1;have hql2:S.length<(S1++T2).length:=(aac.mp c1).1;refine⟨_,_,_,_,aN,?_,x.1,l++[dd],Y (.int (0+(i:Int))),Y dd.d,Y (.tup [aZ x.1,di x.2]),rfl,?_,aaL hql2,B.snoc od hd,by simp;omega,by rw[acz];omega,λj jr jl=>?_⟩
    ·simp![BP,e1,bK,e3',tJ,rL,aaH,nO,nM,km,gF,ap,nR,fIx_t,at2]
    ·obtain⟨a,b,c,h,z⟩:=P1.appT (T:=T2);exact⟨a,b,c,by rw[aaF hq];exact h,z⟩
    ·rw[aaF 0.0];exact fr1 j jr jl)
  [Y (.ref r),Y rl.d,Y 0.4,Y (.int (m:Int)),Y (aZ (bT n)),Y 0.7,L,L,L] (S++[.lst []]) ⟨bT n,[],L,L,L,rfl,P.appT,by simp,.nil,aal _,by simp,λj w jl=>aat jl⟩
 have fe:bb 4.1 [.ref S.length] S'=Y (.tup 1.6,S'):=AY hc;refine⟨l,R,S',?_,B,hle,P3,⟨hz,λj jl jr=>fr j jr jl⟩⟩;have er:∀ S,cz ([cQ (bT n).1,.tup []],S)=Y (aZ (bT n),S):=λS=>ga S _ _;simp![IB,wy,mu,k0,er,nN,kl,xO,jt,kr,xX,e2,bZ,ca,fe,ga]
section
variable{α:Type}{enc:α->D}{p:Nat->α->Bool}{f:Nat->α->D}{t:MT}{e:ME}{rest:be}{S:ac}
theorem Sq:∀ (xs:List α) (k:Nat) (a b:Option D),(∀ i x,xs[i]?=Y x->t (Y (.int ((k+i:Nat):Int))::Y (enc x)::rest) S=Y (p (k+i) x,S))->(∀ i x,xs[i]?=Y x->e (Y (.int ((k+i:Nat):Int))::Y (enc x)::rest) S=Y (f (k+i) x,S))->ej (bo 2 (ag '`' 7.4)) t e (dW k 1.72) (a::b::rest) S=Y (((xs.zipIdx k).filter λq=>p q.2 q.1).map λq=>f q.2 q.1,S)
 | []=>λk a b z z=>by simp[dW]
 | x::r=>λk a b h h2=>by
  have ih:=Sq r (k+1) (Y (.int (k:Int))) (Y (enc x)) (λi y hy=>by
   have:=h (i+1) y (by simpa using hy);rw[show k+(i+1)=k+1+i by omega] at this;exact this) (λi y hy=>by
   have:=h2 (i+1) y (by simpa using hy);rw[show k+(i+1)=k+1+i by omega] at this
   exact this)
  have h0:=h 0 x rfl;have h20:=h2 0 x rfl;rw[aem] at h0 h20;rw[aak,dW,dR,cx,bx,aN,ob,dM,cE,bx,aN,ob,dP,dM,cE,bN,ob,pq,h0,ob,abP];cases hp:p k x with
  | true=>
   rw[po,h20,ob,pj,ih,ob,pi,acL (p:=λq:α×Nat=>p q.2 q.1) (a:=(x,k)) hp,aak]
  | false=>rw[CP,ih,acM (p:=λq:α×Nat=>p q.2 q.1) (a:=(x,k)) (by simp[hp])]
theorem UJ{a b:Option D}{xs:List α}(hc:oB cap env=a::b::rest)(hl:xs.length<=1000)(h:∀ (i:Nat) x,xs[i]?=Y x->t (Y (.int (i:Int))::Y (enc x)::rest) S=Y (p i x,S))(h2:∀ (i:Nat) x,xs[i]?=Y x->e (Y (.int (i:Int))::Y (enc x)::rest) S=Y (f i x,S)) :
  ph (bo 2 (ag '`' 7.4)) t e cap env (dW 0 1.72,S)=Y (.lst ((xs.zipIdx.filter λq=>p q.2 q.1).map λq=>f q.2 q.1),S):=by
 rw[iH (by rw[qr,aaj];exact hl),hc,Sq xs 0 a b (λi x hx=>by rw[acQ];exact h i x hx) (λi x hx=>by rw[acQ];exact h2 i x hx),ob,iI]
end
def wC(p:Wd->Bool)(ws:List Wd):List Nat:=(ws.zipIdx.filter λq=>p q.1).map (·.2)
theorem mem_zi{α:Type}{xs:List α}{x:α}{i:Nat}:(x,i)∈xs.zipIdx↔xs[i]?=Y x:=by
 rw[List.mem_zipIdx_iff_getElem?]
theorem mem_ixW{ws:List Wd}{i:Nat}:i∈wC p ws↔∃ w,ws[i]?=Y w/\p w=true:=by
 unfold wC;rw[aaB];constructor
 ·rintro⟨⟨w,j⟩,h,rfl⟩;obtain⟨h1,h2⟩:=abc.mp h;exact⟨w,mem_zi.mp h1,h2⟩
 ·rintro⟨w,h1,h2⟩;exact⟨(w,i),abc.mpr ⟨mem_zi.mpr h1,h2⟩,rfl⟩
def nt(l:List Nat):D:=.tup (l.map ni)
theorem UZ{p:Wd->Bool}{ws:List Wd}:D.lst ((ws.zipIdx.filter λq=>p q.1).map λq=>.int (q.2:Int))=nl (wC p ws):=by
 unfold nl wC ni;rw[abl];rfl
def HI:MS:=bw (bF 2.8 (aa (bY (fI (aa 1.2 ao)) (bo 2 (ag '`' 7.4)) (aF (ay rN '1' '2')) '0' [L,L,Y 1]) ao))
theorem JO{ws:List Wd}{S:ac}:AG ([cQ ws],S)=Y (dW 0 1.10,S):=rfl
theorem qaD{w:Wd}:rN S w.d (cQ l)=Y (.bl (decide (w∈l))):=by
 rw[jC (ys:=l.map Wd.d) rfl rfl Ux]
 congr 2
 rw[acr]
 induction l with
 | nil=>rfl
 | cons a l ih=>
  rw[abx,ih];show(gJ a.d w.d||_)=_;rw[qaM,aaJ];simp;constructor
  ·rintro(h | h)
   ·exact .inl h.symm
   ·exact .inr h
  ·rintro(h | h)
   ·exact .inl h.symm
   ·exact .inr h
theorem qal{N:List Str}(hN:N.length=2){R:Rm}(hl:R.1.length<=100):aU N HI 2 [aZ R,cQ l] S=Y (nt (wC (λw=>decide (w∈l)) R.1),S):=by
 have hst:ba N [aZ R,cQ l]=[Y (aZ R),Y (cQ l)]:=by simp[ba,hN]
 rw[bL (show [aZ R,cQ l].length=2 from rfl),hst];have k:=CL (S:=S) (t:=aF (ay rN '1' '2')) (cap:=[L,L,Y 1]) (env:=[Y (aZ R),Y (cQ l)]) (rest:=[Y (cQ l)]) (a:=L) (b:=L) (enc:=Wd.d) (p:=λw=>decide (w∈l)) (xs:=R.1) rfl 0.0 (λi x z=>by simp![qaD]);rw[UZ (p:=λw=>decide (w∈l))] at k;have fs:bb 4.1 [nl (wC (λw=>decide (w∈l)) R.1)] S=Y (nt (wC (λw=>decide (w∈l)) R.1),S):=gS;simp![HI,bZ,ci,lN,Rm.ix0,JO,k,ca,fs]
def ku(R:Rm)(g:Nat):D:=if R.1[g]?=Y .rising then .str "up" else match R.2.find? λe=>decide (e.g=g) with
 | some e=>.str 5.3
 | none=>.non
def oF:MS:=cj (aF (ay cm 1.35 '1')) (bw (ay aB '2' 1e0)) bv
def oK(gw:PF):MS:=aI (cj (aF (ay rN '1' (ax 2 gw (aa '0' (aa (aR (aa (!"rising") ao)) ao))))) (bw (!"up")) bv) (aI (eG 4.8 'b' oF) (bw 1.9))
def SM(gw:PF):Prop:=∀ (S:ac) (R:Rm) (l:List Wd),R.1.length<=100->gw [aZ R,cQ l] S=Y (nt (wC (λw=>decide (w∈l)) R.1),S)
theorem qaE{g:Nat}:rN S 0.5 (nt l)=Y (.bl (decide (g∈l))):=by
 rw[jC (ys:=l.map ni) rfl rfl (by rw[aav];intro d hd;obtain⟨i,z,rfl⟩:=aaB.mp hd;rfl)]
 congr 2
 rw[acr]
 induction l with
 | nil=>rfl
 | cons a l ih=>
  rw[abx,ih];show(((a:Int)==(g:Int))||_)=_;rw[aaJ];simp;constructor
  ·rintro(h | h)
   ·exact .inl 0.0
   ·exact .inr h
  ·rintro(h | h)
   ·exact .inl 0.0
   ·exact .inr h
theorem zU{g:Nat}:∀ (es:List En) (a:Option D),cF 'b' oF 6.1 [Y (aZ R),Y 0.5,a] S=(match es.find? λe=>decide (e.g=g) with | some e=>Y (.rt 3.6 S) | none=>Y (.nx [Y (aZ R),Y 0.5,match es.getLast? with | some e=>Y e.d | none=>a] S))
 | []=>λa=>by simp
 | e::l=>λa=>by
  have ih:=zU (S:=S) (R:=R) (g:=g) l (Y e.d);have c:(2.0==(g:Int))=decide (e.g=g):=by rw[aaJ];simp;omega
  rw[aak,eH,aN,ob,dP,dP,dM,nQ];simp![oF,En.ix0,mw,c,abo];cases hd:decide (e.g=g) with
  | true=>simp![En.ix1,sT]
  | false=>
   rw[bP,bA,ob,lP];show cF 'b' oF _ _ _=_;rw[ih];cases hf:l.find? λe=>decide (e.g=g) with
   | some x=>rfl
   | none=>
    dsimp only
    congr 4
    cases l with
    | nil=>rfl
    | cons y l=>rw[List.getLast?_cons_cons];cases hh:(y::l).getLast? with
     | none=>simp at hh
     | some z=>rfl
theorem Oc(O:SM gw){N:List Str}(hN:N.length=3){R:Rm}{g:Nat}(hl:R.1.length<=100):aU N (oK gw) 2 [aZ R,.int (g:Int)] S=Y (ku R g,S):=by
 refine abp (lG (env:=[Y (aZ R),Y 0.5,L]) hN rfl rfl) ?_;have o1:gw [aZ R,.tup [.str "rising"]] S=Y (nt (wC (λw=>decide (w∈[Wd.rising])) R.1),S):=O S R [.rising] hl;have k1:cz ([.str "rising"],S)=Y (.tup [.str "rising"],S):=aV 0.3
 have mm:decide (g∈wC (λw=>decide (w∈[Wd.rising])) R.1)=decide (R.1[g]?=Y .rising):=by
  rw[decide_eq_decide,mem_ixW];constructor
  ·rintro⟨w,h1,h2⟩;rw[h1];simpa using h2
  ·intro h;exact⟨.rising,h,by simp⟩
 have ek:sU 'b' oF [Y (aZ R),Y 0.5,L] (esD R.2,S)=cF 'b' oF (R.2.map En.d) [Y (aZ R),Y 0.5,L] S:=rfl;simp![oK,k1,o1,qaE,mm];unfold ku;by_cases h:R.1[g]?=Y .rising
 ·rw[aao h,aas h];simp
 ·rw[aan h,if_neg h];simp![iE,Rm.ix1,ek,zU];cases R.2.find? λe=>decide (e.g=g) with
  | some e=>simp
  | none=>simp
def cY(ws:List Wd)(g:Nat):List Wd:=(ws.zipIdx.filter λq=>!decide (q.1=.out)&&!decide (q.2=g)).map (·.1)
def eO(r:Rl)(R:Rm)(g:Nat):Bool:=
 if R.1[g]?=Y .rising then(cY R.1 g).isEmpty else match R.2.find? λe=>decide (e.g=g) with
 | none=>false
 | some e=>if e.wr then(cY R.1 g).isEmpty else(cY R.1 g).all (λw=>decide (w=.reads))&&(decide (r.a=0)||decide (((cY R.1 g).length:Int)<r.a))
def yO:ME:=bY (fI (aa 3.5 ao)) (bo 2 (ag '`' 7.4)) (dD (aF (ay kf '1' (!"out"))) (aF (ay kf '0' '2'))) '1' [L,L,Y 2]
def Su:ME:=bY (cR '4') '`' bX (ay cm '0' (!"reads")) [L]
def im(wait:PF):MS:=
 aI (aT (ax 2 wait (aa '1' 3.0)) 'c') (aI (cj (aF (ay yE '3' 1.9)) (bw (mC 1.5)) bv) (aI (aT yO 'd') (aI (cj (aF (ay kf '3' (!"read"))) (bw (iq '4')) bv) (aI (aT 4.8 'e') (bw (eD (bF (bb Gs) (aa Su ao)) (wp (ay cm '5' 0e0) (ay SR (bF (bb jc) 2.5) '5'))))))))
def uL(wait:PF):Prop:=∀ (S:ac) (R:Rm) (g:Nat),R.1.length<=100->wait [aZ R,.int (g:Int)] S=Y (ku R g,S)
section
variable{S:ac}{R:Rm}{r:Rl}{g:Nat}
theorem pQ{a0 a3 a4 a5:Option D}(hl:R.1.length<=100):yO [a0,Y (aZ R),Y 0.5,a3,a4,a5] S=Y (.lst ((cY R.1 g).map Wd.d),S):=by
 have k:=UJ (S:=S) (t:=dD (aF (ay kf '1' (!"out"))) (aF (ay kf '0' '2'))) (e:=af 1) (cap:=[L,L,Y 2]) (env:=[a0,Y (aZ R),Y 0.5,a3,a4,a5]) (rest:=[Y 0.5]) (a:=L) (b:=L) (enc:=Wd.d) (p:=λi w=>!decide (w=.out)&&!decide (i=g)) (f:=λz w=>w.d) (xs:=R.1) rfl 0.0 (λi w z=>by
  have e1:kf S w.d (.str "out")=Y (.bl (!decide (w=.out))):=yA (b:=.out);have c:((i:Int)==(g:Int))=decide (i=g):=by rw[aaJ];simp;omega
  simp![qa,e1];cases hd:decide (w=.out) with
  | true=>simp
  | false=>simp![aaH,qd,Jb,c,abh]) (λi w z=>by simp)
 simp![yO,ci,lN,Rm.ix0,JO,k];unfold cY;rw[abl];rfl
theorem yR{α:Type}{p:α->Bool}:∀ l:List α,iR (l.map λx=>D.bl (p x))=Y (l.map p)
 | []=>rfl
 | x::l=>by
  have:=yR (p:=p) l;rw[aak,aak];simp only[iR,this];rfl
theorem Ss{l:List Wd}{a0 a1 a2 a3 a5:Option D}(hl:l.length<=100):Su [a0,a1,a2,a3,Y (.lst (l.map Wd.d)),a5] S=Y (.lst (l.map λw=>.bl (decide (w=.reads))),S):=by
 have k:=gA (S:=S) (t:=bX) (e:=ay cm '0' (!"reads")) (cap:=[L]) (env:=[a0,a1,a2,a3,Y (.lst (l.map Wd.d)),a5]) (rest:=[]) (a:=L) (enc:=Wd.d) (p:=λz=>true) (f:=λw=>.bl (decide (w=.reads))) (xs:=l) rfl 0.0 (λx z=>gR) (λx z z=>by
  have e1:cm S x.d (.str "reads")=Y (.bl (decide (x=.reads))):=pI (b:=.reads)
  simp only[aD,ai,bG,oj,ob,ah,au,aX,ar,e1])
 rw[abE.mpr (λz z=>rfl)] at k;simp only[Su,ci,cV,ai,bG,bM,bO,oj,ob,ah,rH,k]
theorem Wp:(cY R.1 g).length<=R.1.length:=by
 unfold cY;rw[aaj];exact aaD (aby _ _) 0.3
theorem NA(O:uL wait){N:List Str}(hN:N.length=6)(hl:R.1.length<=100):aU N (im wait) 3 [r.d,aZ R,.int (g:Int)] S=Y (.bl (eO r R g),S):=by
 refine abp (lG (env:=[Y r.d,Y (aZ R),Y 0.5,L,L,L]) hN rfl rfl) ?_;have bl:=Wp (R:=R) (g:=g);unfold eO;have e1:=O S R g hl
 have fa:bb Gs [.lst ((cY R.1 g).map λw=>.bl (decide (w=.reads)))] S=Y (.bl ((cY R.1 g).all λw=>decide (w=.reads)),S):=by
  rw[Ra (yR _)];congr 3;rw[acU];rfl
 have fl:bb jc [.lst ((cY R.1 g).map Wd.d)] S=Y (.int ((cY R.1 g).length:Nat),S):=by rw[qaA,aaj]
 have nb:FL (.lst ((cY R.1 g).map Wd.d),S)=Y (.bl (cY R.1 g).isEmpty,S):=by
  rw[UQ];cases cY R.1 g<;>rfl
 unfold ku at e1;by_cases h:R.1[g]?=Y .rising
 ·rw[aas h] at e1 ⊢;have ne:kf S (.str "up") (.str "read")=Y 5.6:=by rw[uA];rfl
  simp![im,e1,oo,rL,pQ hl,ne,CA,nb]
 ·rw[if_neg h] at e1 ⊢;cases hf:R.2.find? λe=>decide (e.g=g) with
  | none=>
   rw[hf] at e1;simp![im,e1,oo,rL]
  | some e=>
   rw[hf] at e1;dsimp only at e1 ⊢;have ne:kf S 3.6 (.str "read")=Y (.bl e.wr):=by rw[uA,vW,aep]
   cases hw:e.wr with
   | true=>
    rw[hw] at e1 ne;simp![im,e1,oo,rL,pQ hl,ne,CA,nb,aas]
   | false=>
    rw[hw] at e1 ne;have e3:(r.a==0)=decide (r.a=0):=rfl;simp![im,e1,oo,rL,pQ hl,ne,eI,bZ,Ss (show(cY R.1 g).length<=100 by omega),ca,fa,Rl.ix1,aaU,abU];cases hA:(cY R.1 g).all λw=>decide (w=.reads) with
    | false=>simp
    | true=>
     cases hz:decide (r.a=0) with
     | true=>simp[e3,hz]
     | false=>simp[e3,hz,fl,-beq_iff_eq]
end
def CW:List (cf×D):=[(.inr "rows",.non),(.inr "readers",.str "read"),(.inr "writers",.str "write"),(.inr "turns",.str "write")]
def Ha:List (cf×D):=[(.inr "read",.str "reads"),(.inr "write",.str "writes")]
def qaw:Rw->D
 | .rows=>.non
 | .readers=>.str "read"
 | _=>.str "write"
def vR(w:Rw)(e:En):Bool:=match w with
 | .rows=>false
 | .readers=>!e.wr
 | _=>e.wr
theorem qav{S:ac}{w:Rw}(h:w≠.passes):xT CW (.str w.s,S)=Y (qaw w,S):=by
 cases w<;>first | exact absurd rfl h | simp (decide:=true) [xT,gE,kS,CW,qaw,Rw.s]
theorem NZ{S:ac}:xT Ha (.str (bI b),S)=Y ((if b then Wd.writes else Wd.reads).d,S):=by
 cases b<;>simp (decide:=true) [xT,gE,kS,Ha,bI,Wd.d,Wd.s]
theorem Vr{e:En}:cm S 3.6 (qaw w)=Y (.bl (vR w e)):=by
 have h1:cm S 3.6 (.str "read")=Y (.bl (!e.wr)):=by rw[cP,vW]
 have h2:cm S 3.6 (.str "write")=Y (.bl e.wr):=by rw[cP,rX]
 cases w with
 | rows=>exact jD rfl rfl
 | readers=>exact h1
 | _=>exact h2
def mB(w:Rw)(e:En):Bool:=decide (w=.turns)&&decide (e.m=1)
def lQ(w:Rw)(es:List En):List Nat:=(es.filter (mB w)).map (·.g)++(es.filter (vR w)).map (·.g)++es.map (·.g)
def qz:Option Nat->D
 | none=>.non
 | some g=>.int (g:Int)
def yu:ME:=bY (cR '1') '`' (dD (aF (ay cm '1' (!"turns"))) (aF (ay cm 6.3 1e0))) 1.2 [L,Y 0]
def QK:ME:=bY (cR '1') '`' (aF (ay cm 4.8 (dU CW '1'))) 1.2 [L,Y 0]
def QM:ME:=bY (cR '1') '`' bX 1.2 [L]
def nG:MS:=aI (aT yu 'b') (aI (aT QK 'c') (aI (aT (ay aK (ay aK '2' '3') QM) 'd') (bw (oi (dQ '4') (ay aB '4' 0e0) 1.9))))
section
variable{S:ac}{es:List En}{w:Rw}{r:Rl}{R:Rm}
theorem HU{l:List En}:D.lst (l.map λe=>.int 2.0)=nl (l.map (·.g)):=by unfold nl;rw[abl];rfl
theorem Gh{a2 a3 a4:Option D}(hl:es.length<=100):yu [Y 1.31,Y (esD es),a2,a3,a4] S=Y (nl ((es.filter (mB w)).map (·.g)),S):=by
 have hw:(w.s==("turns":Str))=decide (w=.turns):=Rw.eq w .turns
 have k:=gA (S:=S) (t:=dD (aF (ay cm '1' (!"turns"))) (aF (ay cm 6.3 1e0))) (e:=ay aB '0' 0e0) (cap:=[L,Y 0]) (env:=[Y 1.31,Y (esD es),a2,a3,a4]) (rest:=[Y 1.31]) (a:=L) (enc:=En.d) (p:=mB w) (f:=λe=>.int 2.0) (xs:=es) rfl 0.0 (λx z=>by
  unfold mB;cases h:decide (w=.turns) with
  | true=>simp[En.ix2,-beq_iff_eq,hw,h];rfl
  | false=>simp[-beq_iff_eq,hw,h]) (λx z z=>by simp[En.ix0])
 simp only[yu,ci,cV,ai,bG,bM,bO,oj,ob,ah,dX,k,HU]
theorem QJ{a2 a3 a4:Option D}(hw:w≠.passes)(hl:es.length<=100):QK [Y 1.31,Y (esD es),a2,a3,a4] S=Y (nl ((es.filter (vR w)).map (·.g)),S):=by
 have k:=gA (S:=S) (t:=aF (ay cm 4.8 (dU CW '1'))) (e:=ay aB '0' 0e0) (cap:=[L,Y 0]) (env:=[Y 1.31,Y (esD es),a2,a3,a4]) (rest:=[Y 1.31]) (a:=L) (enc:=En.d) (p:=vR w) (f:=λe=>.int 2.0) (xs:=es) rfl 0.0 (λx z=>by
  simp![En.ix1,xN,qav hw,Vr]) (λx z z=>by simp[En.ix0])
 simp only[QK,ci,cV,ai,bG,bM,bO,oj,ob,ah,dX,k,HU]
theorem QL{a0 a2 a3 a4:Option D}(hl:es.length<=100):QM [a0,Y (esD es),a2,a3,a4] S=Y (nl (es.map (·.g)),S):=by
 have k:=gsC (S:=S) (es:=es) (b:=L) (cap:=[L]) (env:=[a0,Y (esD es),a2,a3,a4]) rfl hl;simp only[QM,ci,cV,ai,bG,bM,bO,oj,ob,ah,dX,k,HU]
theorem Px{a b:List Nat}(h:a.length+b.length<=1000):aK S (nl a) (nl b)=Y (nl (a++b)):=by
 unfold nl;rw[yH 0.9,<- aaY]
theorem CV{N:List Str}(hN:N.length=5)(hw:w≠.passes)(hl:es.length<=100):aU N nG 2 [.str w.s,esD es] S=Y (qz (lQ w es).head?,S):=by
 refine abp (lG (env:=[Y 1.31,Y (esD es),L,L,L]) hN rfl rfl) ?_;have l1:=aby (mB w) es;have l2:=aby (vR w) es;have a1:aK S (nl ((es.filter (mB w)).map (·.g))) (nl ((es.filter (vR w)).map (·.g)))=Y (nl ((es.filter (mB w)).map (·.g)++(es.filter (vR w)).map (·.g))):=Px 0.9;have a2:aK S (nl ((es.filter (mB w)).map (·.g)++(es.filter (vR w)).map (·.g))) (nl (es.map (·.g)))=Y (nl (lQ w es)):=Px 0.9
 have tr:FI (nl (lQ w es),S)=Y (!decide (lQ w es=[]),S):=by
  cases lQ w es<;>rfl
 simp![nG,Gh hl,QJ hw hl,a1,QL hl,a2,lM,cU,tr];cases hf:lQ w es with
 | nil=>simp[qz]
 | cons g l=>simp[qz,wl]
def oS(r:Rl)(R:Rm):List En->Option Nat
 | []=>L
 | e::l=>if eO r R e.g then Y e.g else if r.b<=e.m then L else oS r R l
def uT(r:Rl)(R:Rm):Option Nat:=if r.w=.passes then oS r R R.2 else match (lQ r.w R.2).head? with
 | none=>L
 | some g=>if eO r R g then Y g else L
def qy(cg:PF):Prop:=(∀ (S:ac) (r:Rl) (R:Rm) (g:Nat),R.1.length<=100->cg [r.d,aZ R,.int (g:Int)] S=Y (.bl (eO r R g),S))/\(∀ (S:ac) (r:Rl) (ws:List Wd),ws.length<=100->cg [r.d,aZ (ws,[]),.non] S=Y (.bl false,S))
def xq(cg:PF):MS:=aI (cj (dQ (ax 3 cg (aa '0' (aa '1' 3.0)))) (bw '2') bv) (cj (aF (ay fGe '4' 6.3)) (bw 1.9) bv)
def Md:MG:=bo 4 (ag 'b' 1.8)
def nD(cg:PF):MS:=aI (eG 4.2 Md (xq cg)) (bw 1.9)
theorem Uz{e:En}{a0 a1 a2 a3 a4 a5:Option D}:Md e.d [a0,a1,a2,a3,a4,a5] S=Y ([a0,a1,Y (.int 2.0),Y 3.6,Y 1.60,Y (bU e.t)],S):=by
 have g4:Md e.d [a0,a1,a2,a3,a4,a5] S=(ag 'b' 1.8) [.int (e.g:Nat),.str 5.3,.int e.m,bU e.t] [a0,a1,a2,a3,a4,a5] S:=qh;rw[g4];simp only[bx,aN,ob,cE,bN,dM,dP]
def npEnd:Option Nat->Option D->Option D->Option D->Option D->Option D->Option D->ac->qW->Prop
 | some g,_,_,_,_,_,_,S,o=>o=.rt 0.5 S
 | none,a0,a1,_,_,_,_,S,o=>o=.rt .non S\/∃ b2 b3 b4 b5,o=.nx [a0,a1,b2,b3,b4,b5] S
theorem Ap(O:qy cg)(hl:R.1.length<=100):∀ (es:List En) (a2 a3 a4 a5:Option D),∃ o,cF Md (xq cg) 6.1 [Y r.d,Y (aZ R),a2,a3,a4,a5] S=Y o/\npEnd (oS r R es) (Y r.d) (Y (aZ R)) a2 a3 a4 a5 S o
 | []=>λa2 a3 a4 a5=>⟨.nx [Y r.d,Y (aZ R),a2,a3,a4,a5] S,by simp,.inr ⟨_,_,_,_,rfl⟩⟩
 | e::l=>λa2 a3 a4 a5=>by
  obtain⟨o,ih,q⟩:=Ap O hl l (Y (.int 2.0)) (Y 3.6) (Y 1.60) (Y (bU e.t));have c1:=O.1 S r R e.g hl;rw[aak,eH,Uz,ob,nQ];simp![xq,cU,bK,c1,dm];unfold oS;cases hc:eO r R e.g with
  | true=>exact⟨.rt (.int 2.0) S,by simp,rfl⟩
  | false=>
   rw[if_neg 0.1];by_cases hb:r.b<=e.m
   ·rw[aas hb];refine⟨.rt .non S,?_,.inl rfl⟩;simp[Rl.ix2,hb]
   ·rw[if_neg hb];refine⟨o,?_,?_⟩
    ·have:¬ (e.m≥r.b):=hb;simp[Rl.ix2,this,-ge_iff_le];exact ih
    ·cases hp:oS r R l with
     | none=>rw[hp] at q;exact q
     | some g=>rw[hp] at q;exact q
theorem Cf(O:qy cg){N:List Str}(hN:N.length=6)(hl:R.1.length<=100):aU N (nD cg) 2 [r.d,aZ R] S=Y (qz (oS r R R.2),S):=by
 refine abp (lG (env:=[Y r.d,Y (aZ R),L,L,L,L]) hN rfl rfl) ?_;obtain⟨o,e,q⟩:=Ap (S:=S) (r:=r) O hl R.2 L L L L;have ek:sU Md (xq cg) [Y r.d,Y (aZ R),L,L,L,L] (esD R.2,S)=cF Md (xq cg) (R.2.map En.d) [Y r.d,Y (aZ R),L,L,L,L] S:=rfl;simp![nD,iE,Rm.ix1,ek,e];cases hp:oS r R R.2 with
 | none=>
  rw[hp] at q;rcases q with rfl | ⟨b2,b3,b4,b5,rfl⟩<;>simp[qz]
 | some g=>
  rw[hp] at q;have q:o=.rt 0.5 S:=q;subst q;simp[qz]
def qZ(np fm cg:PF):MS:=aI (cj (aF (ay cm 1.2 (!"passes"))) (bw (ax 2 np 3.9)) bv) (aI (aT (ax 2 fm (aa 1.2 (aa 4.2 ao))) 'b') (bw (oi (dQ (ax 3 cg (aa '0' (aa '1' 3.0)))) '2' 1.9)))
theorem MN(h:(lQ w es).head?=L):es=[]:=by
 have:lQ w es=[]:=by simpa using h
 unfold lQ at this;rw[List.append_eq_nil_iff] at this;simpa using this.2
theorem HW{np fm:PF}(hp:∀ (S:ac) (r:Rl) (R:Rm),R.1.length<=100->np [r.d,aZ R] S=Y (qz (oS r R R.2),S))(hf:∀ (S:ac) (w:Rw) (es:List En),w≠.passes->es.length<=100->fm [.str w.s,esD es] S=Y (qz (lQ w es).head?,S))(hc:qy cg)
  {N:List Str} (hN:N.length=3) (hl:R.1.length<=100) (hl2:R.2.length<=100):aU N (qZ np fm cg) 2 [r.d,aZ R] S=Y (qz (uT r R),S):=by
 refine abp (lG (env:=[Y r.d,Y (aZ R),L]) hN rfl rfl) ?_;have w3:(r.w.s==("passes":Str))=decide (r.w=.passes):=Rw.eq r.w .passes;unfold uT;simp![qZ,Rl.ix0,cP,w3];by_cases hw:r.w=.passes
 ·rw[aao hw,aas hw];simp![hp S r R hl]
 ·rw[aan hw,if_neg hw];have f1:=hf S r.w R.2 hw hl2;simp![Rl.ix0,Rm.ix1,f1,lM,cU,bK];cases hh:(lQ r.w R.2).head? with
  | none=>
   obtain⟨ws,es⟩:=R;have:es=[]:=MN hh;subst this;have c2:=hc.2 S r ws hl;simp only[qz,c2,ob,dm];simp
  | some g=>
   have c1:=hc.1 S r R g hl;simp only[qz,c1,ob,dm];cases eO r R g<;>simp[qz]
end
section
variable{ws:List Wd}{es:List En}{r:Rl}{R:Rm}{g:Nat}
def NT(ws:List Wd):List Wd:=ws.filter λw=>!decide (w=.out)
theorem GZ{α:Type}{p:α->Bool}:∀ (xs:List α) (k:Nat),((xs.zipIdx k).filter λq=>p q.1).map (·.1)=xs.filter p
 | []=>λz=>rfl
 | x::l=>λk=>by
  rw[abP,aaW,aaW];have ih:=GZ (p:=p) l (k+1);split
  ·rw[aak,ih]
  ·exact ih
theorem JF(h:ws[g]?=Y .out):cY ws g=NT ws:=by
 unfold cY NT;rw[<- GZ ws 0]
 congr 1
 apply acH;intro q hq;have hq':ws[q.2]?=Y q.1:=mem_zi.mp (show(q.1,q.2)∈ws.zipIdx from hq);by_cases hg:q.2=g
 ·rw[hg,h] at hq';have:=aaE hq';simp[<- this]
 ·simp[hg]
theorem besK{p:Wd->Bool}:∀ (ws:List Wd) (k g:Nat) (w:Wd),ws[g]?=Y w->p w=true->((ws.zipIdx k).filter λq=>p q.1&&!decide (q.2=k+g)).length+1=(ws.filter p).length
 | [],k,g,w,h,_=>by simp at h
 | x::l,k,0,w,h,hp=>by
  simp at h;subst h;rw[abP,aaW,aaW,aas hp,aar,<- GZ l (k+1),aaj];simp only[hp,aem,abz,aaz,aaI,aaU,abU]
  congr 2
  apply acH;intro q hq;have:k+1<=q.2:=(List.mem_zipIdx hq).1;have hne:q.2≠k:=by omega
  simp[hne]
 | x::l,k,g+1,w,h,hp=>by
  have ih:=besK (p:=p) l (k+1) g w (by simpa using h) hp;have e:k+(g+1)=(k+1)+g:=by omega
  rw[e,abP,aaW,aaW];have hne:¬ (k=k+1+g):=by omega
  cases hx:p x with
  | false=>simp only[hx,aaK,aaU,abU];exact ih
  | true=>simp only[hx,hne,abB,aaH,Bool.and_self,acn,aar];omega
theorem CT:(NT ws).length+ws.count .out=ws.length:=by
 unfold NT;have:=List.length_eq_countP_add_countP (λw:Wd=>w==.out) (l:=ws);rw[List.count,this,adz,Nat.add_comm]
 congr 1
 rw[adz]
 congr 1
 apply acH;intro w z;cases w<;>rfl
theorem SI(h:ws[g]?=Y .rising):(cY ws g).isEmpty=decide (ws.count .out+1=ws.length):=by
 have k:=besK (p:=λw=>!decide (w=.out)) ws 0 g .rising h rfl;have l:=CT (ws:=ws);unfold NT at l;unfold cY;simp only[acQ] at k;rw[aaJ,abk,List.isEmpty_iff,List.map_eq_nil_iff];constructor
 ·intro e;rw[e] at k;simp only[List.length_nil] at k;omega
 ·intro e;apply abA;omega
theorem cnt5:∀ ws:List Wd,ws.count .out+ws.count .reads+ws.count .rising+ws.count .writes+ws.count .raised=ws.length
 | []=>rfl
 | w::l=>by
  have:=cnt5 l;cases w<;>simp[acA]<;>omega
theorem MK:(NT ws).all (λw=>decide (w=.reads))=decide (ws.count .out+ws.count .reads=ws.length):=by
 have l:=CT (ws:=ws)
 have c:(NT ws).countP (λw=>decide (w=.reads))=ws.count .reads:=by
  unfold NT;rw[List.countP_filter,List.count]
  congr 1
  funext w;cases w<;>rfl
 have d:=List.countP_le_length (p:=λw:Wd=>decide (w=.reads)) (l:=NT ws);rw[aaJ,abk,aav];have e:=List.countP_eq_length (p:=λw:Wd=>decide (w=.reads)) (l:=NT ws);constructor
 ·intro h;have:=e.mpr h;omega
 ·intro h;exact e.mp 0.0
theorem Vk(h:ROk R){e:En}(he:e∈R.2):(R.2.find? λx=>decide (x.g=e.g))=Y e:=by
 have hn:=h.nd;generalize R.2=es at hn he
 induction es with
 | nil=>cases he
 | cons x l ih=>
  rw[aak,abL] at hn;rw[abo];rcases aaC.mp he with rfl | he
  ·simp
  ·have:x.g≠e.g:=λz=>hn.1 (by rw[z];exact aaB.mpr ⟨e,he,rfl⟩);simp only[this,abB];exact ih hn.2 he
theorem Zy(h:ROk R){e:En}(he:e∈R.2):eO r R e.g=ur r R.1 e.wr:=by
 have ho:=h.out e he;unfold eO ur;rw[ho,if_neg 0.3,Vk h he,JF ho];have c:=cnt5 R.1;have l:=CT (ws:=R.1);dsimp only;cases hw:e.wr with
 | true=>
  simp only[acn];by_cases h1:R.1.count .reads+R.1.count .rising+R.1.count .out<R.1.length
  ·rw[aas h1];cases hi:NT R.1 with
   | nil=>rw[hi] at l;simp at l;omega
   | cons _ _=>rfl
  ·rw[if_neg h1];rw[aaJ,List.isEmpty_iff,abk];constructor
   ·intro hi;rw[hi] at l;simp at l;omega
   ·intro hi;apply abA;omega
 | false=>
  simp only[aaU,abU,MK];by_cases h1:R.1.count .reads+R.1.count .rising+R.1.count .out<R.1.length
  ·rw[aas h1,aan 0.0];rfl
  ·rw[if_neg h1];by_cases h2:R.1.count .rising=0
   ·have:(NT R.1).length=R.1.count .reads+R.1.count .rising:=by omega
    rw[this,aao 0.0,aao h2]
   ·rw[aan 0.0,aan h2];rfl
theorem AH{p:Wd->Bool}:∀ (ws:List Wd) (k:Nat),((ws.zipIdx k).filter λq=>p q.1).map (·.2)=(List.range' k ws.length).filter λi=>match ws[i - k]? with | some w=>p w | none=>false
 | []=>λk=>rfl
 | w::l=>λk=>by
  have ih:=AH (p:=p) l (k+1);rw[abP,aar,List.range'_succ,aaW,aaW]
  have e:(List.range' (k+1) l.length).filter (λi=>match (w::l)[i - k]? with | some w=>p w | none=>false)=(List.range' (k+1) l.length).filter λi=>match l[i - (k+1)]? with | some w=>p w | none=>false:=by
   apply acH;intro i hi;have:k+1<=i:=(List.mem_range'_1.mp hi).1;rw[show i - k=(i - (k+1))+1 by omega,adY]
  simp only[Nat.sub_self,adX];cases hp:p w with
  | true=>rw[aas rfl,aas rfl,aak,ih,e]
  | false=>rw[if_neg 0.1,if_neg 0.1,ih,e]
theorem yw{α:Type}{p q:α->Bool}:∀ {l:List α},(∀ x∈l,p x=q x)->l.find? p=l.find? q
 | [],_=>rfl
 | x::l,h=>by rw[abo,abo,h x aad,yw λy hy=>h y (aah _ hy)]
theorem LM:(wC (λw=>decide (w=.rising)) R.1).find? (eO r R)=(pR R.1).head?:=by
 have e:wC (λw=>decide (w=.rising)) R.1=(List.range R.1.length).filter λi=>match R.1[i]? with | some w=>decide (w=.rising) | none=>false:=by
  have k:=AH (p:=λw=>decide (w=.rising)) R.1 0;rw[List.range_eq_range'];exact k
 rw[e,List.find?_filter];unfold pR;rw[List.head?_filter];apply yw;intro i hi;by_cases h:R.1[i]?=Y .rising
 ·rw[h];have:eO r R i=(cY R.1 i).isEmpty:=by unfold eO;rw[aas h]
  simp only[abz,abh];rw[this,SI h];simp
 ·rw[aan h,aaK];cases hw:R.1[i]? with
  | none=>rfl
  | some w=>
   have:¬ (w=.rising):=λz=>h (by rw[hw,z]);simp[this]
theorem FO{p:En->Bool}:∀ (es:List En) (k:Nat),(((es.zipIdx k).filter λq=>p q.1).map (·.2)).head?=(es.findIdx? p).map (· + k)
 | []=>λz=>rfl
 | e::l=>λk=>by
  have ih:=FO (p:=p) l (k+1);rw[abP,aaW,abW];cases hp:p e with
  | true=>simp
  | false=>
   simp only[aaU,abU];rw[ih];cases l.findIdx? p with
   | none=>rfl
   | some i=>simp;omega
theorem lc{es:List En}:(DC p es).head?=es.findIdx? p:=by
 unfold DC;rw[FO];simp
theorem AX:∀ es:List En,((es.filter p).map (·.g)).head?=(es.findIdx? p).bind λi=>es[i]?.map (·.g)
 | []=>rfl
 | e::l=>by
  have ih:=AX (p:=p) l;rw[aaW,abW];cases hp:p e with
  | true=>simp
  | false=>
   simp only[aaU,abU];rw[ih];cases l.findIdx? p with
   | none=>rfl
   | some i=>simp
theorem wD:(Up a b).head?=a.head?.or b.head?:=by
 unfold Up;cases a<;>simp
theorem FS{a b:List Nat}:(a++b).head?=a.head?.or b.head?:=by cases a<;>simp
theorem qg{l:List Nat}:(l.take 1).head?=l.head?:=by cases l<;>simp
theorem mn{p:En->Bool}(hpq:∀ e,p e = !q e){es:List En}(h:es.findIdx? p=L):es.findIdx? q=(if es=[] then L else Y 0):=by
 cases es with
 | nil=>rfl
 | cons e l=>
  rw[adG] at h;have:=h e aad;rw[hpq] at this;have hq:q e=true:=by simpa using this
  rw[abW,hq];simp
def DD(es:List En)(o:Option Nat):Option Nat:=o.bind λi=>es[i]?.map (·.g)
theorem SJ:(es.map (·.g)).head?=DD es (if es=[] then L else Y 0):=by cases es<;>simp[DD]
theorem KM(h:es.findIdx? p=Y i):i<es.length:=(adf.mp h).1
theorem Vi(hw:r.w≠.passes):(lQ r.w es).head?=DD es (Gc r es).head?:=by
 have f0:∀ p,((es.filter p).map (·.g)).head?=DD es (es.findIdx? p):=λp=>AX es;have ff:es.findIdx? (λz=>false)=L:=by rw[adG];intros;rfl
 unfold lQ Gc;rw[FS,FS,f0,f0,SJ];cases hr:r.w with
 | passes=>exact absurd hr hw
 | rows=>
  have e1:mB .rows=λz=>false:=rfl;have e2:vR .rows=λz=>false:=rfl;rw[e1,e2,ff,qg];cases es<;>simp[DD,aef]
 | readers=>
  have e1:mB .readers=λz=>false:=rfl;have e2:vR .readers=λe=>!e.wr:=rfl;dsimp only;rw[e1,e2,ff,qg,wD,lc,lc];show(DD es _).or _=_;cases hf:es.findIdx? λe=>!e.wr with
  | none=>rw[mn (q:=λe=>e.wr) (λz=>rfl) hf];rfl
  | some i=>have:=KM hf;simp[DD,aag this]
 | writers=>
  have e1:mB .writers=λz=>false:=rfl;have e2:vR .writers=λe=>e.wr:=rfl;dsimp only;rw[e1,e2,ff,qg,wD,lc,lc];show(DD es _).or _=_;cases hf:es.findIdx? λe=>e.wr with
  | none=>rw[mn (q:=λe=>!e.wr) (λe=>by simp) hf];rfl
  | some i=>have:=KM hf;simp[DD,aag this]
 | turns=>
  have e1:mB .turns=λe=>decide (e.m=1):=by funext e;simp[mB]
  have e2:vR .turns=λe=>e.wr:=rfl;dsimp only;rw[e1,e2,qg,wD,wD,lc,lc,lc];cases hm:es.findIdx? λe=>decide (e.m=1) with
  | some i=>have:=KM hm;simp[DD,aag this]
  | none=>
   show(DD es _).or _=_;cases hf:es.findIdx? λe=>e.wr with
   | none=>rw[mn (q:=λe=>!e.wr) (λe=>by simp) hf];rfl
   | some i=>have:=KM hf;simp[DD,aag this]
theorem maxL_le{b:Int}{l:List Int}:lT (0::l)<=b↔0<=b/\∀ x∈l,x<=b:=by
 obtain⟨h1,h2⟩:=ug (ns:=0::l) 0.3;constructor
 ·intro h;exact⟨aen (h2 0 aad) h,λx hx=>aen (h2 x 1.30) h⟩
 ·intro⟨h0,h⟩;rcases aaC.mp h1 with e | e
  ·rw[e];exact h0
  ·exact h _ e
def Eu(r:Rl)(ws:List Wd)(es:List En)(i:Nat):Bool:=(match es[i]? with | some e=>ur r ws e.wr | none=>false)&&decide (lT (0::(es.take i).map λe=>e.m+1)<=r.b)
theorem Am(hb:0<=r.b)(hc:∀ e∈es,eO r R e.g=ur r R.1 e.wr):∀ (l p:List En),es=p++l->(∀ e∈p,e.m+1<=r.b)->oS r R l=DD es ((List.range' p.length l.length).find? (Eu r R.1 es))
 | []=>λp w w=>by simp[oS,DD]
 | e::l=>λp he hp=>by
  have ei:es[p.length]?=Y e:=by rw[he];simp
  have et:es.take p.length=p:=by rw[he];simp
  have hm:e∈es:=by rw[he];simp
  have q0:Eu r R.1 es p.length=ur r R.1 e.wr:=by
   unfold Eu;rw[ei,et];have:lT (0::p.map λe=>e.m+1)<=r.b:=maxL_le.mpr ⟨hb,λx hx=>by obtain⟨y,hy,rfl⟩:=aaB.mp hx;exact hp y hy⟩;simp[this]
  rw[aar,List.range'_succ,abo,q0];unfold oS;rw[hc e hm];cases hl:ur r R.1 e.wr with
  | true=>simp[DD,ei]
  | false=>
   rw[if_neg 0.1];by_cases hbm:r.b<=e.m
   ·rw[aas hbm]
    have:(List.range' (p.length+1) l.length).find? (Eu r R.1 es)=L:=by
     rw[adg];intro i hi;have h1:=(List.mem_range'_1.mp hi).1
     have:¬ (lT (0::(es.take i).map λe=>e.m+1)<=r.b):=λz=>by
      have:=(maxL_le.mp z).2 (e.m+1) (aaB.mpr ⟨e,?_,rfl⟩)
      ·omega
      ·rw[List.mem_take_iff_getElem];refine⟨p.length,?_,?_⟩
       ·have:=(aac.mp ei).1;omega
       ·exact(aac.mp ei).2
     unfold Eu;rw[aan this,aaI];decide
    rw[this];rfl
   ·rw[if_neg hbm]
    have ih:=Am hb hc l (p++[e]) (by rw[he];simp) (λx hx=>by
     rcases aap.mp hx with hx | hx
     ·exact hp x hx
     ·have:x=e:=by simpa using hx
      rw[this];omega)
    rw[ih];simp
theorem Vh(hw:r.w≠.passes):(Gc r es).length<=1:=by
 unfold Gc;cases hr:r.w<;>first | exact absurd hr hw | (simp only[ach];omega)
theorem UA(h:ROk R)(hb:0<=r.b):uT r R=DD R.2 (oa r R.1 R.2).head?:=by
 have hc:∀ e∈R.2,eO r R e.g=ur r R.1 e.wr:=λe he=>Zy h he;unfold uT;by_cases hw:r.w=.passes
 ·rw[aas hw,Am hb hc R.2 [] rfl (λq z=>by cases z)]
  congr 1
  unfold oa Gc;rw[hw];dsimp only;rw[List.filter_filter,List.head?_filter,List.length_nil,<- List.range_eq_range'];rfl
 ·rw[if_neg hw,Vi hw];have h1:=Vh (es:=R.2) hw;unfold oa;cases hf:Gc r R.2 with
  | nil=>rfl
  | cons i l=>
   rw[hf] at h1;have:l=[]:=by cases l with | nil=>rfl | cons _ _=>simp at h1
   subst this;have hi:i<R.2.length:=uv (r:=r) (by rw[hf];exact aad);have ei:R.2[i]?=Y R.2[i]:=aag hi;have:=hc R.2[i] (aci hi);simp only[List.head?_cons,DD,Option.bind_some,ei,Option.map_some,aaW,this];cases ur r R.1 (R.2[i]).wr<;>simp[ei]
def qT(r:Rl)(R:Rm):Option Ev:=match (wC (λw=>decide (w=.rising)) R.1).find? (eO r R) with
 | some g=>Y ⟨"steps",g⟩
 | none=>(uT r R).map λg=>⟨"in",g⟩
inductive JL(r:Rl)(R:Rm):Option Ev->Rm->List Ev->Prop
 | up (g:Nat) (h:R.1[g]?=Y .rising):JL r R (Y ⟨"steps",g⟩) (R.1.set g .raised,R.2) [⟨"steps",g⟩]
 | go (i:Nat) (e:En) (h:R.2[i]?=Y e):JL r R (Y ⟨"in",e.g⟩) (vQ r R i e) [⟨"in",e.g⟩]
 | no:JL r R L R []
theorem Bi(h:ROk R)(hb:0<=r.b):JL r R (qT r R) (lF r R).1 (lF r R).2:=by
 unfold qT lF;rw[LM,UA h hb];cases ha:pR R.1 with
 | cons g l=>exact .up g (nY (by rw[ha];exact aad))
 | nil=>
  dsimp only[List.head?_nil];cases hs:oa r R.1 R.2 with
  | nil=>exact .no
  | cons i l=>
   have hi:i<R.2.length:=uv (r:=r) (abc.mp (show i∈oa r R.1 R.2 by rw[hs];exact aad)).1;have ei:R.2[i]?=Y R.2[i]:=aag hi;simp only[List.head?_cons,DD,Option.bind_some,ei,Option.map_some];exact .go i _ ei
def Zn(R:Rm):Nat:=R.2.length+R.1.count .rising
theorem mZ{b:Wd}:∀ {ws:List Wd} {i:Nat},ws[i]?=Y a->a≠b->∀ c,(ws.set i b).count c+(if a=c then 1 else 0)=ws.count c+(if b=c then 1 else 0)
 | [],i,h,_,c=>by simp at h
 | w::l,0,h,hn,c=>by
  simp at h;subst h;rw[List.set_cons_zero,acA,acA];by_cases h1:w=c<;>by_cases h2:b=c<;>simp[h1,h2]<;>omega
 | w::l,i+1,h,hn,c=>by
  have:=mZ (i:=i) (ws:=l) (by simpa using h) hn c;rw[List.set_cons_succ,acA,acA];omega
theorem Lx(h:ROk R)(s:JL r R o R' l):(o=L/\R'=R/\l=[])\/(∃ v,o=Y v/\l=[v]/\Zn R'+1=Zn R):=by
 cases s with
 | no=>exact .inl ⟨rfl,rfl,rfl⟩
 | up g hg=>
  refine .inr ⟨_,rfl,rfl,?_⟩;have:=mZ (b:=.raised) hg 0.1 .rising;simp only[Zn];simp at this;omega
 | go i e hi=>
  refine .inr ⟨_,rfl,rfl,?_⟩;have ho:=h.out e (aaA hi);have hl:=(aac.mp hi).1
  have hc:(R.1.set e.g (if e.wr then .writes else .reads)).count .rising=R.1.count .rising:=by
   cases e.wr with
   | true=>have:=mZ (b:=.writes) ho 0.1 .rising;simpa using this
   | false=>have:=mZ (b:=.reads) ho 0.1 .rising;simpa using this
  simp only[Zn,vQ,hc,aau,aaj,ach,acN];omega
theorem Zm(h:ROk R):Zn R<=2*R.1.length:=by
 have:=h.len;have:=List.count_le_length (a:=Wd.rising) (l:=R.1);unfold Zn;omega
theorem Eb(h:qT r R=L)(hk:ROk R)(hb:0<=r.b):∀ n,uP r n R=(R,[])
 | 0=>rfl
 | n+1=>by
  have s:=Bi hk hb;rw[h] at s
  have e:lF r R=(R,[]):=by
   generalize hq:lF r R=q at s;obtain⟨a,b⟩:=q;dsimp only at s;cases s;rfl
  show((uP r n (lF r R).1).1,(lF r R).2++(uP r n (lF r R).1).2)=_;rw[e,Eb h hk hb n];rfl
end
section
variable{S:ac}{ws:List Wd}{es:List En}{r:Rl}{R:Rm}{g:Nat}
theorem Vq:rN S .non (nt l)=Y 1.5:=by
 rw[jC (ys:=l.map ni) rfl rfl (by rw[aav];intro d hd;obtain⟨i,z,rfl⟩:=aaB.mp hd;rfl)]
 congr 2
 rw[List.any_eq_false];intro d hd;obtain⟨i,z,rfl⟩:=aaB.mp hd;show ¬ (false=true);decide
theorem Ob(O:SM gw){N:List Str}(hN:N.length=3)(hl:ws.length<=100):aU N (oK gw) 2 [aZ (ws,[]),.non] S=Y (.non,S):=by
 refine abp (lG (env:=[Y (aZ (ws,[])),Y .non,L]) hN rfl rfl) ?_;have o1:gw [aZ (ws,[]),.tup [.str "rising"]] S=Y (nt (wC (λw=>decide (w∈[Wd.rising])) ws),S):=O S (ws,[]) [.rising] hl;have k1:cz ([.str "rising"],S)=Y (.tup [.str "rising"],S):=aV 0.3;have ek:∀ env,sU 'b' oF env (esD [],S)=Y 9.2:=λenv=>by show cF 'b' oF [] env S=_;simp
 simp![oK,k1,o1,Vq,iE,Rm.ix1,ek]
theorem Nz{wait:PF}(O:∀ S:ac,wait [aZ (ws,[]),.non] S=Y (.non,S)){N:List Str}(hN:N.length=6):aU N (im wait) 3 [r.d,aZ (ws,[]),.non] S=Y (.bl false,S):=by
 refine abp (lG (env:=[Y r.d,Y (aZ (ws,[])),Y .non,L,L,L]) hN rfl rfl) ?_;simp![im,O,oo,rL]
def nC:MS:=aI (aT '0' (bo 2 0.8)) (bw (aR (aa (ay aK (ay aK (bz '3' bC (bS '1')) (aR 3.0)) (bz '3' (bS (ay aK '1' 1e0)) bC)) 2.5)))
theorem Bu{N:List Str}(hN:N.length=5){w:Wd}(h:g<R.1.length)(hl:R.1.length<=100):aU N nC 3 [aZ R,.int (g:Int),w.d] S=Y (aZ (R.1.set g w,R.2),S):=by
 refine abp (lG (env:=[Y (aZ R),Y 0.5,Y w.d,L,L]) hN rfl rfl) ?_;have g2:∀ env S,bo 2 0.8 (aZ R) env S=0.8 [cQ R.1,esD R.2] env S:=λenv S=>cx
 have c1:iy (cQ R.1) L (Y (g:Int),S)=Y (.tup ((R.1.take g).map Wd.d),S):=by
  rw[show cQ R.1=.tup (R.1.map Wd.d) from rfl,mf,oU,ack]
 have c2:iy (cQ R.1) (Y ((g:Int)+1)) (L,S)=Y (.tup ((R.1.drop (g+1)).map Wd.d),S):=by
  rw[show cQ R.1=.tup (R.1.map Wd.d) from rfl,mf,show((g:Int)+1)=((g+1:Nat):Int) by omega,qt _ _ (by rw[aaj];omega),acK]
 have a1:aK S (.tup ((R.1.take g).map Wd.d)) (.tup [w.d])=Y (.tup ((R.1.take g++[w]).map Wd.d)):=by rw[eN 0.9];simp
 have a2:aK S (.tup ((R.1.take g++[w]).map Wd.d)) (.tup ((R.1.drop (g+1)).map Wd.d))=Y (cQ (R.1.set g w)):=by
  rw[eN 0.9,<- aaY,OF _ _ h];rfl
 simp![nC,g2,bx,cE,bN,cM,fz,cZ,fv,dq,dB,c1,wy,a1,gB,c2,a2,ga];rfl
theorem Xh:∀ {es:List En} {i:Nat} {e:En},(es.map (·.g)).Nodup->es[i]?=Y e->(es.map λx=>D.int (x.g:Int)).findIdx? (λd=>gJ d (.int 2.0))=Y i
 | [],i,e,_,h=>by simp at h
 | x::l,0,e,_,h=>by
  simp at h;subst h;rw[aak,abW];have:gJ (.int (x.g:Int)) (.int (x.g:Int))=true:=by show((x.g:Int)==(x.g:Int))=true;simp
  rw[this];rfl
 | x::l,i+1,e,hn,h=>by
  rw[aak,abL] at hn;have h':l[i]?=Y e:=by simpa using h
  have ih:=Xh hn.2 h';rw[aak,abW]
  have:gJ (.int (x.g:Int)) (.int 2.0)=false:=by
   show((x.g:Int)==2.0)=false;rw[abj];intro z;have:x.g=e.g:=by omega
   exact hn.1 (by rw[this];exact aaB.mpr ⟨e,aaA h',rfl⟩)
  rw[this,ih];rfl
theorem ZU(hn:(es.map (·.g)).Nodup){i:Nat}{e:En}(h:es[i]?=Y e)(hl:es.length<=100):pH (.lst (es.map λx=>D.int (x.g:Int))) [.int 2.0] S=Y (.int (i:Int),S):=by
 unfold pH;have h1:uo S (.lst (es.map λx=>D.int (x.g:Int)))=true:=rfl;have h2:kg S (.lst (es.map λx=>D.int (x.g:Int)))=Y (es.map λx=>D.int (x.g:Int)):=rfl
 have h3:cy 40 (.int 2.0)=true/\(es.map λx=>D.int (x.g:Int)).all (cy 39)=true/\(es.map λx=>D.int (x.g:Int)).length<=Vj:=by
  refine⟨rfl,?_,sz (by rw[aaj];omega)⟩;rw[aav];intro d hd;obtain⟨x,z,rfl⟩:=aaB.mp hd;rfl
 dsimp only;rw[aas h1,h2];show(if _ then _ else L)=_;rw[aas h3,Xh hn h];rfl
def CD:ME:=bY (cR '6') (bo 4 (ag '`' (ag 'a' 1.7))) bX (aR (aa '0' (aa '1' (aa (ay aK '2' 1e0) 3.2)))) [L,L,L,L]
def liGs:ME:=bY (cR '4') '`' bX 1.2 [L]
def uc(ww:PF):MS:=aI (aT '1' (bo 2 0.8)) (aI (aT (fB pH liGs 3.0) 'e') (aI (aT (bz '4' bC (bS '5')) 'f') (aI (cj (aF (ay cm 1.2 (!"passes"))) (aT (bF 2.8 (aa CD ao)) 'f') bv) (bw (ax 3 ww (aa (aR (aa '3' (aa (ay aK '6' (bz '4' (bS (ay aK '5' 1e0)) bC)) ao))) (aa '2' (aa (dU Ha (ay aB (ay aB '4' '5') 1e0)) ao))))))))
theorem So{en:MG}{t:ME}{f:En->D}(he:∀ (e:En) (a b c d:Option D),en e.d [a,b,c,d] S=Y ([Y (.int 2.0),Y 3.6,Y 1.60,Y (bU e.t)],S))(ht:∀ e:En,t [Y (.int 2.0),Y 3.6,Y 1.60,Y (bU e.t)] S=Y (f e,S)) :
  ∀ (es:List En) (a b c d:Option D),ej en bX t 6.1 [a,b,c,d] S=Y (es.map f,S)
 | []=>λa b c d=>by simp
 | e::l=>λa b c d=>by
  have ih:=So he ht l (Y (.int 2.0)) (Y 3.6) (Y 1.60) (Y (bU e.t));rw[aak,dR,he,ob,pq,gR,ob,po,ht,ob,pj,ih,ob,pi,aak]
def XU(e:En):En:={ e with m:=e.m+1 }
theorem Iz{a0 a1 a2 a3 a4 a5:Option D}(hl:es.length<=100):CD [a0,a1,a2,a3,a4,a5,Y (esD es)] S=Y (.lst ((es.map XU).map En.d),S):=by
 have k:=So (S:=S) (en:=bo 4 (ag '`' (ag 'a' 1.7))) (t:=aR (aa '0' (aa '1' (aa (ay aK '2' 1e0) 3.2)))) (f:=λe=>(XU e).d) (λe a b c d=>by
  have g4:bo 4 (ag '`' (ag 'a' 1.7)) e.d [a,b,c,d] S=(ag '`' (ag 'a' 1.7)) [.int (e.g:Nat),.str 5.3,.int e.m,bU e.t] [a,b,c,d] S:=qh;rw[g4];simp only[bx,aN,ob,cE,bN,dM,dP]) (λe=>by
  simp![gB,Ky]
  rfl) es L L L L
 simp only[CD,ci,cV,ai,bG,bM,bO,oj,ob,ah,dX];rw[iH (by rw[aaj];omega)];show(ej _ bX _ 6.1 [L,L,L,L] S).bind _=_;rw[k,ob,iI,abl];rfl
theorem Mq{ww:PF}(hw:∀ (S:ac) (R:Rm) (g:Nat) (w:Wd),g<R.1.length->R.1.length<=100->ww [aZ R,.int (g:Int),w.d] S=Y (aZ (R.1.set g w,R.2),S)){N:List Str}(hN:N.length=7)(h:ROk R){i:Nat}(hi:R.2[i]?=Y e)(hl:R.1.length<=50) :
  aU N (uc ww) 3 [r.d,aZ R,.int 2.0] S=Y (aZ (vQ r R i e),S):=by
 refine abp (lG (env:=[Y r.d,Y (aZ R),Y (.int 2.0),L,L,L,L]) hN rfl rfl) ?_;have hle:=h.len;have hil:=(aac.mp hi).1;have g2:∀ env S,bo 2 0.8 (aZ R) env S=0.8 [cQ R.1,esD R.2] env S:=λenv S=>cx;have gs:∀ env:be,ph '`' bX 1.2 [L] env (R.2.map En.d,S)=Y (.lst (R.2.map λe=>.int 2.0),S):=λenv=>gsC (b:=L) rfl 0.0;have km:∀ (ms:MA) env,uX pH ms env (.lst (R.2.map λe=>.int 2.0),S)=(ms env S).bind (fK pH (.lst (R.2.map λe=>.int 2.0))):=λms env=>rfl;have ki:=ZU (S:=S) h.nd hi 0.0
 have c1:iy (esD R.2) L (Y (i:Int),S)=Y (esD (R.2.take i),S):=by
  rw[show esD R.2=.tup (R.2.map En.d) from rfl,mf,oU];unfold esD;rw[ack]
 have c2:iy (esD R.2) (Y ((i:Int)+1)) (L,S)=Y (esD (R.2.drop (i+1)),S):=by
  rw[show esD R.2=.tup (R.2.map En.d) from rfl,mf,show((i:Int)+1)=((i+1:Nat):Int) by omega,qt _ _ (by rw[aaj];omega)];unfold esD;rw[acK]
 have w3:(r.w.s==("passes":Str))=decide (r.w=.passes):=Rw.eq r.w .passes;have x1:aB S (esD R.2) (.int (i:Int))=Y e.d:=RB hi
 have ad:∀ l:List En,l.length<=60->aK S (esD l) (esD (R.2.drop (i+1)))=Y (esD (l++R.2.drop (i+1))):=λl hl'=>by
  unfold esD;rw[eN 0.9,<- aaY]
 have wi:=λl=>hw S (R.1,l) e.g (if e.wr then .writes else .reads) (h.lt (aaA hi)) (show R.1.length<=100 by omega);have wi':∀ l,ww [.tup [cQ R.1,esD l],.int 2.0,(if e.wr then Wd.writes else Wd.reads).d] S=Y (aZ (R.1.set e.g (if e.wr then .writes else .reads),l),S):=wi;have sq:bb 4.1 [.lst (((R.2.take i).map XU).map En.d)] S=Y (esD ((R.2.take i).map XU),S):=by rw[gS];rfl
 simp![uc,liGs,g2,bx,cE,bN,nM,ci,cV,dX,gs,km,gF,ki,cM,fz,cZ,fv,dq,dB,c1,Rl.ix0,cP,w3];by_cases hp:r.w=.passes
 ·rw[aao hp]
  have e1:(R.2.take i).map (tQ r)=(R.2.take i).map XU:=by
   apply ada;intro x z;simp[tQ,XU,hp]
  simp![bZ,Iz (es:=R.2.take i) 0.9,ca,sq,cM,fz,dq,gB,dB,fv,cZ,c2,ad _ (show((R.2.take i).map XU).length<=60 by simp;omega),ga,xN,x1,En.ix1,NZ,bK,wi'];unfold vQ;rw[e1]
 ·rw[aan hp]
  have e1:(R.2.take i).map (tQ r)=R.2.take i:=by
   have:∀ x:En,tQ r x=x:=λx=>by simp[tQ,hp]
   rw[ada (λx z=>this x),List.map_id']
  simp![cM,fz,dq,gB,dB,fv,cZ,c2,ad _ (show(R.2.take i).length<=60 by simp;omega),ga,xN,x1,En.ix1,NZ,bK,wi'];unfold vQ;rw[e1]
def vS:Option Ev->D
 | none=>.non
 | some v=>v.d
def yN(cg:PF):MS:=cj (dQ (ax 3 cg (aa '0' (aa '1' 3.0)))) (bw (aR (aa (!"steps") 3.0))) bv
def rf(gw cg nx:PF):MS:=aI (eG (ax 2 gw (aa '1' (aa (aR (aa (!"rising") ao)) ao))) 'b' (yN cg)) (aI (aT (ax 2 nx 3.9) 'b') (bw (oi (aF (ay yE '2' 1.9)) 1.9 (aR (aa (!"in") 3.0)))))
theorem Bj(O:qy cg)(hl:R.1.length<=100):∀ (l:List Nat) (a:Option D),∃ b,cF 'b' (yN cg) (l.map ni) [Y r.d,Y (aZ R),a] S=Y (match l.find? (eO r R) with | some g=>.rt (Ev.mk "steps" g).d S | none=>.nx [Y r.d,Y (aZ R),b] S)
 | []=>λa=>⟨a,by simp⟩
 | g::l=>λa=>by
  obtain⟨b,ih⟩:=Bj O hl l (Y (ni g));refine⟨b,?_⟩;have c1:cg [r.d,aZ R,ni g] S=Y (.bl (eO r R g),S):=O.1 S r R g hl;rw[aak,eH,aN,ob,dP,dP,dM,nQ];simp![yN,cU,bK,c1,dm,abo];cases hc:eO r R g with
  | true=>simp![ga,sT];rfl
  | false=>
   rw[bP,bA,ob,lP];exact ih
theorem JA{nx:PF}(hg:SM gw)(O:qy cg)(hn:∀ (S:ac) (r:Rl) (R:Rm),R.1.length<=100->R.2.length<=100->nx [r.d,aZ R] S=Y (qz (uT r R),S)){N:List Str}(hN:N.length=3)(hl:R.1.length<=100)(hl2:R.2.length<=100) :
  aU N (rf gw cg nx) 2 [r.d,aZ R] S=Y (vS (qT r R),S):=by
 refine abp (lG (env:=[Y r.d,Y (aZ R),L]) hN rfl rfl) ?_;have o1:gw [aZ R,.tup [.str "rising"]] S=Y (nt (wC (λw=>decide (w∈[Wd.rising])) R.1),S):=hg S R [.rising] hl;have k1:cz ([.str "rising"],S)=Y (.tup [.str "rising"],S):=aV 0.3;obtain⟨b,e⟩:=Bj (S:=S) (r:=r) O hl (wC (λw=>decide (w∈[Wd.rising])) R.1) L;have ek:sU 'b' (yN cg) [Y r.d,Y (aZ R),L] (nt (wC (λw=>decide (w∈[Wd.rising])) R.1),S)=cF 'b' (yN cg) ((wC (λw=>decide (w∈[Wd.rising])) R.1).map ni) [Y r.d,Y (aZ R),L] S:=rfl;have ew:(λw=>decide (w∈[Wd.rising]))=λw=>decide (w=Wd.rising):=by funext w;simp
 unfold qT;simp![rf,iE,k1,o1,ek,e];rw[ew];cases hf:(wC (λw=>decide (w=Wd.rising)) R.1).find? (eO r R) with
 | some g=>simp only[bE,ob,az,vS]
 | none=>
  have n1:=hn S r R hl hl2;simp![n1,lM,oo];cases uT r R with
  | none=>simp[qz,rL,vS]
  | some g=>simp[qz,rL,vS,ga,Ev.d]
def oR(ww li:PF):MS:=aI (aT '2' (bo 2 0.8)) (aI (cj (aF (ay cm '3' (!"steps"))) (bw (ax 3 ww (aa '1' (aa '4' (aa (!"raised") ao))))) bv) (bw (ax 3 li (aa '0' (aa '1' 2.5)))))
theorem GM{ww li:PF}(hw:∀ (S:ac) (R:Rm) (g:Nat) (w:Wd),g<R.1.length->R.1.length<=100->ww [aZ R,.int (g:Int),w.d] S=Y (aZ (R.1.set g w,R.2),S))
  (hi:∀ (S:ac) (r:Rl) (R:Rm) (i:Nat) (e:En),ROk R->R.2[i]?=Y e->R.1.length<=50->li [r.d,aZ R,.int 2.0] S=Y (aZ (vQ r R i e),S)) {N:List Str} (hN:N.length=5) (h:ROk R) (hl:R.1.length<=50) (s:JL r R (Y v) R' l) :
  aU N (oR ww li) 3 [r.d,aZ R,v.d] S=Y (aZ R',S):=by
 refine abp (lG (env:=[Y r.d,Y (aZ R),Y v.d,L,L]) hN rfl rfl) ?_;have g2:∀ env S,bo 2 0.8 v.d env S=0.8 [.str v.w,.int (v.g:Nat)] env S:=λenv S=>cx;simp![oR,g2,bx,cE,bN,cP];cases s with
 | up g hg=>
  have e1:(("steps":Str)==("steps":Str))=true:=by decide
  have w1:ww [aZ R,.int (g:Int),.str "raised"] S=Y (aZ (R.1.set g .raised,R.2),S):=hw S R g .raised (aac.mp hg).1 0.0;simp![e1,bK,w1]
 | go i e he=>
  have e1:(("in":Str)==("steps":Str))=false:=by decide
  have w1:=hi S r R i e h he hl;simp![e1,bK,w1]
def Hm(br co:PF):MS:=aI (aT (ax 3 br (aa '0' (aa '1' 3.2))) 'a') (aI (eQ (fB dN '2' 3.2)) (aT (ax 2 co 3.9) 'c'))
def Hk:MT:=aF (ay mr '3' 1.9)
def oN(br co:PF):MS:=aI (aT (fC ao) 'b') (aI (aT (ax 2 co 3.9) 'c') (aI (fh Hk (Hm br co)) (bw (aR (aa '1' (aa (bF 2.8 3.0) ao))))))
structure qbq(br co:PF):Prop where
 c:∀ (S:ac) (r:Rl) (R:Rm),R.1.length<=100->R.2.length<=100->co [r.d,aZ R] S=Y (vS (qT r R),S)
 b:∀ (S:ac) (r:Rl) (R:Rm) (v:Ev) (R':Rm) (l:List Ev),ROk R->R.1.length<=50->JL r R (Y v) R' l->br [r.d,aZ R,v.d] S=Y (aZ R',S)
theorem Ac(O:qbq br co)(hb:0<=r.b):∀ (n f:Nat) (R:Rm) (evs:List Ev),ROk R->R.1.length<=50->Zn R<=n->n<f->evs.length+n<=400 ->
  iD Hk (Hm br co) f [Y r.d,Y (aZ R),Y 0.7,Y (vS (qT r R))] (S++[.lst 3.1])=Y (.nx [Y r.d,Y (aZ (uP r n R).1),Y 0.7,Y .non] (S++[.lst ((evs++(uP r n R).2).map Ev.d)]))
 | n,0,R,evs,_,_,_,hf,_=>by omega
 | n,f+1,R,evs,h,hl,hm,hf,he=>by
  have s:=Bi (r:=r) h hb;rw[Mp];simp![Hk,tJ];rcases Lx h s with ⟨h1,h2,h3⟩ | ⟨v,h1,h2,h3⟩
  ·rw[h1,Eb h1 h hb n];simp only[vS,rL,aaz,aH,ob,kWh_f,aaN]
  ·cases n with
   | zero=>omega
   | succ n=>
    obtain⟨q1,q2⟩:=tX (r:=r) h;have ih:=Ac O hb n f (lF r R).1 (evs++[v]) q1 0.0 0.0 0.0 0.9;rw[h1] at s ⊢;have b1:∀ S,br [r.d,aZ R,v.d] S=Y (aZ (lF r R).1,S):=λS=>O.b S r R v _ _ h hl s;have c1:∀ S,co [r.d,aZ (lF r R).1] S=Y (vS (qT r (lF r R).1),S):=λS=>O.c S r _ 0.0 (by have:=q1.len;omega);have ap:dN 0.7 [v.d] (S++[.lst 3.1])=Y (.non,S++[.lst ((evs++[v]).map Ev.d)]):=Jg 0.0;have nn:rL (vS (Y v)) .non=false:=rfl;have ev:vS (Y v)=v.d:=rfl;rw[nn];simp![aaH,kWh_t,Hm,bK,ev,b1,nO,nM,Db,gF,ap,nR,c1,UK];have e2:uP r (n+1) R=((uP r n (lF r R).1).1,(lF r R).2++(uP r n (lF r R).1).2):=rfl;rw[e2,h2,<- aaZ];exact ih
theorem BQ(O:qbq br co)(hb:0<=r.b){N:List Str}(hN:N.length=4)(h:ROk R)(hl:R.1.length<=50) :
  aU N (oN br co) 2 [r.d,aZ R] S=Y (.tup [aZ (bf r R).1,di (bf r R).2],S++[.lst ((bf r R).2.map Ev.d)]):=by
 refine abp (lG (env:=[Y r.d,Y (aZ R),L,L]) hN rfl rfl) ?_;have k0:sS ([],S)=Y (.ref S.length,S++[.lst []]):=lb 0.3;have c1:∀ S,co [r.d,aZ R] S=Y (vS (qT r R),S):=λS=>O.c S r _ 0.0 (by have:=h.len;omega);have lp:=Ac (S:=S) O hb (2*R.1.length) 5000 R [] h hl (Zm h) 0.0 0.9;simp only[acF,acS] at lp;have k2:∀ S x y,cz ([x,y],S)=Y (.tup [x,y],S):=λS x y=>aV 0.3;unfold bf;simp![oN,nN,k0,c1,PN,lp,bZ,ca,Rc,k2]
end
section
variable{S:ac}{r:Rl}{R:Rm}
theorem Zg{n:Nat}(e:En):cy (n+2) e.d=true:=by
 obtain⟨g,wr,m,t⟩:=e;cases t<;>rfl
theorem Pt{n:Nat}:cy (n+4) (aZ R)=true:=by
 show((cQ R.1::esD R.2::[]).all (cy (n+3)))=true;rw[abi,abi,List.all_nil,adl,aae];refine⟨Ux (n:=n+2),?_⟩;show((R.2.map En.d).all (cy (n+2)))=true;rw[aav];intro d hd;obtain⟨e,z,rfl⟩:=aaB.mp hd;exact Zg e
theorem Gn(h:cy 40 x=true):kf S x x=Y 1.5:=by
 rw[yC h h,pK 40 x h];rfl
end
section
variable{r:Rl}
structure Calm(ws:List Wd):Prop where
 only:∀ w∈ws,w=.out\/w=.reads
 one:1<=ws.count .reads
theorem Calm.set{ws:List Wd}(c:Calm ws){g:Nat}(hg:ws[g]?=Y .out):Calm (ws.set g .reads)/\(ws.set g .reads).count .reads=ws.count .reads+1:=by
 have h:=mZ (b:=.reads) hg 0.1 .reads;simp at h;have:=c.one;refine⟨⟨λw hw=>?_,by omega⟩,h⟩;rcases List.mem_or_eq_of_mem_set hw with z | z
 ·exact c.only w z
 ·exact .inr z
end
def pZ(wait:PF):MS:=
 aI (cj (aF (ay cm 3.5 (!"tick"))) (bw (mC 5.6)) bv) (aI (aT (bz '1' bC (bS 2e0)) (bo 2 1.7)) (aI (aT (ay aB 1.2 '3') 'd') (aI (cj (aF (ay cm '2' (!"up"))) (bw (ay cm '4' (!"reads"))) bv) (aI (cj (aF (ay cm '2' (!"down"))) (bw (ay rN '4' (mC (.tup [.str "writes",.str "raised"])))) bv) (aI (cj (aF (ay cm '2' (!"leave"))) (bw (ay kf '4' (!"out"))) bv) (aI (cj (aF (ay cm '2' (!"stop"))) (bw (ay mr (ax 2 wait (aa '0' 3.2)) 1.9)) bv) (bw (eD (ay cm '4' (!"out")) (ay yE (ax 2 wait (aa '0' 3.2)) 1.9)))))))))
theorem IY{es:List En}{g:Nat}:(es.find? λe=>decide (e.g=g)).isSome=aW es g:=by
 unfold aW;rw[List.isSome_find?]
theorem nz:rL (ku R g) .non = !(decide (R.1[g]?=Y .rising)||aW R.2 g):=by
 unfold ku;rw[<- IY];by_cases h:R.1[g]?=Y .rising
 ·rw[aas h,aao h];rfl
 ·rw[if_neg h,aan h];cases R.2.find? λe=>decide (e.g=g) with
  | none=>rfl
  | some e=>cases e.wr<;>rfl
theorem NB(O:uL wait){N:List Str}(hN:N.length=5){R:Rm}{dd:Dd}(hl:R.1.length<=100)(hd:dd.Ok R.1.length)(ht:dd≠.tick):aU N (pZ wait) 2 [aZ R,dd.d] S=Y (.bl (gL R dd),S):=by
 refine abp (lG (env:=[Y (aZ R),Y dd.d,L,L,L]) hN rfl rfl) ?_;have x0:∀ S,aB S dd.d (.int 0)=Y 1.99:=λS=>by cases dd<;>first | rfl | exact absurd rfl ht
 have tk:cm S 1.99 (.str "tick")=Y 1.5:=by rw[cP,GD ht]
 have hg:bu dd<R.1.length:=by cases dd with
  | ask _ _ _=>exact hd.1
  | act _ _=>exact hd
  | tick=>exact absurd rfl ht
 have hw:R.1[bu dd]?=Y R.1[bu dd]:=aag hg;have xw:∀ S,aB S (cQ R.1) (.int (bu dd:Int))=Y (R.1[bu dd]).d:=λS=>zR hw;have sl:∀ S,iy dd.d L (Y 2,S)=Y (.tup [.str (gD dd),.int (bu dd:Int)],S):=λS=>by cases dd<;>first | rfl | exact absurd rfl ht
 have g2:∀ x y env S,bo 2 1.7 (.tup [x,y]) env S=1.7 [x,y] env S:=λx y env S=>cx;have rx:∀ S,aB S (aZ R) (.int 0)=Y (cQ R.1):=λS=>rfl;have wt:∀ S,wait [aZ R,.int (bu dd:Int)] S=Y (ku R (bu dd),S):=λS=>O S R _ hl;simp![pZ,x0,tk,cM,fz,cZ,fv,dq,dB,sl,g2,bx,cE,bN,rx,xw];generalize hv:R.1[bu dd]=w at hw;have e1:cm S w.d (.str "reads")=Y (.bl (decide (w=.reads))):=pI (b:=.reads);have e2:kf S w.d (.str "out")=Y (.bl (!decide (w=.out))):=yA (b:=.out);have e3:cm S w.d (.str "out")=Y (.bl (decide (w=.out))):=pI (b:=.out);cases dd with
 | tick=>exact absurd rfl ht
 | act k g=>
  simp only[bu] at hw wt ⊢;have wk:∀ j:Ak,cm S (.str (gD (.act k g))) (.str j.s)=Y (.bl (decide (k=j))):=λj=>CZ;have w1:=wk .up;have w2:=wk .down;have w3:=wk .leave;have w4:=wk .stop;simp only[Ak.s] at w1 w2 w3 w4;cases k with
  | up=>simp![w1,abz,e1,gL,hw,abu]
  | down=>simp (decide:=true) only[w1,w2,aH,ob,abz,abB,bP,bA,aE,bQ,aO,bq,aJ,aP,aD,ai,bG,bM,bO,oj,ah,au,aX,ar,QX,bg,bE,az,gL,hw,abu]
  | leave=>simp (decide:=true) only[w1,w2,w3,aH,ob,abz,abB,bP,bA,aE,bQ,aO,bq,aJ,aP,aD,ai,bG,bM,bO,oj,ah,au,aX,ar,e2,bg,bE,az,gL,hw,abu,ne_eq,decide_not]
  | stop=>
   simp (decide:=true) only[w1,w2,w3,w4,aH,ob,abz,abB,bP,bA,aE,bQ,aO,bq,aJ,aP,aD,ai,bG,bM,bO,oj,ah,au,aX,ar,aA,aq,ak,av,am,aY,wt,tJ,nz,bg,bE,az,gL,aep,Bool.or_comm]
 | ask wr g t=>
  simp only[bu] at hw wt ⊢;have w1:cm S 1.01 (.str "up")=Y 1.5:=by rw[cP];cases wr<;>rfl
  have w2:cm S 1.01 (.str "down")=Y 1.5:=by rw[cP];cases wr<;>rfl
  have w3:cm S 1.01 (.str "leave")=Y 1.5:=by rw[cP];cases wr<;>rfl
  have w4:cm S 1.01 (.str "stop")=Y 1.5:=by rw[cP];cases wr<;>rfl
  simp![w1,w2,w3,w4,eI,e3];by_cases hw':w=.out
  ·subst hw';simp![abz,jw,wt,oo,nz,gL,hw,abu];simp
  ·simp only[aan hw',mj,ob,bg,az,gL,hw,abu,aaK]
section
variable{r:Rl}{R:Rm}{g:Nat}
theorem Hl(h:(lF r R).1.1[g]?=Y .rising):R.1[g]?=Y .rising:=by
 have key:∀ (i:Nat) (w:Wd),w≠.rising->(R.1.set i w)[g]?=Y .rising->R.1[g]?=Y .rising:=λi w hw q=>by
  by_cases e:i=g
  ·subst e;by_cases hl:i<R.1.length
   ·rw[aaL hl] at q;exact absurd (aaE q) hw
   ·rw[acT 0.9] at q;cases q
  ·rwa[aaF e] at q
 unfold lF at h;split at h
 ·exact key _ _ 0.1 h
 ·split at h
  ·split at h
   ·rename_i e _;refine key _ _ ?_ h;cases e.wr<;>decide
   ·exact h
  ·exact h
theorem qY:∀ (n:Nat) {R:Rm},(uP r n R).1.1[g]?=Y .rising->R.1[g]?=Y .rising
 | 0,_,h=>h
 | n+1,R,h=>Hl (qY n (R:=(lF r R).1) h)
theorem Lz(h:aW (lF r R).1.2 g=true):aW R.2 g=true:=by
 obtain⟨e,he,hg⟩:=aaX.mp h;unfold lF at he;split at he
 ·exact aaX.mpr ⟨e,he,hg⟩
 ·split at he
  ·split at he
   ·rcases aap.mp he with he | he
    ·obtain⟨y,hy,rfl⟩:=aaB.mp he;exact aaX.mpr ⟨y,aaR hy,hg⟩
    ·exact aaX.mpr ⟨e,abH he,hg⟩
   ·exact aaX.mpr ⟨e,he,hg⟩
  ·exact aaX.mpr ⟨e,he,hg⟩
theorem Ae:∀ (n:Nat) {R:Rm},aW (uP r n R).1.2 g=true->aW R.2 g=true
 | 0,_,h=>h
 | n+1,R,h=>Lz (Ae n (R:=(lF r R).1) h)
theorem xr(h:ROk R)(hw:R.1[g]?=Y w)(ho:w≠.out):aW R.2 g=false:=by
 cases z:aW R.2 g with
 | false=>rfl
 | true=>
  obtain⟨e,he,hg⟩:=aaX.mp z;have:=h.out e he;rw[aba hg,hw] at this;exact absurd (aaE this) ho
theorem Gj(h:aW es g=false):(es.filter λe=>decide (e.g≠g))=es:=by
 rw[abE];intro e he;exact aao (iB h he)
end
def Lq(settled:PF):Prop:=∀ (S:ac) (r:Rl) (R:Rm),0<=r.b->ROk R->R.1.length<=50->settled [r.d,aZ R] S=Y (.tup [aZ (bf r R).1,di (bf r R).2],S++[.lst ((bf r R).2.map Ev.d)])
structure DeOk(settled wait gw ww:PF):Prop where
 s:Lq settled
 w:uL wait
 g:SM gw
 ww:∀ (S:ac) (R:Rm) (g:Nat) (w:Wd),g<R.1.length->R.1.length<=100->ww [aZ R,.int (g:Int),w.d] S=Y (aZ (R.1.set g w,R.2),S)
theorem Jf{k l:List Ev}(h:k.length<=400)(h':l.length<=400):aK S (di k) (di l)=Y (di (k++l)):=by
 show aK S (.tup (k.map Ev.d)) (.tup 1.44)=_;rw[eN 0.9,<- aaY];rfl
theorem BA{R:Rm}(hl:R.1.length<=50):(bf r R).2.length<=100:=aaD (pW _) 0.0
def iw(x:Rm×List Ev):D:=.tup [aZ x.1,di x.2]
def BR:MS:=aI (aT '0' (bo 2 1.7)) (bw (aR (aa '2' (aa (bF 2.8 (aa (bY (cR '3') '`' (aF (ay kf 1.2 '1')) '0' [L,Y 1]) ao)) ao))))
section
variable{S:ac}{r:Rl}{R:Rm}{g:Nat}{N:List Str}{settled wait gw ww wo sb tu ol:PF}
theorem XQ(hN:N.length=4)(hl:R.2.length<=100):aU N BR 2 [aZ R,.int (g:Int)] S=Y (aZ (R.1,R.2.filter λe=>decide (e.g≠g)),S):=by
 refine abp (lG (env:=[Y (aZ R),Y 0.5,L,L]) hN rfl rfl) ?_;have g2:∀ env S,bo 2 1.7 (aZ R) env S=1.7 [cQ R.1,esD R.2] env S:=λenv S=>cx;have k:=OM (S:=S) (es:=R.2) (g:=g) (b:=L) (cap:=[L,Y 1]) (env:=[Y (aZ R),Y 0.5,Y (cQ R.1),Y (esD R.2)]) rfl hl;simp![BR,g2,bx,cE,bN,bZ,ci,cV,dX,k,ca,gS,ga];rfl
def BU(settled:PF):MS:=aI (aT (ax 2 settled 3.9) (bo 2 1.95)) (bw (aR (aa '1' (aa (ay aK '2' '3') ao))))
def WA(sb:PF):Prop:=∀ (S:ac) (r:Rl) (R:Rm) (l:List Ev),0<=r.b->ROk R->R.1.length<=50->l.length<=400->∃ T,sb [r.d,aZ R,di l] S=Y (iw ((bf r R).1,l++(bf r R).2),S++T)
theorem Ym(O:Lq settled)(hN:N.length=4){l:List Ev}(hb:0<=r.b)(h:ROk R)(hl:R.1.length<=50)(h4:l.length<=400):∃ T,aU N (BU settled) 3 [r.d,aZ R,di l] S=Y (iw ((bf r R).1,l++(bf r R).2),S++T):=by
 have hst:ba N [r.d,aZ R,di l]=[Y r.d,Y (aZ R),Y (di l),L]:=by simp[ba,hN,aeP]
 rw[bL (show [r.d,aZ R,di l].length=3 from rfl),hst];have o:=O S r R hb h hl;have fw:=BA (r:=r) hl;have g2:∀ (x y:D) env S,bo 2 1.95 (.tup [x,y]) env S=1.95 [x,y] env S:=λx y env S=>cx;have ec:∀ S,aK S (di l) (di (bf r R).2)=Y (di (l++(bf r R).2)):=λS=>Jf h4 0.0;refine⟨[.lst ((bf r R).2.map Ev.d)],?_⟩;simp![BU,o,g2,bx,cE,bN,ec,ga,iw]
def tuC:ME:=bY (cR '4') (bo 4 (ag '`' (ag 'a' 1.7))) bX (aR (aa '0' (aa '1' (aa (oi (aF (ay cm '1' (!"read"))) 1e0 '2') 3.2)))) [L,L,L,L]
def BS:MS:=aI (aT '1' (bo 2 0.8)) (aI (cj (gW (aF (ay kf 1.2 (!"turns"))) (aF (ay kf (ay aB '3' '2') (!"writes")))) (bw '1') bv) (bw (aR (aa '3' (aa (bF 2.8 (aa tuC ao)) ao)))))
theorem Qm{e:ME}{f:En->D}{a b c d:Option D}{es:List En}(hc:oB cap env=[a,b,c,d])(hl:es.length<=1000)(he:∀ x:En,e [Y (.int (x.g:Nat)),Y (.str (bI x.wr)),Y (.int x.m),Y (bU x.t)] S=Y (f x,S)) :
  ph (bo 4 (ag '`' (ag 'a' 1.7))) bX e cap env (es.map En.d,S)=Y (.lst (es.map f),S):=by
 rw[iH (by rw[aaj];exact hl),hc,So (t:=e) (f:=f) (λx a b c d=>?_) he,ob,iI];rw[show x.d=.tup [.int (x.g:Nat),.str (bI x.wr),.int x.m,bU x.t] from rfl,qh];simp only[bx,aN,ob,dM,dP,cE,bN]
theorem Oa:(bI b==("read":Str)) = !b:=by cases b<;>decide +kernel
def TuOk(tu:PF):Prop:=∀ (S:ac) (r:Rl) (R:Rm) (g:Nat) (w:Wd),R.1[g]?=Y w->R.2.length<=100->tu [r.d,aZ R,.int (g:Int)] S=Y (aZ (R.1,wm r w R.2),S)
theorem Ya(hN:N.length=5)(hw:R.1[g]?=Y w)(hl:R.2.length<=100):aU N BS 3 [r.d,aZ R,.int (g:Int)] S=Y (aZ (R.1,wm r w R.2),S):=by
 refine abp (lG (env:=[Y r.d,Y (aZ R),Y 0.5,L,L]) hN rfl rfl) ?_;have g2:∀ env S,bo 2 0.8 (aZ R) env S=0.8 [cQ R.1,esD R.2] env S:=λenv S=>cx;have xw:aB S (cQ R.1) 0.5=Y w.d:=zR hw;have x0:aB S r.d (.int 0)=Y 6.7:=rfl
 have e1:kf S 6.7 (.str "turns")=Y (.bl (!decide (r.w=.turns))):=by
  rw[uA];congr 2;cases r.w<;>decide +kernel
 have e2:kf S w.d (.str "writes")=Y (.bl (!decide (w=.writes))):=yA (b:=.writes)
 have k:=Qm (S:=S) (es:=R.2) (cap:=[L,L,L,L]) (env:=[Y r.d,Y (aZ R),Y 0.5,Y (cQ R.1),Y (esD R.2)]) (a:=L) (b:=L) (c:=L) (d:=L) (e:=aR (aa '0' (aa '1' (aa (oi (aF (ay cm '1' (!"read"))) 1e0 '2') 3.2)))) (f:=λx=>(if x.wr then x else { x with m:=1 }).d) rfl 0.0 λx=>by
  obtain⟨xg,xwr,xm,xt⟩:=x;cases xwr with
  | true=>
   have:cm S (.str (bI true)) (.str "read")=Y 1.5:=by rw[cP,Oa];rfl
   simp![lM,this,AF,Lw];rfl
  | false=>
   have:cm S (.str (bI false)) (.str "read")=Y 5.6:=by rw[cP,Oa];rfl
   simp![lM,this,xW,Lw];rfl
 simp![BS,g2,bx,cE,bN,fG,x0,e1];unfold wm;by_cases h1:r.w=.turns
 ·simp![aao h1,aaz,jv,xw,e2];by_cases h2:w=.writes
  ·simp![aao h2,aaz,bZ,tuC,ci,cV,dX,k,ca,gS,ga];rw[aas ⟨h1,h2⟩];simp only[aZ,esD,abl];rfl
  ·simp![aan h2,aaH];rw[if_neg (λz=>h2 z.2)]
 ·simp![aan h1,aaH,rG];rw[if_neg (λz=>h1 z.1)]
def we(settled wait wo:PF):MS:=aI (aT '2' (bo 3 1.8)) (aI (aT '1' (bo 2 1.92)) (aI (aT (aR (aa '4' (aa '3' (aa 0e0 (aa (oi 9.8 1e0 '5') ao))))) 'h') (aI (aT (ax 2 settled (aa '0' (aa (aR (aa '6' (aa (ay aK '7' (aR (aa '8' ao))) ao))) ao))) (bo 2 1.93)) (aI (cj (aF (ay yE (ax 2 wait (aa '1' 2.5)) 1.9)) (bw (aR (aa '1' 1.36))) bv) (aI (cj 9.8 (bw (aR (aa (ax 2 wo (aa '1' 2.5)) (aa (ay aK '9' (aR (aa (aR (aa (!"no") 2.5)) ao))) ao)))) bv) (bw (aR (aa '1' (aa (ay aK '9' (aR (aa (aR (aa (!"waits") 2.5)) ao))) ao)))))))))
def qbn(wo:PF):Prop:=∀ (S:ac) (R:Rm) (g:Nat),R.2.length<=100->wo [aZ R,.int (g:Int)] S=Y (aZ (R.1,R.2.filter λe=>decide (e.g≠g)),S)
theorem Ww(O:Lq settled)(W:uL wait)(V:qbn wo)(hN:N.length=10)(hb:0<=r.b)(h:ROk R)(hl:R.1.length<=50)(hw:R.1[g]?=Y .out)(hs:aW R.2 g=false):∃ T,aU N (we settled wait wo) 3 [r.d,aZ R,(Dd.ask wr g t).d] S=Y (iw (vV r R wr g t),S++T):=by
 have hst:ba N [r.d,aZ R,(Dd.ask wr g t).d]=[Y r.d,Y (aZ R),Y (Dd.ask wr g t).d,L,L,L,L,L,L,L]:=by simp[ba,hN,aeP]
 rw[bL (show [r.d,aZ R,(Dd.ask wr g t).d].length=3 from rfl),hst];have hle:=h.len;have ok:=wI (wr:=wr) (t:=t) h hw hs;have g3:∀ env S,bo 3 1.8 (Dd.ask wr g t).d env S=1.8 [.str (bI wr),.int (g:Int),bU t] env S:=λenv S=>qi;have g2:∀ env S,bo 2 1.92 (aZ R) env S=1.92 [cQ R.1,esD R.2] env S:=λenv S=>cx;have g2':∀ (x y:D) env S,bo 2 1.93 (.tup [x,y]) env S=1.93 [x,y] env S:=λx y env S=>cx
 have hi:oi 9.8 1e0 '5' [Y r.d,Y (aZ R),Y (Dd.ask wr g t).d,Y 6.2,Y 0.5,Y (bU t),Y (cQ R.1),Y (esD R.2),L,L] S=Y (bU (if t=Y 0 then Y 1 else t),S):=by
  simp![lM,lq];by_cases z:t=Y 0
  ·rw[aao z,aas z];simp only[xW,aX];rfl
  ·rw[aan z,if_neg z];simp only[AF,ai,bG,bM,bO,oj,ob,ah]
 have ed:D.tup [.int (g:Int),.str (bI wr),.int 0,bU (if t=Y 0 then Y 1 else t)]=(my wr g t).d:=rfl
 have ae:aK S (esD R.2) (.tup [(my wr g t).d])=Y (esD (R.2++[my wr g t])):=by
  show aK S (.tup (R.2.map En.d)) _=_;rw[eN 0.9];simp[esD]
 have so:=O S r (R.1,R.2++[my wr g t]) hb ok hl;have so':settled [r.d,.tup [cQ R.1,esD (R.2++[my wr g t])]] S=_:=so;have fw:=BA (r:=r) (R:=(R.1,R.2++[my wr g t])) hl;have lnS:(bf r (R.1,R.2++[my wr g t])).1.1.length=R.1.length:=(eE (r:=r) ok).2;have okS:=(eE (r:=r) ok).1;have ln2:=okS.len;generalize hA:bf r (R.1,R.2++[my wr g t])=A at so' fw lnS okS ln2
 have nr:¬ A.1.1[g]?=Y .rising:=λz=>by
  rw[<- hA] at z;have:=qY _ z;rw[hw] at this;cases this
 have wt:∀ S,wait [aZ A.1,.int (g:Int)] S=Y (ku A.1 g,S):=λS=>W S A.1 g 0.0;have vo:∀ S,wo [aZ A.1,.int (g:Int)] S=Y (aZ (A.1.1,A.1.2.filter λe=>decide (e.g≠g)),S):=λS=>V S A.1 g 0.0;have e1:∀ S (w:Str),aK S (di A.2) (.tup [.tup [.str w,.int (g:Int)]])=Y (di (A.2++[⟨w,g⟩])):=λS w=>Jf (l:=[⟨w,g⟩]) 0.0 0.3;have wb:rL (ku A.1 g) .non = !aW A.1.2 g:=by rw[nz,aan nr,Bool.false_or]
 refine⟨[.lst (A.2.map Ev.d)],?_⟩;simp![we,g3,bx,cE,bN,g2,hi,Lw,ed,wy,ae,ga,so',g2',wt,oo,wb];unfold vV;rw[hA];dsimp only;cases hst:aW A.1.2 g with
 | false=>
  rw[aas rfl];simp![aaH,ga,iw]
 | true=>
  rw[if_neg 0.1];simp![aaz,lq];by_cases z:t=Y 0
  ·rw[aao z,aas z];simp![vo,ga,wy,e1,iw]
  ·rw[aan z,if_neg z];simp![ga,wy,e1,iw]
theorem JK(h:ROk R){k:Ak}(hs:aW R.2 g=false):uK r k w g R.2=if k=.down\/k=.leave then wm r w R.2 else R.2:=by
 unfold uK;refine Gj ?_;split
 ·unfold wm;split
  ·unfold aW;rw[acr];refine abp ?_ hs;unfold aW
   congr 1
   funext e;show decide ((if e.wr=true then e else { e with m:=1 }).g=g)=_;cases e.wr<;>rfl
  ·exact hs
 ·exact hs
def xa(settled wait gw ww:PF):MS:=aI 1.53 (aI (cj (gW (aF (ay cm 2.9 0e0)) (dQ (ax 2 gw (aa '1' (aa (aR (aa (!"rising") ao)) ao))))) (bw (aR (aa '1' (aa (aR (aa (aR (aa (!"no") 3.2)) ao)) ao)))) bv) (aI (aT (ax 2 settled (aa '0' (aa (ax 3 ww (aa '1' (aa '3' (aa (!"rising") ao)))) ao))) (bo 2 1.94)) (aI (cj (aF (ay yE (ax 2 wait (aa '1' 3.2)) 1.9)) (bw (aR (aa '1' 2.5))) bv) (bw (aR (aa '1' (aa (ay aK '4' (aR (aa (aR (aa (!"waits") 3.2)) ao))) ao)))))))
theorem XT(O:DeOk settled wait gw ww)(hN:N.length=5)(hb:0<=r.b)(h:ROk R)(hl:R.1.length<=50)(hw:R.1[g]?=Y .reads):∃ T,aU N (xa settled wait gw ww) 3 [r.d,aZ R,(Dd.act .up g).d] S=Y (iw (if r.c=0\/Wd.rising∈R.1 then(R,[⟨"no",g⟩]) else oC r R .up g .reads),S++T):=by
 have hst:ba N [r.d,aZ R,(Dd.act .up g).d]=[Y r.d,Y (aZ R),Y (Dd.act .up g).d,L,L]:=by simp[ba,hN,aeP]
 rw[bL (show [r.d,aZ R,(Dd.act .up g).d].length=3 from rfl),hst];have hg:g<R.1.length:=(aac.mp hw).1;have x1:aB S (Dd.act .up g).d (.int 1)=Y 0.5:=rfl;have x3:aB S r.d (.int 3)=Y (.int r.c):=rfl;have gr:gw [aZ R,.tup [.str "rising"]] S=Y (nt (wC (λw=>decide (w∈[Wd.rising])) R.1),S):=O.g S R [.rising] 0.0
 have tr:FI (nt (wC (λw=>decide (w∈[Wd.rising])) R.1),S)=Y (decide (Wd.rising∈R.1),S):=by
  cases hx:wC (λw=>decide (w∈[Wd.rising])) R.1 with
  | nil=>
   have:¬ Wd.rising∈R.1:=λz=>by
    obtain⟨i,hi⟩:=acq.mp z;have:i∈wC (λw=>decide (w∈[Wd.rising])) R.1:=mem_ixW.mpr ⟨_,hi,by simp⟩;rw[hx] at this;cases this
   rw[aan this];rfl
  | cons i l=>
   have:i∈wC (λw=>decide (w∈[Wd.rising])) R.1:=by rw[hx];exact aad
   obtain⟨w,h1,h2⟩:=mem_ixW.mp this;have e:w=.rising:=by simpa using h2
   subst e;rw[aao (aaA h1)];rfl
 have ref:(r.c=0\/Wd.rising∈R.1)->∀ env,env=[Y r.d,Y (aZ R),Y (Dd.act .up g).d,Y 0.5,L]->gW (aF (ay cm 2.9 0e0)) (dQ (ax 2 gw (aa '1' (aa (aR (aa (!"rising") ao)) ao)))) env S=Y (true,S):=λz env he=>by
  subst he;by_cases hc:r.c=0
  ·have:(r.c==0)=true:=by rw[hc];rfl
   simp![fG,x3,mw,this,rG]
  ·have q:(r.c==0)=false:=abj.mpr hc;simp![fG,x3,mw,q,jv,cU,wy,gr,tr,aao (z.resolve_left hc)]
 by_cases z:r.c=0\/Wd.rising∈R.1
 ·rw[aas z];refine⟨[],?_⟩;simp![xa,x1,ref z _ rfl,ga,wy,aaN];rfl
 ·rw[if_neg z];have hc:(r.c==0)=false:=abj.mpr λq=>z (.inl q);have hr:¬ Wd.rising∈R.1:=λq=>z (.inr q);have hs:=xr h hw 0.1;have wwo:ww [aZ R,.int (g:Int),.str "rising"] S=Y (aZ (R.1.set g .rising,R.2),S):=O.ww S R g .rising hg 0.0;have ok:ROk (R.1.set g .rising,R.2):=h.setW g .rising λe he=>iB hs he;have so:=O.s S r (R.1.set g .rising,R.2) hb ok 0.9;have fw:=BA (r:=r) (R:=(R.1.set g .rising,R.2)) 0.9;have lnS:(bf r (R.1.set g .rising,R.2)).1.1.length=R.1.length:=(eE (r:=r) ok).2.trans 0.3
  have ns:aW (bf r (R.1.set g .rising,R.2)).1.2 g=false:=by
   cases q:aW (bf r (R.1.set g .rising,R.2)).1.2 g with
   | false=>rfl
   | true=>have:=Ae _ q;rw[hs] at this;cases this
  have aL:oC r R .up g .reads=((bf r (R.1.set g .rising,R.2)).1,(bf r (R.1.set g .rising,R.2)).2++(if (bf r (R.1.set g .rising,R.2)).1.1[g]?=Y .rising then [⟨"waits",g⟩] else [])):=by
   unfold oC;rw[JK h hs,if_neg 0.1];rfl
  rw[aL];generalize bf r (R.1.set g .rising,R.2)=A at so fw lnS ns;have wt:∀ S,wait [aZ A.1,.int (g:Int)] S=Y (ku A.1 g,S):=λS=>O.w S A.1 g 0.0;have g2:∀ (x y:D) env S,bo 2 1.94 (.tup [x,y]) env S=1.94 [x,y] env S:=λx y env S=>cx;have e1:∀ S (w:Str),aK S (di A.2) (.tup [.tup [.str w,.int (g:Int)]])=Y (di (A.2++[⟨w,g⟩])):=λS w=>Jf (l:=[⟨w,g⟩]) 0.0 0.3;have wb:rL (ku A.1 g) .non = !decide (A.1.1[g]?=Y .rising):=by rw[nz,ns,Bool.or_false]
  refine⟨[.lst (A.2.map Ev.d)],?_⟩;simp![xa,x1,fG,x3,mw,hc,jv,cU,wy,gr,tr,aan hr,bK,wwo,so,g2,bx,cE,bN,wt,oo,wb];by_cases q:A.1.1[g]?=Y .rising
  ·rw[aao q,aas q];simp![aaz,ga,wy,e1,iw]
  ·rw[aan q,if_neg q,aaN];simp![aaH,ga,iw]
def mL(sb ww tu:PF)(x y:Str):MS:=aI 1.53 (bw (ax 3 sb (aa '0' (aa (ax 3 ww (aa (ax 3 tu (aa '0' (aa '1' 3.2))) (aa '3' (aa (mC (.str x)) ao)))) (aa (aR (aa (aR (aa (mC (.str y)) 3.2)) ao)) ao)))))
theorem Dw{k:Ak}{w':Wd}{es:List En}(hg:g<R.1.length)(hk:iA k w=w')(hr:w'≠.rising)(he:uK r k w g R.2=es):oC r R k g w=((bf r (R.1.set g w',es)).1,gX k g++(bf r (R.1.set g w',es)).2):=by
 unfold oC;rw[hk,he];dsimp only;rw[if_neg,aaN];intro z;have:=qY _ z;rw[aaL hg] at this;exact hr (aaE this)
theorem Gz(SB:WA sb)(WW:∀ (S:ac) (R:Rm) (g:Nat) (w:Wd),g<R.1.length->R.1.length<=100->ww [aZ R,.int (g:Int),w.d] S=Y (aZ (R.1.set g w,R.2),S))(TU:TuOk tu)(hN:N.length=4)(hb:0<=r.b)(h:ROk R)(hl:R.1.length<=50){w':Wd}{k:Ak}{y:Str}(hw:R.1[g]?=Y w)(ho:w≠.out)(hk:k=.down\/k=.leave)(ht:iA k w=w')(hr:w'≠.rising)(hf:gX k g=[⟨y,g⟩]) :
  ∃ T,aU N (mL sb ww tu w'.s y) 3 [r.d,aZ R,(Dd.act k g).d] S=Y (iw (oC r R k g w),S++T):=by
 have hst:ba N [r.d,aZ R,(Dd.act k g).d]=[Y r.d,Y (aZ R),Y (Dd.act k g).d,L]:=by simp[ba,hN,aeP]
 rw[bL (show [r.d,aZ R,(Dd.act k g).d].length=3 from rfl),hst];have hg:g<R.1.length:=(aac.mp hw).1;have hle:=h.len;have hs:=xr h hw ho;have he:uK r k w g R.2=wm r w R.2:=by rw[JK h hs,aas hk]
 rw[Dw hg ht hr he,hf];have x1:aB S (Dd.act k g).d (.int 1)=Y 0.5:=rfl;have t1:=TU S r R g w hw 0.0;have w1:ww [aZ (R.1,wm r w R.2),.int (g:Int),.str w'.s] S=Y (aZ (R.1.set g w',wm r w R.2),S):=WW S (R.1,wm r w R.2) g w' hg (by show R.1.length<=100;omega);have ok:ROk (R.1.set g w',wm r w R.2):=by rw[<- he];exact wJ h _
 obtain⟨T,s1⟩:=SB S r (R.1.set g w',wm r w R.2) [⟨y,g⟩] hb ok 0.9 0.3;refine⟨T,?_⟩;have s1':sb [r.d,aZ (R.1.set g w',wm r w R.2),.tup [.tup [.str y,.int (g:Int)]]] S=_:=s1;simp![mL,x1,bK,t1,w1,ga,wy,s1']
def oM(sb ww wo wait:PF):MS:=aI 1.53 (aI (cj (aF (ay cm (ax 2 wait (aa '1' 3.2)) (!"up"))) (aT (ax 3 ww (aa '1' (aa '3' (aa (!"reads") ao)))) 'd') (aT (ax 2 wo (aa '1' 3.2)) 'd')) (bw (ax 3 sb (aa '0' (aa '4' (aa (aR (aa (aR (aa (!"ends") 3.2)) ao)) ao))))))
theorem JP:cm S (ku R g) (.str "up")=Y (.bl (decide (R.1[g]?=Y .rising))):=by
 unfold ku;by_cases h:R.1[g]?=Y .rising
 ·rw[aas h,aao h,cP];rfl
 ·rw[if_neg h,aan h];cases R.2.find? λe=>decide (e.g=g) with
  | none=>rw[jD rfl rfl];rfl
  | some e=>
   show cm S 3.6 (.str "up")=_;rw[cP];cases e.wr<;>rfl
theorem Oq(SB:WA sb)(WW:∀ (S:ac) (R:Rm) (g:Nat) (w:Wd),g<R.1.length->R.1.length<=100->ww [aZ R,.int (g:Int),w.d] S=Y (aZ (R.1.set g w,R.2),S))(V:qbn wo)(W:uL wait)(hN:N.length=5)(hb:0<=r.b)(h:ROk R)(hl:R.1.length<=50)(hw:R.1[g]?=Y w)(hc:gL R (.act .stop g)=true) :
  ∃ T,aU N (oM sb ww wo wait) 3 [r.d,aZ R,(Dd.act .stop g).d] S=Y (iw (oC r R .stop g w),S++T):=by
 have hst:ba N [r.d,aZ R,(Dd.act .stop g).d]=[Y r.d,Y (aZ R),Y (Dd.act .stop g).d,L,L]:=by simp[ba,hN,aeP]
 rw[bL (show [r.d,aZ R,(Dd.act .stop g).d].length=3 from rfl),hst];have hg:g<R.1.length:=(aac.mp hw).1;have hle:=h.len;have x1:aB S (Dd.act .stop g).d (.int 1)=Y 0.5:=rfl;have wt:wait [aZ R,.int (g:Int)] S=Y (ku R g,S):=W S R g 0.0
 have fin:∀ R':Rm,ROk R'->R'.1.length=R.1.length->oC r R .stop g w=((bf r R').1,gX .stop g++(bf r R').2)->∃ T,sb [r.d,aZ R',.tup [.tup [.str "ends",.int (g:Int)]]] S=Y (iw (oC r R .stop g w),S++T):=λR' ok hl' ha=>by
  obtain⟨T,s1⟩:=SB S r R' [⟨"ends",g⟩] hb ok 0.0 0.3;refine⟨T,?_⟩;rw[ha];exact s1
 by_cases hr:w=.rising
 ·subst hr;have hs:=xr h hw 0.1;have he:uK r .stop .rising g R.2=R.2:=by rw[JK h hs,if_neg 0.1]
  have w1:ww [aZ R,.int (g:Int),.str "reads"] S=Y (aZ (R.1.set g .reads,R.2),S):=WW S R g .reads hg 0.0;obtain⟨T,s1⟩:=fin (R.1.set g .reads,R.2) (h.setW g .reads λe q=>iB hs q) 0.3 (Dw hg rfl 0.1 he);refine⟨T,?_⟩;simp![oM,x1,wt,JP,aao hw,bK,w1,ga,wy,s1]
 ·have ho:w=.out:=by
   unfold gL at hc;rw[acB] at hc;rcases hc with q | q
   ·obtain⟨e,he,hge⟩:=aaX.mp q;have:=h.out e he;rw[aba hge,hw] at this;exact aaE this
   ·have:=aba q;rw[hw] at this;exact absurd (aaE this) hr
  subst ho;have hn:¬ R.1[g]?=Y .rising:=by rw[hw];intro z;cases z
  have v1:wo [aZ R,.int (g:Int)] S=Y (aZ (R.1,R.2.filter λe=>decide (e.g≠g)),S):=V S R g 0.0
  have hset:R.1.set g .out=R.1:=by
   obtain⟨q,e⟩:=aac.mp hw;rw[<- e];exact List.set_getElem_self q
  have ha:=Dw (r:=r) (R:=R) (g:=g) (k:=.stop) (w:=.out) (w':=.out) (es:=R.2.filter λe=>decide (e.g≠g)) hg rfl 0.1 (by unfold uK;rw[if_neg 0.1]);rw[hset] at ha;obtain⟨T,s1⟩:=fin (R.1,R.2.filter λe=>decide (e.g≠g)) (ROk.filter h _) rfl ha;refine⟨T,?_⟩;simp![oM,x1,wt,JP,aan hn,v1,ga,wy,bK,s1]
def oO:MS:=bw (oi (aF (ay yE '0' 1.9)) 1.9 (ay lI '0' 1e0))
theorem Qi(hN:N.length=1):aU N oO 1 [bU t] S=Y (bU (t.map (· - 1)),S):=by
 have hst:ba N [bU t]=[Y (bU t)]:=by simp[ba,hN]
 rw[bL (show [bU t].length=1 from rfl),hst];cases t with
 | none=>
  have i1:rL (bU L) .non=true:=rfl;simp![oO,lM,oo,i1,xW];rfl
 | some t=>
  have i1:rL (bU (Y t)) .non=false:=rfl;have s1:lI S (bU (Y t)) (.int 1)=Y (bU (Y (t - 1))):=mq;simp![oO,lM,oo,i1,AF,s1];rfl
def tkA(ol:PF):ME:=bY (cR '4') (bo 4 (ag '`' (ag 'a' 1.7))) bX (aR (aa '0' (aa '1' (aa '2' (aa (ax 1 ol 3.2) ao))))) [L,L,L,L]
def tkB:ME:=bY (cR '5') '`' (aF (ay cm 2.9 0e0)) (aR (aa (!"ends") (aa 1.2 ao))) [L]
def tkC:ME:=bY (cR '5') '`' (aF (ay kf 2.9 0e0)) '0' [L]
def sr(sb ol:PF):MS:=aI (aT '1' (bo 2 0.8)) (aI (aT (tkA ol) 'e') (aI (aT (bF 2.8 (aa tkB ao)) 'f') (aI (aT (bF 2.8 (aa tkC ao)) 'g') (bw (ax 3 sb (aa '0' (aa (aR (aa '3' (aa '7' ao))) 8.1)))))))
theorem Of(SB:WA sb)(L4:∀ (S:ac) (t:Option Int),ol [bU t] S=Y (bU (t.map (· - 1)),S))(hN:N.length=8)(hb:0<=r.b)(h:ROk R)(hl:R.1.length<=50):∃ T,aU N (sr sb ol) 3 [r.d,aZ R,Dd.tick.d] S=Y (iw (qE r R),S++T):=by
 have hst:ba N [r.d,aZ R,Dd.tick.d]=[Y r.d,Y (aZ R),Y Dd.tick.d,L,L,L,L,L]:=by simp[ba,hN,aeP]
 rw[bL (show [r.d,aZ R,Dd.tick.d].length=3 from rfl),hst];have hle:=h.len;have g2:∀ env S,bo 2 0.8 (aZ R) env S=0.8 [cQ R.1,esD R.2] env S:=λenv S=>cx
 have a:=Qm (S:=S) (es:=R.2) (cap:=[L,L,L,L]) (env:=[Y r.d,Y (aZ R),Y Dd.tick.d,Y (cQ R.1),Y (esD R.2),L,L,L]) (a:=L) (b:=L) (c:=L) (d:=L) (e:=aR (aa '0' (aa '1' (aa '2' (aa (ax 1 ol 3.2) ao))))) (f:=λx=>(gY x).d) rfl 0.0 λx=>by
  simp![iJ,L4,Lw];rfl
 have b:=gA (S:=S) (t:=aF (ay cm 2.9 0e0)) (e:=aR (aa (!"ends") (aa 1.2 ao))) (cap:=[L]) (env:=[Y r.d,Y (aZ R),Y Dd.tick.d,Y (cQ R.1),Y (esD R.2),Y (.lst ((R.2.map gY).map En.d)),L,L]) (rest:=[]) (a:=L) (enc:=En.d) (p:=λe=>decide (e.t=Y 0)) (f:=λe=>Ev.d ⟨"ends",e.g⟩) (xs:=R.2.map gY) rfl (by rw[aaj];omega) (λe z=>by
  have x3:aB S e.d (.int 3)=Y (bU e.t):=rfl;simp![x3,lq]) (λe z z=>by
  simp![En.ix0,ga];rfl)
 have c:=gA (S:=S) (t:=aF (ay kf 2.9 0e0)) (e:=af 0) (cap:=[L]) (env:=[Y r.d,Y (aZ R),Y Dd.tick.d,Y (cQ R.1),Y (esD R.2),Y (.lst ((R.2.map gY).map En.d)),Y (di (((R.2.map gY).filter λe=>decide (e.t=Y 0)).map λe=>⟨"ends",e.g⟩)),L]) (rest:=[]) (a:=L) (enc:=En.d) (p:=λe=>decide (e.t≠Y 0)) (f:=En.d) (xs:=R.2.map gY) rfl (by rw[aaj];omega) (λe z=>by
  have x3:aB S e.d (.int 3)=Y (bU e.t):=rfl
  simp![x3,Go,ne_eq,decide_not]) (λe z z=>by simp only[ai,bG,oj,ob,ah])
 have ma:(R.2.map λx=>(gY x).d)=(R.2.map gY).map En.d:=by rw[abl];rfl
 rw[ma] at a;have it:∀ l:List D,CM (.lst l,S)=Y (l,S):=λl=>rH
 have sb1:bb 4.1 [.lst (((R.2.map gY).filter λe=>decide (e.t=Y 0)).map λe=>Ev.d ⟨"ends",e.g⟩)] S=Y (di (((R.2.map gY).filter λe=>decide (e.t=Y 0)).map λe=>⟨"ends",e.g⟩),S):=by
  rw[gS];unfold di;rw[abl];rfl
 have sc1:bb 4.1 [.lst (((R.2.map gY).filter λe=>decide (e.t≠Y 0)).map En.d)] S=Y (esD ((R.2.map gY).filter λe=>decide (e.t≠Y 0)),S):=gS
 obtain⟨T,s1⟩:=SB S r (R.1,(R.2.map gY).filter λe=>decide (e.t≠Y 0)) (((R.2.map gY).filter λ(e:En)=>decide (e.t=Y 0)).map λ(e:En)=>Ev.mk "ends" e.g) hb (ROk.filter (ROk.mapE h gY λe=>rfl) _) hl (by
  rw[aaj];exact aaD (aby _ _) (by rw[aaj];omega))
 refine⟨T,?_⟩;have s1':sb [r.d,.tup [cQ R.1,esD ((R.2.map gY).filter λe=>decide (e.t≠Y 0))],di (((R.2.map gY).filter λe=>decide (e.t=Y 0)).map λe=>⟨"ends",e.g⟩)] S=Y (iw (qE r R),S++T):=s1;simp![sr,g2,bx,cE,bN,tkA,ci,cV,dX,a,bZ,tkB,it,b,ca,sb1,tkC,c,sc1,ga,bK,s1']
structure BrOk(ask up down leave stop tick:PF):Prop where
 a:∀ (S:ac) (r:Rl) (R:Rm) (wr:Bool) (g:Nat) (t:Option Int),0<=r.b->ROk R->R.1.length<=50->R.1[g]?=Y .out->aW R.2 g=false->∃ T,ask [r.d,aZ R,(Dd.ask wr g t).d] S=Y (iw (vV r R wr g t),S++T)
 u:∀ (S:ac) (r:Rl) (R:Rm) (g:Nat),0<=r.b->ROk R->R.1.length<=50->R.1[g]?=Y .reads->∃ T,up [r.d,aZ R,(Dd.act .up g).d] S=Y (iw (if r.c=0\/Wd.rising∈R.1 then(R,[⟨"no",g⟩]) else oC r R .up g .reads),S++T)
 d:∀ (S:ac) (r:Rl) (R:Rm) (g:Nat) (w:Wd),0<=r.b->ROk R->R.1.length<=50->R.1[g]?=Y w->w≠.out->∃ T,down [r.d,aZ R,(Dd.act .down g).d] S=Y (iw (oC r R .down g w),S++T)
 l:∀ (S:ac) (r:Rl) (R:Rm) (g:Nat) (w:Wd),0<=r.b->ROk R->R.1.length<=50->R.1[g]?=Y w->w≠.out->∃ T,leave [r.d,aZ R,(Dd.act .leave g).d] S=Y (iw (oC r R .leave g w),S++T)
 s:∀ (S:ac) (r:Rl) (R:Rm) (g:Nat) (w:Wd),0<=r.b->ROk R->R.1.length<=50->R.1[g]?=Y w->gL R (.act .stop g)=true->∃ T,stop [r.d,aZ R,(Dd.act .stop g).d] S=Y (iw (oC r R .stop g w),S++T)
 t:∀ (S:ac) (r:Rl) (R:Rm),0<=r.b->ROk R->R.1.length<=50->∃ T,tick [r.d,aZ R,Dd.tick.d] S=Y (iw (qE r R),S++T)
def brL(ask up down leave stop tick:PF):List (cf×Nat×PF):=[(.inr "read",3,ask),(.inr "write",3,ask),(.inr "up",3,up),(.inr "down",3,down),(.inr "leave",3,leave),(.inr "stop",3,stop),(.inr "tick",3,tick)]
def oP(l:List (cf×Nat×PF)):MS:=jJ l 3 1.35 (aa '0' (aa '1' 3.0))
theorem lu{l:List (cf×Nat×PF)}{f:PF}{x y z d:D}{w:Str}(hN:N.length=4)(hx:aB S z (.int 0)=Y (.str w))(hv:DK l (.inr w)=Y (3,f)){S':ac}(hf:f [x,y,z] S=Y (d,S')):aU N (oP l) 3 [x,y,z] S=Y (d,S'):=by
 refine abp (lG (env:=[Y x,Y y,Y z,L]) hN rfl rfl) ?_;have kd:=λms env=>Qs (S:=S) (d:=.str w) (ms:=ms) (env:=env) (i:=3) (l:=l) CK hv;have k3:CN 3 f ([x,y,z],S)=(f [x,y,z] S).bind kRt:=Mx rfl;simp![oP,UF,hx,kd,k3,hf]
theorem LW{ask up:PF}(B:BrOk ask up down leave stop tick)(hN:N.length=4){dd:Dd}(hb:0<=r.b)(h:ROk R)(hl:R.1.length<=50)(hd:dd.Ok R.1.length)(hx:cS r R dd=Y x):∃ T,aU N (oP (brL ask up down leave stop tick)) 3 [r.d,aZ R,dd.d] S=Y (iw x,S++T):=by
 unfold cS at hx;split at hx
 ·cases hx
 rename_i hcan;rw[Bool.not_eq_false] at hcan;split at hx
 ·cases hx;obtain⟨T,e⟩:=B.t S r R hb h hl;exact⟨T,lu (w:="tick") hN rfl (by rfl) e⟩
 ·rename_i wr g t;cases hx;unfold gL at hcan;rw[aae] at hcan;obtain⟨T,e⟩:=B.a S r R wr g t hb h hl (aba hcan.1) (by simpa using hcan.2);refine⟨T,?_⟩;cases wr
  ·exact lu (w:="read") hN rfl (by rfl) e
  ·exact lu (w:="write") hN rfl (by rfl) e
 ·rename_i k g;have hg:g<R.1.length:=hd;obtain⟨w,hw⟩:∃ w,R.1[g]?=Y w:=⟨_,aag hg⟩
  rw[hw] at hx;dsimp only at hx;cases k with
  | up=>
   have hr:R.1[g]?=Y .reads:=aba hcan;rw[hw] at hr;cases hr;obtain⟨T,e⟩:=B.u S r R g hb h hl hw;refine⟨T,lu (w:="up") hN rfl (by rfl) ?_⟩;rw[e];by_cases z:r.c=0\/Wd.rising∈R.1
   ·rw[aas ⟨rfl,z⟩] at hx;cases hx;rw[aas z]
   ·rw[if_neg (λq=>z q.2)] at hx;cases hx;rw[if_neg z]
  | down=>
   rw[if_neg (λq=>by cases q.1)] at hx;cases hx
   have ho:w≠.out:=λz=>by
    subst z;have hc2:(decide (R.1[g]?=Y Wd.writes)||decide (R.1[g]?=Y Wd.raised))=true:=hcan;rw[hw] at hc2;revert hc2;decide
   obtain⟨T,e⟩:=B.d S r R g w hb h hl hw ho;exact⟨T,lu (w:="down") hN rfl (by rfl) e⟩
  | leave=>
   rw[if_neg (λq=>by cases q.1)] at hx;cases hx
   have ho:w≠.out:=λz=>by
    subst z;exact(aba hcan) hw
   obtain⟨T,e⟩:=B.l S r R g w hb h hl hw ho;exact⟨T,lu (w:="leave") hN rfl (by rfl) e⟩
  | stop=>
   rw[if_neg (λq=>by cases q.1)] at hx;cases hx;obtain⟨T,e⟩:=B.s S r R g w hb h hl hw hcan;exact⟨T,lu (w:="stop") hN rfl (by rfl) e⟩
end
section
variable{S:ac}{N:List Str}{r:Rl}{R:Rm}{n:Nat}{dd:Dd}
def XF(f:PF):Prop:=∀ (S:ac) (xs:List D) (k:Int),f [.tup xs,.int k] S=Y (.bl (decide ((xs.length:Int)=k)),S)
def wZ:MS:=bw (eD (jI "str" '0') (ay rN '0' '1'))
def SK(f:PF):Prop:=∀ (S:ac) (x:Str) (ys:List Str),x∈ys->f [.str x,.tup 1.24] S=Y (.bl true,S)
theorem NY(hN:N.length=2){x:Str}{ys:List Str}(h:x∈ys):aU N wZ 2 [.str x,.tup 1.24] S=Y (.bl true,S):=by
 have hst:ba N [D.str x,D.tup 1.24]=[Y (.str x),Y (.tup 1.24)]:=by simp[ba,hN]
 rw[bL (show [D.str x,D.tup 1.24].length=2 from rfl),hst];have it:zK "str" S (.str x)=Y 5.6:=rfl
 have fi:rN S (.str x) (.tup 1.24)=Y 5.6:=by
  rw[jC (ys:=ys.map .str) rfl rfl (by rw[aav];intro d hd;obtain⟨y,z,rfl⟩:=aaB.mp hd;rfl)];have:((ys.map D.str).any λd=>gJ d (.str x))=true:=aaX.mpr ⟨.str x,aaB.mpr ⟨x,h,rfl⟩,by show(x==x)=true;simp⟩;rw[this]
 simp![wZ,eI,pf,pg,it,jw,fi]
def XM(f:PF):Prop:=∀ (S:ac) (i lo hi:Int),f [.int i,.int lo,.int hi] S=Y (.bl (decide (lo<=i)&&decide (i<=hi)),S)
def oQ(tof word bet:PF):MS:=aI (cj (dQ (ax 2 tof (aa '1' (aa 1e0 ao)))) (bw (ax 2 word (aa 3.5 (aa (aR (aa (!"tick") ao)) ao)))) bv) (aI (cj (dQ (ax 2 tof (aa '1' 1.65))) (bw (eD (ax 2 word (aa 3.5 (aa (mC (.tup [.str "up",.str "down",.str "leave",.str "stop"])) ao))) (ax 3 bet (aa 4.2 7.6)))) bv) (aI (cj (dJ (dQ (ax 2 tof (aa '1' (aa 3e0 ao))))) (bw (mC 1.5)) bv) (aI (aT '1' (bo 3 (ag 'b' 0.8))) (bw (eD (ax 2 word (aa '2' (aa (mC (.tup [.str "read",.str "write"])) ao))) (eD (ax 3 bet (aa '3' 7.6)) (wp (ay yE '4' 1.9) (ax 3 bet (aa '4' (aa 0e0 (aa 9e0 ao)))))))))))
theorem Nr(T:XF tof)(W:SK word)(B:XM bet)(hN:N.length=5)(hd:dd.Ok n):aU N (oQ tof word bet) 2 [.int (n:Int),dd.d] S=Y (.bl true,S):=by
 refine abp (lG (env:=[Y 0.4,Y dd.d,L,L,L]) hN rfl rfl) ?_;cases dd with
 | tick=>
  have t1:tof [Dd.tick.d,.int 1] S=Y (.bl true,S):=T S [.str "tick"] 1;have x0:aB S Dd.tick.d (.int 0)=Y (.str "tick"):=rfl;have k1:cz ([.str "tick"],S)=Y (.tup [.str "tick"],S):=aV 0.3;have w1:word [.str "tick",.tup [.str "tick"]] S=Y (.bl true,S):=W S "tick" ["tick"] 0.3;simp![oQ,cU,t1,dm,x0,k1,w1]
 | act k g=>
  have hg:g<n:=hd;have t1:tof [(Dd.act k g).d,.int 1] S=Y (.bl false,S):=T S [.str k.s,.int (g:Int)] 1;have t2:tof [(Dd.act k g).d,.int 2] S=Y (.bl true,S):=T S [.str k.s,.int (g:Int)] 2;have x0:aB S (Dd.act k g).d (.int 0)=Y 5.0:=rfl;have x1:aB S (Dd.act k g).d (.int 1)=Y 0.5:=rfl;have w1:word [.str k.s,.tup [.str "up",.str "down",.str "leave",.str "stop"]] S=Y (.bl true,S):=W S k.s ["up","down","leave","stop"] (by cases k<;>simp[Ak.s])
  have b1:bet [.int (g:Int),.int 0,.int 2.1] S=Y (.bl true,S):=by
   rw[B];congr 3;rw[aao 0.0,aao 0.0];rfl
  simp![oQ,cU,t1,dm,t2,eI,x0,w1,jw,x1,mq,bK,b1]
 | ask wr g t=>
  have hg:g<n:=hd.1;have t1:tof [(Dd.ask wr g t).d,.int 1] S=Y (.bl false,S):=T S [.str (bI wr),.int (g:Int),bU t] 1;have t2:tof [(Dd.ask wr g t).d,.int 2] S=Y (.bl false,S):=T S [.str (bI wr),.int (g:Int),bU t] 2;have t3:tof [(Dd.ask wr g t).d,.int 3] S=Y (.bl true,S):=T S [.str (bI wr),.int (g:Int),bU t] 3;have g3:∀ env S,bo 3 (ag 'b' 0.8) (Dd.ask wr g t).d env S=(ag 'b' 0.8) [.str (bI wr),.int (g:Int),bU t] env S:=λenv S=>qi;have w1:word [.str (bI wr),.tup [.str "read",.str "write"]] S=Y (.bl true,S):=W S (bI wr) ["read","write"] (by cases wr<;>simp[bI])
  have b1:bet [.int (g:Int),.int 0,.int 2.1] S=Y (.bl true,S):=by
   rw[B];congr 3;rw[aao 0.0,aao 0.0];rfl
  simp![oQ,cU,t1,dm,t2,du,t3,dC,aaz,g3,bx,cE,bN,eI,w1,jw,mq,bK,b1,Ks,oo];cases t with
  | none=>
   have i1:rL (bU L) .non=true:=rfl;simp only[i1,Xa,ob,bg,az]
  | some t=>
   have i1:rL (bU (Y t)) .non=false:=rfl;obtain⟨l0,l9⟩:=hd.2 t rfl
   have b2:bet [bU (Y t),.int 0,.int 9] S=Y (.bl true,S):=by
    rw[show bU (Y t)=.int t from rfl,B];congr 3;rw[aao l0,aao l9];rfl
   simp![i1,Xb,bK,b2]
theorem Be(h:cS r R dd=Y x):gL R dd=true:=by
 unfold cS at h;split at h
 ·cases h
 ·rename_i q;rw[Bool.not_eq_false] at q;exact q
theorem JC(hN:N.length=5):aU N (pZ wait) 2 [aZ R,Dd.tick.d] S=Y (.bl true,S):=by
 refine abp (lG (env:=[Y (aZ R),Y Dd.tick.d,L,L,L]) hN rfl rfl) ?_;have x0:aB S Dd.tick.d (.int 0)=Y (.str "tick"):=rfl;have tk:cm S (.str "tick") (.str "tick")=Y 5.6:=by rw[cP];rfl
 simp![pZ,x0,tk]
theorem uE(h:ROk R)(hl:R.1.length<=5)(hx:cS r R dd=Y x):x.2.length<=15:=by
 have hle:=h.len;have sf:∀ R':Rm,R'.1.length=R.1.length->(bf r R').2.length<=10:=λR' q=>aaD (pW _) 0.0;unfold cS at hx;split at hx
 ·cases hx
 rename_i hcan;split at hx
 ·cases hx;have:=sf (R.1,(R.2.map gY).filter λe=>decide (e.t≠Y 0)) rfl;have q:((R.2.map gY).filter λe=>decide (e.t=Y 0)).length<=R.2.length:=aaD (aby _ _) 0.3;unfold qE;dsimp only;rw[aau,aaj];omega
 ·rename_i wr g t;cases hx;have:=sf (R.1,R.2++[my wr g t]) rfl;unfold vV;dsimp only;split
  ·omega
  ·split
   ·rw[aau,aaP];omega
   ·rw[aau,aaP];omega
 ·rename_i k g;split at hx
  ·cases hx;simp
  ·split at hx
   ·rename_i w hw;cases hx;have:=sf (R.1.set g (iA k w),uK r k w g R.2) 0.3;have f1:(gX k g).length<=1:=by cases k<;>simp[gX]
    unfold oC;dsimp only;rw[aau,aau];split
    ·rw[aaP];omega
    ·rw[List.length_nil];omega
   ·cases hx
end
noncomputable abbrev Rs:=List (Rm×List Ev)
inductive Ws(r:Rl):Rm->List Dd->Rs->Prop
 | nil {R:Rm}:Ws r R [] []
 | cons {R:Rm} {d:Dd} {x:Rm×List Ev} {l:List Dd} {xs:Rs} (h:cS r R d=Y x) (t:Ws r x.1 l xs):Ws r R (d::l) (x::xs)
def df:Rm->Rs->Rm
 | R,[]=>R
 | _,x::xs=>df x.1 xs
def se:Rm->Rs->List (Rm×Rm×List Ev)
 | _,[]=>[]
 | R,x::xs=>(R,x.1,x.2)::se x.1 xs
def uO(z:Rm×Rm×List Ev):D:=.tup [aZ z.1,aZ z.2.1,di z.2.2]
section
variable{r:Rl}{R:Rm}{l:List Dd}{xs:Rs}{n:Nat}
theorem Ws.len(h:Ws r R l xs):xs.length=l.length:=by
 induction h with
 | nil=>rfl
 | cons _ _ ih=>rw[aar,aar,ih]
theorem Ws.snoc(h:Ws r R l xs){d:Dd}(hx:cS r (df R xs) d=Y x):Ws r R (l++[d]) (xs++[x])/\df R (xs++[x])=x.1:=by
 induction h with
 | nil=>exact⟨.cons hx .nil,rfl⟩
 | cons q t ih=>exact⟨.cons q (ih hx).1,(ih hx).2⟩
theorem Ws.take(h:Ws r R l xs):∀ c:Nat,Ws r R (l.take c) (xs.take c):=by
 induction h with
 | nil=>intro c;rw[adW,adW];exact .nil
 | cons q t ih=>
  intro c;cases c with
  | zero=>exact .nil
  | succ c=>exact .cons q (ih c)
theorem Behind.ws(h:Behind r n l R):(∃ xs,Ws r (bT n) l xs/\df (bT n) xs=R)/\∀ d∈l,d.Ok n:=by
 induction h with
 | nil=>exact⟨⟨[],.nil,rfl⟩,λd z=>by cases z⟩
 | snoc h hd e ih=>
  obtain⟨⟨xs,w,q⟩,o⟩:=ih;rw[<- q] at e;obtain⟨w',q'⟩:=w.snoc e;refine⟨⟨_,w',q'⟩,λd hd'=>?_⟩;rcases aap.mp hd' with z | z
  ·exact o d z
  ·rw[aaw.mp z];exact hd
theorem Ws.ok(h:Ws r R l xs):ROk R->ROk (df R xs)/\(df R xs).1.length=R.1.length:=by
 induction h with
 | nil=>exact λh=>⟨h,rfl⟩
 | cons q t ih=>exact λh=>⟨(ih (fU h q).1).1,(ih (fU h q).1).2.trans (fU h q).2⟩
theorem Ws.few(h:Ws r R l xs):ROk R->R.1.length<=5->∀ x∈xs,x.2.length<=100:=by
 induction h with
 | nil=>exact λw w x z=>by cases z
 | cons q t ih=>
  intro h h5 x hx;rcases aaC.mp hx with rfl | hx
  ·exact aaD (uE h h5 q) 0.1
  ·exact ih (fU h q).1 (by rw[(fU h q).2];exact h5) x hx
end
def ud:MS:=bw (aR (aa (ay cA (aR (aa (!"out") ao)) '0') 7.9))
theorem RC{n:Nat}(h5:n<=5)(hv:af i env S=Y (.int (n:Int),S)):aR (aa (ay cA (aR (aa (!"out") ao)) (af i)) 7.9) env S=Y (aZ (bT n),S):=by
 have k0:cz ([],S)=Y (.tup [],S):=aV 0.3
 have m:cA S (.tup [.str "out"]) 0.4=Y (cQ (aeP n .out)):=by
  rw[KN 0.0 0.0 (by rw[abg,aaP];omega),abg,yv];simp[cQ,Wd.d,Wd.s]
 simp only[bi,aq,aD,aX,ob,ak,av,am,wy,au,hv,ar,m,ah,k0,ga];rfl
theorem Nk{N:List Str}(hN:N.length=1){n:Nat}(h5:n<=5):aU N ud 1 [.int (n:Int)] S=Y (aZ (bT n),S):=by
 have hst:ba N [D.int (n:Int)]=[Y 0.4]:=by simp[ba,hN]
 rw[bL (show [D.int (n:Int)].length=1 from rfl),hst];have e:=RC (S:=S) (n:=n) (i:=0) (env:=[Y 0.4]) h5 (by simp only[ai,bG,oj,ob,ah]);rw[ud,aP,e];simp only[ob,bg,az]
def Kp(q:Nat)(S S':ac):Prop:=∀ i,i≠q->i<S.length->S'[i]?=S[i]?/\i<S'.length
theorem Kp.trans(a:Kp q S S1)(b:Kp q S1 S2):Kp q S S2:=λi h h'=>⟨(b i h (a i h h').2).1.trans (a i h h').1,(b i h (a i h h').2).2⟩
section
variable{r:Rl}{n q:Nat}{deed can done emp:PF}
theorem vZ:∀ (R:Rm) (xs:Rs),(se R xs).length=xs.length
 | _,[]=>rfl
 | R,x::xs=>by rw[se,aar,vZ x.1 xs,aar]
theorem DM:∀ (R:Rm) (xs:Rs),xs≠[]->∃ R0 e,(se R xs)[xs.length - 1]?=Y (R0,df R xs,e)
 | _,[],h=>absurd rfl h
 | R,[x],_=>⟨R,x.2,rfl⟩
 | R,x::y::xs,_=>by
  obtain⟨R0,e,h⟩:=DM x.1 (y::xs) 0.3;exact⟨R0,e,by rw[se];simpa[df] using h⟩
end
def rV:Str:="in"
def goW(wr:Bool):Wd:=if wr then .writes else .reads
section
variable{r:Rl}{R:Rm}
theorem Oz{g:Nat}(h:ROk R)(hw:R.1[g]?=Y w)(hn:w≠.out)(hr:w≠.rising):(lF r R).1.1[g]?=Y w:=by
 unfold lF;split
 ·rename_i g' l hg;have h1:=nY (ws:=R.1) (g:=g') (by rw[hg];exact aad);show(R.1.set g' .raised)[g]?=_;rw[aaF (λz=>by rw[z,hw] at h1;exact hr (aaE h1))];exact hw
 ·split
  ·split
   ·rename_i e he;have h1:=h.out e (aaA he);show(R.1.set e.g _)[g]?=_;rw[aaF (λz=>by rw[z,hw] at h1;exact hn (aaE h1))];exact hw
   ·exact hw
  ·exact hw
theorem Yi(h:ROk R){e:Ev}(he:e∈(lF r R).2)(hi:(e.w==rV)=true):∃ x∈R.2,x.g=e.g/\(lF r R).1.1[e.g]?=Y (goW x.wr):=by
 unfold lF at he ⊢;split
 ·rename_i g' l hg;rw[hg] at he;rw[aaw.mp he] at hi;exact absurd hi (show ¬ (("steps":Str)==rV)=true by decide +kernel)
 ·rename_i hg;rw[hg] at he;dsimp only at he;split
  ·rename_i i l hs;rw[hs] at he;dsimp only at he;split
   ·rename_i x hx;rw[hx] at he;rw[aaw.mp he];have hm:=aaA hx;refine⟨x,hm,rfl,?_⟩;show(R.1.set x.g _)[x.g]?=_;rw[aaL (h.lt hm)];rfl
   ·rename_i hx;rw[hx] at he;cases he
  ·rename_i hs;rw[hs] at he;cases he
theorem Tn{y:En}(hy:y∈(lF r R).1.2):∃ x∈R.2,x.g=y.g/\x.wr=y.wr:=by
 unfold lF at hy;split at hy
 ·exact⟨y,hy,rfl,rfl⟩
 ·split at hy
  ·split at hy
   ·rcases aap.mp hy with z | z
    ·obtain⟨x,hx,rfl⟩:=aaB.mp z;exact⟨x,aaR hx,rfl,rfl⟩
    ·exact⟨y,abH z,rfl,rfl⟩
   ·exact⟨y,hy,rfl,rfl⟩
  ·exact⟨y,hy,rfl,rfl⟩
theorem Ec{g:Nat}{w:Wd}(hn:w≠.out)(hr:w≠.rising):∀ (n:Nat) {R:Rm},ROk R->R.1[g]?=Y w->(uP r n R).1.1[g]?=Y w
 | 0,R,_,hw=>hw
 | n+1,R,h,hw=>Ec hn hr n (R:=(lF r R).1) (tX h).1 (Oz h hw hn hr)
theorem IU(wr:Bool):goW wr≠.out/\goW wr≠.rising:=by cases wr<;>exact⟨by decide,by decide⟩
theorem Hq:∀ (n:Nat) {R:Rm},ROk R->∀ {e:Ev},e∈(uP r n R).2->(e.w==rV)=true->∃ x∈R.2,x.g=e.g/\(uP r n R).1.1[e.g]?=Y (goW x.wr)
 | 0,R,_,e,he,_=>by cases he
 | n+1,R,h,e,he,hi=>by
  rcases aap.mp he with z | z
  ·obtain⟨x,hx,hg,hw⟩:=Yi h z hi;exact⟨x,hx,hg,Ec (IU _).1 (IU _).2 n (R:=(lF r R).1) (tX h).1 hw⟩
  ·obtain⟨x,hx,hg,hw⟩:=Hq n (R:=(lF r R).1) (tX h).1 z hi;obtain⟨y,hy,e1,e2⟩:=Tn hx;exact⟨y,hy,e1.trans hg,by rw[e2];exact hw⟩
def zT(R:Rm)(d:Dd)(g:Nat):Str:=match R.2.find? λe=>decide (e.g=g) with
 | some e=>bI e.wr
 | none=>gD d
theorem KL:∀ {es:List En},(es.map (·.g)).Nodup->∀ {x:En},x∈es->es.find? (λe=>decide (e.g=x.g))=Y x
 | y::es,hn,x,hx=>by
  rw[aak,abL] at hn;rw[abo];rcases aaC.mp hx with rfl | hx
  ·rw[aao rfl]
  ·rw[aan (λz=>hn.1 (aaB.mpr ⟨x,hx,z.symm⟩))];exact KL hn.2 hx
theorem zS{d:Dd}{g:Nat}{x:En}(h:ROk R)(hx:x∈R.2)(hg:x.g=g):zT R d g=bI x.wr:=by
 subst hg;unfold zT;rw[KL h.nd hx]
theorem VN{d:Dd}(h:ROk R)(hx:cS r R d=Y x){e:Ev}(he:e∈x.2)(hi:(e.w==rV)=true):∃ wr,x.1.1[e.g]?=Y (goW wr)/\zT R d e.g=bI wr:=by
 have base:∀ R':Rm,ROk R'->(∀ y∈R'.2,∃ x∈R.2,x.g=y.g/\x.wr=y.wr)->e∈(bf r R').2->∃ wr,(bf r R').1.1[e.g]?=Y (goW wr)/\zT R d e.g=bI wr:=λR' h' hm he=>by
  obtain⟨y,hy,hg,hw⟩:=Hq _ h' he hi;obtain⟨z,hz,e1,e2⟩:=hm y hy;exact⟨y.wr,hw,by rw[zS h hz (e1.trans hg),e2]⟩
 have no:∀ {w:Str} {g:Nat},(w==rV)=false->e=⟨w,g⟩->False:=λhw z=>by rw[z] at hi;rw[show((⟨_,_⟩:Ev).w==rV)=_ from hw] at hi;cases hi
 unfold cS at hx;split at hx
 ·cases hx
 rename_i hc;have hc:gL R d=true:=by simpa using hc
 cases d with
 | tick=>
  cases hx;rcases aap.mp he with z | z
  ·obtain⟨y,u,q⟩:=aaB.mp z;exact(no (show(("ends":Str)==rV)=false by decide +kernel) q.symm).elim
  ·refine base _ (ROk.filter (ROk.mapE h gY λe=>rfl) _) (λy hy=>?_) z;obtain⟨q,hq,rfl⟩:=aaB.mp (abc.mp hy).1;exact⟨q,hq,rfl,rfl⟩
 | ask wr g t=>
  cases hx;simp only[gL,aae,abk,Bool.not_eq_true'] at hc;have ok:=wI (wr:=wr) (t:=t) h hc.1 hc.2
  have main:e∈(bf r (R.1,R.2++[my wr g t])).2->∃ wr',(bf r (R.1,R.2++[my wr g t])).1.1[e.g]?=Y (goW wr')/\zT R (.ask wr g t) e.g=bI wr':=λhe=>by
   obtain⟨y,hy,hg,hw⟩:=Hq _ ok he hi;refine⟨y.wr,hw,?_⟩;rcases aap.mp hy with z | z
   ·exact zS h z hg
   ·rw[aaw.mp z] at hg ⊢;unfold zT;rw[adg.mpr (λa ha=>by rw[<- hg];exact λz=>iB hc.2 ha (aba z))];rfl
  unfold vV at he ⊢;dsimp only at he ⊢;split
  ·rename_i hs;rw[aas hs] at he;exact main he
  ·rename_i hs;rw[if_neg hs] at he;split
   ·rename_i ht;rw[aas ht] at he;rcases aap.mp he with z | z
    ·exact main z
    ·exact(no (show(("no":Str)==rV)=false by decide +kernel) 1.84).elim
   ·rename_i ht;rw[if_neg ht] at he;rcases aap.mp he with z | z
    ·exact main z
    ·exact(no (show(("waits":Str)==rV)=false by decide +kernel) 1.84).elim
 | act k g=>
  dsimp only at hx;split at hx
  ·cases hx;exact(no (show(("no":Str)==rV)=false by decide +kernel) (aaw.mp he)).elim
  ·split at hx
   ·rename_i w hw;cases hx;rcases aap.mp he with z | z
    ·rcases aap.mp z with z | z
     ·cases k with
      | up=>cases z
      | down=>exact(no (show(("down":Str)==rV)=false by decide +kernel) 1.84).elim
      | leave=>exact(no (show(("out":Str)==rV)=false by decide +kernel) 1.84).elim
      | stop=>exact(no (show(("ends":Str)==rV)=false by decide +kernel) 1.84).elim
     ·refine base _ (wJ h _) (λy hy=>?_) z;have hy:=(abc.mp hy).1;split at hy
      ·unfold wm at hy;split at hy
       ·obtain⟨q,hq,rfl⟩:=aaB.mp hy;exact⟨q,hq,by split<;>rfl,by split<;>rfl⟩
       ·exact⟨y,hy,rfl,rfl⟩
      ·exact⟨y,hy,rfl,rfl⟩
    ·split at z
     ·exact(no (show(("waits":Str)==rV)=false by decide +kernel) 1.84).elim
     ·cases z
   ·cases hx
end
def ahL(f:Bool):List Dd:=[.ask f 1 L,.ask (!f) 0 L]
def agL(f:Bool):List Dd:=[.ask f 2 L,.act .leave 1,.ask f 1 L,.act .leave 2]
def cn(r:Rl):List Dd->Rm->Option Rs
 | [],_=>Y []
 | d::l,R=>(cS r R d).bind λx=>(cn r l x.1).bind λxs=>Y (x::xs)
theorem oE:∀ {l:List Dd} {R:Rm} {xs:Rs},cn r l R=Y xs->Ws r R l xs
 | [],R,xs,h=>by cases h;exact .nil
 | d::l,R,xs,h=>by
  obtain⟨x,h1,h⟩:=aaa.mp h;obtain⟨ys,h2,h⟩:=aaa.mp h;cases h;exact .cons h1 (oE h2)
theorem Ws.app(h:Ws r R l xs)(h':Ws r (df R xs) m ys):Ws r R (l++m) (xs++ys):=by
 induction h with
 | nil=>exact h'
 | cons q t ih=>exact .cons q (ih h')
def eqEs:List En->List En->Bool
 | [],[]=>true
 | a::l,b::m=>decide (a.g=b.g)&&decide (a.wr=b.wr)&&decide (a.m=b.m)&&decide (a.t=b.t)&&eqEs l m
 | _,_=>false
def stB(z:Rm×List Ev):Bool:=aW z.1.2 0&&!decide (z.1.1[0]?=Y .rising)
def ioB(es:List Ev):Bool:=es.any λe=>(e.w==rV)&&!decide (e.g=0)
def okS(r:Rl)(n:Nat)(f:Bool):Bool:=match cn r (ahL f) (bT n) with
 | some [x1,x2]=>match cn r (agL f) x2.1 with
  | some [y1,y2,y3,y4]=>decide (y4.1.1=x2.1.1)&&eqEs y4.1.2 x2.1.2&&[x2,y1,y2,y3,y4].all stB&&ioB (y1.2++(y2.2++(y3.2++y4.2)))
  | _=>false
 | _=>false
section
variable{S:ac}
theorem QY{bs:List Bool}(h:iR xs=Y bs):bb Da [.lst xs] S=Y (.bl (bs.any id),S):=by
 show((iR xs).bind _).bind _=_;rw[h];rfl
theorem qv{α:Type}(f:α->Bool):∀ xs:List α,iR (xs.map λx=>D.bl (f x))=Y (xs.map f)
 | []=>rfl
 | x::xs=>by rw[aak,iR,qv f xs];rfl
theorem FN{x y z u v:D}:rJ 5 f ([x,y,z,u,v],S)=f [x,y,z,u,v] S:=id rfl
noncomputable abbrev Tz:=Rm×Rm×List Ev
def leE:ME:=ay cm '3' (!"in")
def leG:MG:=bo 2 0.8
def zH:MG:=bo 3 (ag '`' (ag 'a' (ag 'b' aS)))
def xb:MS:=bw (bF (bb Da) (aa (dL (cR '0') zH bX (cR '2') leG bX leE [L,L,L,L,L]) ao))
theorem leIn{a b c:Option D}:∀ (es:List Ev) (u v:Option D),∃ u' v',kj leG bX leE (es.map Ev.d) [a,b,c,u,v] S=Y (es.map (λe=>.bl (e.w==rV)),[a,b,c,u',v'],S)
 | []=>λu v=>⟨u,v,Ix⟩
 | e::es=>λu v=>by
  obtain⟨u',v',ih⟩:=leIn (a:=a) (b:=b) (c:=c) es (Y 1.86) (Y (.int 2.0));refine⟨u',v',?_⟩;have fe:cm S 1.86 (.str "in")=Y (.bl (e.w==rV)):=cP;rw[aak,FB,show Ev.d e=.tup [.str e.w,.int 2.0] from rfl,leG,cx];simp only[bx,aN,ob,dM,dP,cE,bN,qah,gR,qaf];rw[show leE [a,b,c,Y 1.86,Y (.int 2.0)] S=Y (.bl (e.w==rV),S) by simp![leE,fe],ob,qad];rw[leG] at ih;rw[ih,ob,qab];rfl
theorem WX:∀ (zs:List Tz) (a b c u v:Option D),ju zH bX (cR '2') leG bX leE 1.32 [a,b,c,u,v] S=Y ((zs.flatMap (·.2.2)).map (λe=>.bl (e.w==rV)),S)
 | []=>λa b c u v=>by rw[acF,Iw];rfl
 | z::zs=>λa b c u v=>by
  obtain⟨u',v',e1⟩:=leIn (S:=S) (a:=Y (aZ z.1)) (b:=Y (aZ z.2.1)) (c:=Y (di z.2.2)) z.2.2 u v;have ih:=WX zs (Y (aZ z.1)) (Y (aZ z.2.1)) (Y (di z.2.2)) u' v'
  rw[aak,FA,show uO z=.tup [aZ z.1,aZ z.2.1,di z.2.2] from rfl,show zH (.tup [aZ z.1,aZ z.2.1,di z.2.2]) [a,b,c,u,v] S=Y ([Y (aZ z.1),Y (aZ z.2.1),Y (di z.2.2),u,v],S) by
   rw[zH,qi];simp only[bx,aN,ob,dM,dP,cE,bN]]
  have it:cR '2' [Y (aZ z.1),Y (aZ z.2.1),Y (di z.2.2),u,v] S=Y (z.2.2.map Ev.d,S):=by
   simp only[cV,ai,bG,bM,bO,oj,ob,ah,di,II]
  simp only[ob,qa5,gR,qa3,it,qa1,e1,ZZ,ih,ZX];rw[ado,aaY]
theorem IA{N:List Str}(hN:N.length=1){zs:List Tz}(hz:(zs.flatMap (·.2.2)).length<=1000):aU N xb 1 [.lst 1.32] S=Y (.bl ((zs.flatMap (·.2.2)).any λe=>e.w==rV),S):=by
 refine abp (lG (env:=[Y (.lst 1.32)]) hN rfl rfl) ?_;have fa:=QY (S:=S) (qv (λe:Ev=>e.w==rV) (zs.flatMap (·.2.2)));have e:=WX (S:=S) zs L L L L L;have e':ju zH bX (cR '2') leG bX leE 1.32 (oB [L,L,L,L,L] [Y (.lst 1.32)]) S=_:=e;simp only[xb,aP,bZ,aq,Qc,cV,ai,bG,oj,ob,ah,rH,qa6,e'];rw[UT (by rw[aaj];exact hz)];simp only[ob,ak,av,am,ca,fa,bg,az];rw[acr];rfl
end
end MI
section
set_option maxHeartbeats 4000000
namespace K29
open L2 MI
open M hiding rn je mC af ay aF dA dQ dD gW dJ eD wp iq oi ao aa aR dw fC Av bC bS bz bF jI ax bv aI bw eQ cj aj aS ag bo gy aT cD kY bY cR bX fB fI mO oz kZ iF ft fj eG fo fh dU dL jJ
@[inline]def eR(i:Nat):QO:=PySem.Challenge.pw_manyreaders_k29_starving_shown.main.body.getD i (.Pass ⟨0,0,0,0⟩)
abbrev eh:QO:=eR 55
abbrev jn:QO:=eR 57
abbrev ij:QO:=eR 56
abbrev ig:QO:=eR 58
abbrev ia:QO:=eR 59
abbrev ic:QO:=eR 71
abbrev hU:QO:=eR 4
abbrev eU:QO:=eR 9
abbrev kL:QO:=eR 8
abbrev jh:QO:=eR 6
abbrev eS:QO:=eR 50
abbrev pX:QO:=eR 14
abbrev eV:QO:=eR 15
abbrev ji:QO:=eR 25
abbrev kD:QO:=eR 18
abbrev mJ:QO:=eR 23
abbrev hV:QO:=eR 26
abbrev kJ:QO:=eR 24
abbrev mI:QO:=eR 28
abbrev hJ:QO:=eR 16
abbrev mH:QO:=eR 30
abbrev ge:QO:=eR 29
abbrev kH:QO:=eR 27
abbrev dY:QO:=eR 17
abbrev hZ:QO:=eR 36
abbrev jj:QO:=eR 37
abbrev dG:QO:=eR 44
abbrev mF:QO:=eR 43
abbrev gi:QO:=eR 38
abbrev eW:QO:=eR 39
abbrev gh:QO:=eR 40
abbrev jg:QO:=eR 42
abbrev gf:QO:=eR 41
abbrev ua:QO:=eR 35
abbrev gd:QO:=eR 7
abbrev kM:QO:=eR 33
abbrev mK:QO:=eR 34
abbrev jH:QO:=eR 47
abbrev kK:QO:=eR 53
abbrev jf:QO:=eR 19
abbrev kG:QO:=eR 52
abbrev gc:QO:=eR 51
abbrev dF:QO:=eR 49
abbrev il:QO:=eR 60
abbrev jm:QO:=eR 63
abbrev eY:QO:=eR 61
abbrev ii:QO:=eR 62
abbrev ee:QO:=eR 64
abbrev jo:QO:=eR 65
abbrev gk:QO:=eR 68
abbrev eX:QO:=eR 66
abbrev ik:QO:=eR 67
abbrev jk:QO:=eR 69
abbrev eg:QO:=eR 72
abbrev dZ:QO:=eR 70
abbrev gj:QO:=eR 73
abbrev Ag:QO:=eR 74
def yQ:List (cf×D):=[(.inr "rows",.non),(.inr "readers",(.str "read")),(.inr "writers",(.str "write")),(.inr "turns",(.str "write"))]
def kq:D:=(.int 9)
def mx:D:=(.tup [(.str "up"),(.str "down"),(.str "leave"),(.str "stop")])
def qu:D:=(.tup [(.str "read"),(.str "write")])
def qV:List (cf×D):=[(.inr "read",(.str "reads")),(.inr "write",(.str "writes"))]
def oq:D:=(.tup [(.str "writes"),(.str "raised")])
def cX:tx:=44
abbrev OJ:QO:=Wh (eR 2)
structure Txt(w:Qa)(K:aeO)(mg:Str->Option ce):Prop where
 q0:bR K mg "_law_cell_at" eh
 q1:bR K mg "_law_far" jn
 q2:bR K mg "_law_left" ij
 q3:bR K mg "_law_pick" ig
 q4:bR K mg "_law_rule" ia
 q5:bR K mg "_law_rows" ic
 q6:bR K mg "told_most" hU
 q7:bR K mg "is_tuple_of" eU
 q8:bR K mg "is_word" kL
 q9:bR K mg "is_whole" jh
 qa:bR K mg "shows_never" eS
 qb:bR K mg "empty" pX
 qc:bR K mg "guests_with" eV
 qd:bR K mg "foremost" ji
 qe:bR K mg "waiting" kD
 qf:bR K mg "can_go" mJ
 qg:bR K mg "next_past" hV
 qh:bR K mg "next_in" kJ
 qi:bR K mg "coming" mI
 qj:bR K mg "with_word" hJ
 qk:bR K mg "let_in" mH
 ql:bR K mg "brought_by" ge
 qm:bR K mg "settled" kH
 qn:bR K mg "without_wait" dY
 qo:bR K mg "bring_ask" hZ
 qp:bR K mg "bring_up" jj
 qq:bR K mg "settled_behind" dG
 qr:bR K mg "turned" mF
 qs:bR K mg "bring_down" gi
 qt:bR K mg "bring_leave" eW
 qv:bR K mg "bring_stop" gh
 qw:bR K mg "one_less" jg
 qx:bR K mg "bring_tick" gf
 qy:bR K mg "done" ua
 qz:bR K mg "is_between" gd
 qA:bR K mg "is_deed" kM
 qB:bR K mg "can_do" mK
 qC:bR K mg "walked" jH
 qD:bR K mg "lets_in" kK
 qE:bR K mg "waits_in" jf
 qF:bR K mg "starves" kG
 qG:bR K mg "shows_ring" gc
 qH:bR K mg "shows_starving" dF
 qI:bR K mg "_law_deed" il
 qJ:bR K mg "_law_put" jm
 qK:bR K mg "_law_fronts" eY
 qL:bR K mg "_law_lets" ii
 qM:bR K mg "_law_settled" ee
 qN:bR K mg "_law_can" jo
 qO:bR K mg "_law_asked" gk
 qP:bR K mg "_law_marked" eX
 qQ:bR K mg "_law_done" ik
 qR:bR K mg "_law_row" jk
 qS:bR K mg "_law_changed" eg
 qT:bR K mg "_law_starves" dZ
 qU:bR K mg "_law_right" gj
 qW:bR K mg "law" Ag
 qX:mg "all" = L
 qY:mg "any" = L
 qZ:mg "bool" = L
 z0:mg "enumerate" = L
 z1:mg "int" = L
 z2:mg "isinstance" = L
 z3:mg "len" = L
 z4:mg "list" = L
 z5:mg "max" = L
 z6:mg "min" = L
 z7:mg "range" = L
 z8:mg "str" = L
 z9:mg "tuple" = L
 za:FNm w K mg "BRINGS" [("read","bring_ask"),("write","bring_ask"),("up","bring_up"),("down","bring_down"),("leave","bring_leave"),("stop","bring_stop"),("tick","bring_tick")]
 zb:yU w K mg "FAVOURED" yQ
 zc:GC K mg "GREATEST_LEFT" kq
 zd:GC K mg "GUEST_WORDS" mx
 ze:GC K mg "WANTS" qu
 zf:yU w K mg "WORD_WITHIN" qV
 zg:GC K mg "WRITING_WORDS" oq
 zh:∀ P base,GS P w K mg base "NoDeed" cX "place"
 zi:GV K mg "NoDeed" cX
section
local macro_rules|`(tactic|symm)=>`(tactic|(intro _ _ _ _ _ _;repeat (first|exact iZ rfl|(refine cw ?_;intro _))))
variable{P:Op}{w:Qa}{K:aeO}{mg:Str->Option ce}{base:TF}
def gb:List Str:=["_law_script","_law_k"]
def pG:List 1.1:=[("len",.blt)]
def fQ:=aU gb (gI (iz gb eh pG []) (aM eh)) 2
theorem vF:aQ gb ["_law_script","_law_k"] (aw eh):=by ac_rfl
theorem vK(T:Txt w K mg):Fn P w K mg base 1 "_law_cell_at" 2 fQ:=
 bp (gs:=pG) T.q0 vF 1.4 ⟨T.z3,trivial⟩
def lD:List Str:=["_law_far_here","_law_k"]
def yp:List 1.1:=[("range",.blt)]
def lf:=aU lD (gI (iz lD jn yp []) (aM jn)) 0
theorem Ek:aQ lD [] (aw jn):=by ac_rfl
theorem EC(T:Txt w K mg):Fn P w K mg base 1 "_law_far" 0 lf:=
 bp (gs:=yp) T.q1 Ek 1.4 ⟨T.z7,trivial⟩
def jX:List Str:=["_law_script","_law_k","_law_cell","_law_seed"]
def vn:List 1.1:=[("_law_cell_at",.fn 2 fQ),("max",.blt),("_law_far",.fn 0 lf),("len",.blt)]
def jN:=aU jX (gI (iz jX ij vn [235]) (aM ij)) 2
theorem BL:aQ jX ["_law_script","_law_k"] (aw ij):=by ac_rfl
theorem Ce(T:Txt w K mg):Fn P w K mg base 2 "_law_left" 2 jN:=
 bp (gs:=vn) T.q2 BL 1.4 ⟨(vK T).up,T.z5,(EC T).up,T.z3,trivial⟩
def lS:List Str:=["_law_left_here","_law_many","_law_digit"]
def vj:List 1.1:=[]
def cb:=aU lS (gI (iz lS ig vj []) (aM ig)) 2
theorem BJ:aQ lS ["_law_left_here","_law_many"] (aw ig):=by ac_rfl
theorem gn(T:Txt w K mg):Fn P w K mg base 1 "_law_pick" 2 cb:=
 bp (gs:=vj) T.q3 BJ 1.4 trivial
def jU:List Str:=["_law_left_here","_law_word","_law_most","_law_times"]
def vh:List 1.1:=[("_law_pick",.fn 2 cb),("int",.blt)]
def jK:=aU jU (gI (iz jU ia vh []) (aM ia)) 1
theorem BH:aQ jU ["_law_left_here"] (aw ia):=by ac_rfl
theorem Cb(T:Txt w K mg):Fn P w K mg base 2 "_law_rule" 1 jK:=
 bp (gs:=vh) T.q4 BH 1.4 ⟨(gn T).up,T.z1,trivial⟩
def jV:List Str:=["_law_left_here","_law_rule_here","_law_n","_law_one","_law_other","_law_ahead","_law_again"]
def vi:List 1.1:=[("_law_pick",.fn 2 cb),("int",.blt)]
def jL:=aU jV (gI (iz jV ic vi [975000,976000]) (aM ic)) 3
theorem BI:aQ jV ["_law_left_here","_law_rule_here","_law_n"] (aw ic):=by ac_rfl
theorem Cc(T:Txt w K mg):Fn P w K mg base 2 "_law_rows" 3 jL:=
 bp (gs:=vi) T.q5 BI 1.4 ⟨(gn T).up,T.z1,trivial⟩
def jR:List Str:=["rule","n","word","most","k","ups","others"]
def vd:List 1.1:=[]
def fL:=aU jR (gI (iz jR hU vd []) (aM hU)) 2
theorem BE:aQ jR ["rule","n"] (aw hU):=by ac_rfl
theorem sv(T:Txt w K mg):Fn P w K mg base 1 "told_most" 2 fL:=
 bp (gs:=vd) T.q6 BE 1.4 trivial
def gM:List Str:=["thing","many"]
def qM:List 1.1:=[("isinstance",.blt),("tuple",.blt),("len",.blt)]
def bW:=aU gM (gI (iz gM eU qM []) (aM eU)) 2
theorem wQ:aQ gM ["thing","many"] (aw eU):=by ac_rfl
theorem kT(T:Txt w K mg):Fn P w K mg base 1 "is_tuple_of" 2 bW:=
 bp (gs:=qM) T.q7 wQ 1.4 ⟨T.z2,T.z9,T.z3,trivial⟩
def kP:List Str:=["thing","words"]
def AR:List 1.1:=[("isinstance",.blt),("str",.blt)]
def dH:=aU kP (gI (iz kP kL AR []) (aM kL)) 2
theorem Hy:aQ kP ["thing","words"] (aw kL):=by ac_rfl
theorem rj(T:Txt w K mg):Fn P w K mg base 1 "is_word" 2 dH:=
 bp (gs:=AR) T.q8 Hy 1.4 ⟨T.z2,T.z8,trivial⟩
def ly:List Str:=["thing"]
def yj:List 1.1:=[("isinstance",.blt),("int",.blt),("bool",.blt)]
def fM:=aU ly (gI (iz ly jh yj []) (aM jh)) 1
theorem Ef:aQ ly ["thing"] (aw jh):=by ac_rfl
theorem uR(T:Txt w K mg):Fn P w K mg base 1 "is_whole" 1 fM:=
 bp (gs:=yj) T.q9 Ef 1.4 ⟨T.z2,T.z1,T.qZ,trivial⟩
def fg:List Str:=["rule","n","thing","word","reads","writes"]
def qL:List 1.1:=[("is_tuple_of",.fn 2 bW),("is_word",.fn 2 dH),("is_whole",.fn 1 fM),("told_most",.fn 2 fL)]
def dE:=aU fg (gI (iz fg eS qL []) (aM eS)) 3
theorem wP:aQ fg ["rule","n","thing"] (aw eS):=by ac_rfl
theorem xj(T:Txt w K mg):Fn P w K mg base 2 "shows_never" 3 dE:=
 bp (gs:=qL) T.qa wP 1.4 ⟨(kT T).up,(rj T).up,(uR T).up,(sv T).up,trivial⟩
def tT:List Str:=["n"]
def KF:List 1.1:=[]
def tH:=aU tT (gI (iz tT pX KF []) (aM pX)) 1
theorem OI:aQ tT ["n"] (aw pX):=by ac_rfl
theorem Ez(T:Txt w K mg):Fn P w K mg base 1 "empty" 1 tH:=
 bp (gs:=KF) T.qb OI 1.4 trivial
def gN:List Str:=["room","words"]
def qN:List 1.1:=[("tuple",.blt),("enumerate",.blt)]
def cG:=aU gN (gI (iz gN eV qN []) (aM eV)) 2
theorem wR:aQ gN ["room","words"] (aw eV):=by ac_rfl
theorem kU(T:Txt w K mg):Fn P w K mg base 1 "guests_with" 2 cG:=
 bp (gs:=qN) T.qc wR 1.4 ⟨T.z9,T.z0,trivial⟩
def lz:List Str:=["word","waits","turned","favoured","ranked"]
def yk:List 1.1:=[("FAVOURED",.tab yQ)]
def nS:=aU lz (gI (iz lz ji yk []) (aM ji)) 2
theorem Eg:aQ lz ["word","waits"] (aw ji):=by ac_rfl
theorem Ey(T:Txt w K mg):Fn P w K mg base 1 "foremost" 2 nS:=
 bp (gs:=yk) T.qd Eg 1.4 ⟨T.zb,trivial⟩
def kN:List Str:=["room","guest","entry"]
def AL:List 1.1:=[("guests_with",.fn 2 cG)]
def cr:=aU kN (gI (iz kN kD AL []) (aM kD)) 2
theorem Ht:aQ kN ["room","guest"] (aw kD):=by ac_rfl
theorem jp(T:Txt w K mg):Fn P w K mg base 2 "waiting" 2 cr:=
 bp (gs:=AL) T.qe Ht 1.4 ⟨(kU T).up,trivial⟩
def nu:List Str:=["rule","room","guest","want","beside","most"]
def FY:List 1.1:=[("waiting",.fn 2 cr),("all",.blt),("enumerate",.blt),("len",.blt)]
def iO:=aU nu (gI (iz nu mJ FY []) (aM mJ)) 3
theorem LJ:aQ nu ["rule","room","guest"] (aw mJ):=by ac_rfl
theorem ue(T:Txt w K mg):Fn P w K mg base 3 "can_go" 3 iO:=
 bp (gs:=FY) T.qf LJ 1.4 ⟨(jp T).up,T.qX,T.z0,T.z3,trivial⟩
def jS:List Str:=["rule","room","guest","want","mark","left"]
def vf:List 1.1:=[("can_go",.fn 3 iO)]
def lR:=aU jS (gI (iz jS hV vf []) (aM hV)) 2
theorem BF:aQ jS ["rule","room"] (aw hV):=by ac_rfl
theorem Ca(T:Txt w K mg):Fn P w K mg base 4 "next_past" 2 lR:=
 bp (gs:=vf) T.qg BF 1.4 ⟨(ue T).up,trivial⟩
def nk:List Str:=["rule","room","guest"]
def AO:List 1.1:=[("foremost",.fn 2 nS),("next_past",.fn 2 lR),("can_go",.fn 3 iO)]
def mU:=aU nk (gI (iz nk kJ AO []) (aM kJ)) 2
theorem Hw:aQ nk ["rule","room"] (aw kJ):=by ac_rfl
theorem HQ(T:Txt w K mg):Fn P w K mg base 5 "next_in" 2 mU:=
 bp (gs:=AO) T.qh Hw 1.4 ⟨(Ey T).up,(Ca T).up,(ue T).up,trivial⟩
def pV:List Str:=["rule","room","guest"]
def FX:List 1.1:=[("guests_with",.fn 2 cG),("next_in",.fn 2 mU),("can_go",.fn 3 iO)]
def mW:=aU pV (gI (iz pV mI FX []) (aM mI)) 2
theorem LI:aQ pV ["rule","room"] (aw mI):=by ac_rfl
theorem Mb(T:Txt w K mg):Fn P w K mg base 6 "coming" 2 mW:=
 bp (gs:=FX) T.qi LI 1.4 ⟨(kU T).up,(HQ T).up,(ue T).up,trivial⟩
def jP:List Str:=["room","guest","word","within","waits"]
def vc:List 1.1:=[]
def bV:=aU jP (gI (iz jP hJ vc []) (aM hJ)) 3
theorem BD:aQ jP ["room","guest","word"] (aw hJ):=by ac_rfl
theorem gm(T:Txt w K mg):Fn P w K mg base 1 "with_word" 3 bV:=
 bp (gs:=vc) T.qj BD 1.4 trivial
def pU:List Str:=["rule","room","guest","within","waits","place","ahead"]
def FW:List 1.1:=[("with_word",.fn 3 bV),("tuple",.blt),("WORD_WITHIN",.tab qV)]
def tF:=aU pU (gI (iz pU mH FW []) (aM mH)) 3
theorem LH:aQ pU ["rule","room","guest"] (aw mH):=by ac_rfl
theorem Ma(T:Txt w K mg):Fn P w K mg base 2 "let_in" 3 tF:=
 bp (gs:=FW) T.qk LH 1.4 ⟨(gm T).up,T.z9,T.zf,trivial⟩
def iT:List Str:=["rule","room","event","word","guest"]
def tj:List 1.1:=[("let_in",.fn 3 tF),("with_word",.fn 3 bV)]
def iP:=aU iT (gI (iz iT ge tj []) (aM ge)) 3
theorem zg:aQ iT ["rule","room","event"] (aw ge):=by ac_rfl
theorem zp(T:Txt w K mg):Fn P w K mg base 3 "brought_by" 3 iP:=
 bp (gs:=tj) T.ql zg 1.4 ⟨(Ma T).up,(gm T).up,trivial⟩
def nj:List Str:=["rule","room","events","event"]
def AN:List 1.1:=[("coming",.fn 2 mW),("brought_by",.fn 3 iP),("tuple",.blt)]
def dk:=aU nj (gI (iz nj kH AN [85]) (aM kH)) 2
theorem Hv:aQ nj ["rule","room"] (aw kH):=by ac_rfl
theorem rh(T:Txt w K mg):Fn P w K mg base 7 "settled" 2 dk:=
 bp (gs:=AN) T.qm Hv 1.4 ⟨(Mb T).up,(zp T).up,T.z9,trivial⟩
def fW:List Str:=["room","guest","within","waits"]
def pC:List 1.1:=[("tuple",.blt)]
def cN:=aU fW (gI (iz fW dY pC []) (aM dY)) 2
theorem vB:aQ fW ["room","guest"] (aw dY):=by ac_rfl
theorem og(T:Txt w K mg):Fn P w K mg base 1 "without_wait" 2 cN:=
 bp (gs:=pC) T.qn vB 1.4 ⟨T.z9,trivial⟩
def jT:List Str:=["rule","room","deed","want","guest","left","within","waits","entry","events"]
def vg:List 1.1:=[("settled",.fn 2 dk),("waiting",.fn 2 cr),("without_wait",.fn 2 cN)]
def fN:=aU jT (gI (iz jT hZ vg []) (aM hZ)) 3
theorem BG:aQ jT ["rule","room","deed"] (aw hZ):=by ac_rfl
theorem sy(T:Txt w K mg):Fn P w K mg base 8 "bring_ask" 3 fN:=
 bp (gs:=vg) T.qo BG 1.4 ⟨(rh T).up,(jp T).up,(og T).up,trivial⟩
def lA:List Str:=["rule","room","deed","guest","events"]
def ym:List 1.1:=[("settled",.fn 2 dk),("guests_with",.fn 2 cG),("with_word",.fn 3 bV),("waiting",.fn 2 cr)]
def jz:=aU lA (gI (iz lA jj ym []) (aM jj)) 3
theorem Eh:aQ lA ["rule","room","deed"] (aw jj):=by ac_rfl
theorem EA(T:Txt w K mg):Fn P w K mg base 8 "bring_up" 3 jz:=
 bp (gs:=ym) T.qp Eh 1.4 ⟨(rh T).up,(kU T).up,(gm T).up,(jp T).up,trivial⟩
def ez:List Str:=["rule","room","first","events"]
def mS:List 1.1:=[("settled",.fn 2 dk)]
def bH:=aU ez (gI (iz ez dG mS []) (aM dG)) 3
theorem sj:aQ ez ["rule","room","first"] (aw dG):=by ac_rfl
theorem fA(T:Txt w K mg):Fn P w K mg base 8 "settled_behind" 3 bH:=
 bp (gs:=mS) T.qq sj 1.4 ⟨(rh T).up,trivial⟩
def pS:List Str:=["rule","room","guest","within","waits"]
def FV:List 1.1:=[("tuple",.blt)]
def iN:=aU pS (gI (iz pS mF FV []) (aM mF)) 3
theorem LG:aQ pS ["rule","room","guest"] (aw mF):=by ac_rfl
theorem An(T:Txt w K mg):Fn P w K mg base 1 "turned" 3 iN:=
 bp (gs:=FV) T.qr LG 1.4 ⟨T.z9,trivial⟩
def iW:List Str:=["rule","room","deed","guest"]
def tz:List 1.1:=[("settled_behind",.fn 3 bH),("with_word",.fn 3 bV),("turned",.fn 3 iN)]
def gv:=aU iW (gI (iz iW gi tz []) (aM gi)) 3
theorem zj:aQ iW ["rule","room","deed"] (aw gi):=by ac_rfl
theorem zt(T:Txt w K mg):Fn P w K mg base 9 "bring_down" 3 gv:=
 bp (gs:=tz) T.qs zj 1.4 ⟨(fA T).up,(gm T).up,(An T).up,trivial⟩
def gO:List Str:=["rule","room","deed","guest"]
def qO:List 1.1:=[("settled_behind",.fn 3 bH),("with_word",.fn 3 bV),("turned",.fn 3 iN)]
def eZ:=aU gO (gI (iz gO eW qO []) (aM eW)) 3
theorem wS:aQ gO ["rule","room","deed"] (aw eW):=by ac_rfl
theorem xl(T:Txt w K mg):Fn P w K mg base 9 "bring_leave" 3 eZ:=
 bp (gs:=qO) T.qt wS 1.4 ⟨(fA T).up,(gm T).up,(An T).up,trivial⟩
def iV:List Str:=["rule","room","deed","guest","calmer"]
def tq:List 1.1:=[("settled_behind",.fn 3 bH),("waiting",.fn 2 cr),("with_word",.fn 3 bV),("without_wait",.fn 2 cN)]
def gu:=aU iV (gI (iz iV gh tq []) (aM gh)) 3
theorem zi:aQ iV ["rule","room","deed"] (aw gh):=by ac_rfl
theorem zr(T:Txt w K mg):Fn P w K mg base 9 "bring_stop" 3 gu:=
 bp (gs:=tq) T.qv zi 1.4 ⟨(fA T).up,(jp T).up,(gm T).up,(og T).up,trivial⟩
def lx:List Str:=["left"]
def yi:List 1.1:=[]
def jy:=aU lx (gI (iz lx jg yi []) (aM jg)) 1
theorem Ee:aQ lx ["left"] (aw jg):=by ac_rfl
theorem Ex(T:Txt w K mg):Fn P w K mg base 1 "one_less" 1 jy:=
 bp (gs:=yi) T.qw Ee 1.4 trivial
def iU:List Str:=["rule","room","deed","within","waits","shorter","ended","kept"]
def tm:List 1.1:=[("tuple",.blt),("settled_behind",.fn 3 bH),("one_less",.fn 1 jy)]
def gq:=aU iU (gI (iz iU gf tm []) (aM gf)) 3
theorem zh:aQ iU ["rule","room","deed"] (aw gf):=by ac_rfl
theorem zq(T:Txt w K mg):Fn P w K mg base 9 "bring_tick" 3 gq:=
 bp (gs:=tm) T.qx zh 1.4 ⟨T.z9,(fA T).up,(Ex T).up,trivial⟩
def SC:List (cf×Nat×(List D->ac->Option (D×ac))):=[(.inr "read",3,fN),(.inr "write",3,fN),(.inr "up",3,jz),(.inr "down",3,gv),(.inr "leave",3,eZ),(.inr "stop",3,gu),(.inr "tick",3,gq)]
def yV:List Str:=["rule","room","deed","bring"]
def QF:List 1.1:=[("BRINGS",.ftab SC)]
def uw:=aU yV (gI (iz yV ua QF []) (aM ua)) 3
theorem Tt:aQ yV ["rule","room","deed"] (aw ua):=by ac_rfl
theorem JY(T:Txt w K mg):Fn P w K mg base 10 "done" 3 uw:=
 bp (gs:=QF) T.qy Tt 1.4 ⟨Vf T.za ⟨rfl,(sy T).up,rfl,(sy T).up,rfl,(EA T).up,rfl,(zt T).up,rfl,(xl T).up,rfl,(zr T).up,rfl,(zq T).up,trivial⟩,trivial⟩
def iS:List Str:=["thing","low","high"]
def sZ:List 1.1:=[("is_whole",.fn 1 fM)]
def cO:=aU iS (gI (iz iS gd sZ []) (aM gd)) 3
theorem zf:aQ iS ["thing","low","high"] (aw gd):=by ac_rfl
theorem qG(T:Txt w K mg):Fn P w K mg base 2 "is_between" 3 cO:=
 bp (gs:=sZ) T.qz zf 1.4 ⟨(uR T).up,trivial⟩
def kQ:List Str:=["n","thing","want","guest","left"]
def AS:List 1.1:=[("is_tuple_of",.fn 2 bW),("is_word",.fn 2 dH),("WANTS",.con qu),("is_between",.fn 3 cO),("GUEST_WORDS",.con mx),("GREATEST_LEFT",.con kq)]
def iu:=aU kQ (gI (iz kQ kM AS []) (aM kM)) 2
theorem Hz:aQ kQ ["n","thing"] (aw kM):=by ac_rfl
theorem xk(T:Txt w K mg):Fn P w K mg base 3 "is_deed" 2 iu:=
 bp (gs:=AS) T.qA Hz 1.4 ⟨(kT T).up,(rj T).up,T.ze,(qG T).up,T.zd,T.zc,trivial⟩
def nv:List Str:=["room","deed","word","guest","within"]
def FZ:List 1.1:=[("WRITING_WORDS",.con oq),("waiting",.fn 2 cr)]
def mX:=aU nv (gI (iz nv mK FZ []) (aM mK)) 2
theorem LK:aQ nv ["room","deed"] (aw mK):=by ac_rfl
theorem Ao(T:Txt w K mg):Fn P w K mg base 3 "can_do" 2 mX:=
 bp (gs:=FZ) T.qB LK 1.4 ⟨T.zg,(jp T).up,trivial⟩
def jQ:List Str:=["rule","n","row","room","steps","place","deed","behind","events"]
def yg:List 1.1:=[("empty",.fn 1 tH),("enumerate",.blt),("done",.fn 3 uw),("is_deed",.fn 2 iu),("can_do",.fn 2 mX)]
def Gk:=aU jQ (gI (iz jQ jH yg [189]) (aM jH)) 3
theorem Af:aQ jQ ["rule","n","row"] (aw jH):=by ac_rfl
def AK:List 1.1:=("NoDeed",.rse cX "place")::yg
def jx:=BO jQ (Vs cX "place" (cOfY jQ jH AK [189]) (aM jH)) 3
theorem HN(T:Txt w K mg):FnY P w K mg base 11 "walked" 3 jx cX "place":=
 Yb T.qC Af (λz z z z z z=>cw λz=>cw λz=>cw λz=>iZ rfl) (GKs.mem (gs:=AK) ⟨⟨by decide,T.zh _ _⟩,(Ez T).up,T.z0,(JY T).up,(xk T).up,(Ao T).up,trivial⟩)
theorem LZ(T:Txt w K mg):Fn P w K mg base 11 "walked" 3 Gk:=
 bp (gs:=yg) T.qC Af 1.4 ⟨(Ez T).up,T.z0,(JY T).up,(xk T).up,(Ao T).up,trivial⟩
def nq:List Str:=["ring"]
def AQ:List 1.1:=[("any",.blt)]
def mV:=aU nq (gI (iz nq kK AQ []) (aM kK)) 1
theorem Hx:aQ nq ["ring"] (aw kK):=by ac_rfl
theorem HR(T:Txt w K mg):Fn P w K mg base 1 "lets_in" 1 mV:=
 bp (gs:=AQ) T.qD Hx 1.4 ⟨T.qY,trivial⟩
def lv:List Str:=["room","guest"]
def yh:List 1.1:=[("WANTS",.con qu),("waiting",.fn 2 cr)]
def le:=aU lv (gI (iz lv jf yh []) (aM jf)) 2
theorem Ed:aQ lv ["room","guest"] (aw jf):=by ac_rfl
theorem Ew(T:Txt w K mg):Fn P w K mg base 3 "waits_in" 2 le:=
 bp (gs:=yh) T.qE Ed 1.4 ⟨T.ze,(jp T).up,trivial⟩
def kO:List Str:=["rule","n","guest","ahead","again","steps","ring","start"]
def AM:List 1.1:=[("try",.thr "walked" 3 jx cX "place"),("NoDeed",.hnd cX),("walked",.fn 3 Gk),("all",.blt),("lets_in",.fn 1 mV),("len",.blt),("waits_in",.fn 2 le)]
def ir:=aU kO (gI (iz kO kG AM []) (aM kG)) 5
theorem Hu:aQ kO ["rule","n","guest","ahead","again"] (aw kG):=by ac_rfl
theorem HP(T:Txt w K mg):Fn P w K mg base 12 "starves" 5 ir:=
 bp (gs:=AM) T.qF Hu 1.4 ⟨(HN T).up,T.zi,(LZ T).up,T.qX,(HR T).up,T.z3,(Ew T).up,trivial⟩
def gx:List Str:=["rule","n","thing","word","guest","ahead","again"]
def sY:List 1.1:=[("is_tuple_of",.fn 2 bW),("isinstance",.blt),("tuple",.blt),("starves",.fn 5 ir),("is_word",.fn 2 dH),("is_between",.fn 3 cO)]
def eJ:=aU gx (gI (iz gx gc sY []) (aM gc)) 3
theorem ze:aQ gx ["rule","n","thing"] (aw gc):=by ac_rfl
theorem zo(T:Txt w K mg):Fn P w K mg base 13 "shows_ring" 3 eJ:=
 bp (gs:=sY) T.qG ze 1.4 ⟨(kT T).up,T.z2,T.z9,(HP T).up,(rj T).up,(qG T).up,trivial⟩
def dI:List Str:=["rule","n","thing"]
def mR:List 1.1:=[("shows_never",.fn 3 dE),("shows_ring",.fn 3 eJ)]
def bD:=aU dI (gI (iz dI dF mR []) (aM dF)) 3
theorem si:aQ dI ["rule","n","thing"] (aw dF):=by ac_rfl
theorem sx(T:Txt w K mg):Fn P w K mg base 14 "shows_starving" 3 bD:=
 bp (gs:=mR) T.qH si 1.4 ⟨(xj T).up,(zo T).up,trivial⟩
def jZ:List Str:=["_law_left_here","_law_n","_law_guest","_law_way"]
def vq:List 1.1:=[("_law_pick",.fn 2 cb)]
def fP:=aU jZ (gI (iz jZ il vq []) (aM il)) 2
theorem BN:aQ jZ ["_law_left_here","_law_n"] (aw il):=by ac_rfl
theorem sB(T:Txt w K mg):Fn P w K mg base 2 "_law_deed" 2 fP:=
 bp (gs:=vq) T.qI BN 1.4 ⟨(gn T).up,trivial⟩
def lC:List Str:=["_law_within","_law_guest","_law_word"]
def yo:List 1.1:=[]
def eL:=aU lC (gI (iz lC jm yo []) (aM jm)) 3
theorem Ej:aQ lC ["_law_within","_law_guest","_law_word"] (aw jm):=by ac_rfl
theorem uS(T:Txt w K mg):Fn P w K mg base 1 "_law_put" 3 eL:=
 bp (gs:=yo) T.qJ Ej 1.4 trivial
def gQ:List Str:=["_law_rule_here","_law_waits","_law_reading","_law_writing","_law_tagged"]
def qQ:List 1.1:=[("enumerate",.blt),("list",.blt),("range",.blt),("len",.blt),("max",.blt)]
def gH:=aU gQ (gI (iz gQ eY qQ []) (aM eY)) 2
theorem wU:aQ gQ ["_law_rule_here","_law_waits"] (aw eY):=by ac_rfl
theorem xo(T:Txt w K mg):Fn P w K mg base 1 "_law_fronts" 2 gH:=
 bp (gs:=qQ) T.qK wU 1.4 ⟨T.z0,T.z4,T.z7,T.z3,T.z5,trivial⟩
def jW:List Str:=["_law_rule_here","_law_within","_law_want","_law_reading"]
def vm:List 1.1:=[("len",.blt)]
def jM:=aU jW (gI (iz jW ii vm []) (aM ii)) 3
theorem BK:aQ jW ["_law_rule_here","_law_within","_law_want"] (aw ii):=by ac_rfl
theorem Cd(T:Txt w K mg):Fn P w K mg base 1 "_law_lets" 3 jM:=
 bp (gs:=vm) T.qL BK 1.4 ⟨T.z3,trivial⟩
def fY:List Str:=["_law_rule_here","_law_room","_law_within","_law_waits","_law_events","_law_turn","_law_alone","_law_some","_law_guest","_law_want","_law_mark","_law_rest","_law_ahead"]
def pE:List 1.1:=[("range",.blt),("len",.blt),("_law_put",.fn 3 eL),("_law_fronts",.fn 2 gH),("_law_lets",.fn 3 jM),("tuple",.blt),("int",.blt)]
def dg:=aU fY (gI (iz fY ee pE [284]) (aM ee)) 2
theorem vD:aQ fY ["_law_rule_here","_law_room"] (aw ee):=by ac_rfl
theorem oh(T:Txt w K mg):Fn P w K mg base 2 "_law_settled" 2 dg:=
 bp (gs:=pE) T.qM vD 1.4 ⟨T.z7,T.z3,(uS T).up,(xo T).up,(Cd T).up,T.z9,T.z1,trivial⟩
def lE:List Str:=["_law_room","_law_deed_here","_law_within","_law_waits","_law_here","_law_stays","_law_fits"]
def yq:List 1.1:=[]
def lg:=aU lE (gI (iz lE jo yq [304]) (aM jo)) 2
theorem El:aQ lE ["_law_room","_law_deed_here"] (aw jo):=by ac_rfl
theorem ED(T:Txt w K mg):Fn P w K mg base 1 "_law_can" 2 lg:=
 bp (gs:=yq) T.qN El 1.4 trivial
def iY:List Str:=["_law_rule_here","_law_room","_law_deed_here","_law_word","_law_guest","_law_rest","_law_entry","_law_events"]
def tD:List 1.1:=[("_law_settled",.fn 2 dg),("tuple",.blt)]
def iQ:=aU iY (gI (iz iY gk tD []) (aM gk)) 3
theorem zl:aQ iY ["_law_rule_here","_law_room","_law_deed_here"] (aw gk):=by ac_rfl
theorem zv(T:Txt w K mg):Fn P w K mg base 3 "_law_asked" 3 iQ:=
 bp (gs:=tD) T.qO zl 1.4 ⟨(oh T).up,T.z9,trivial⟩
def gP:List Str:=["_law_rule_here","_law_here","_law_waits"]
def qP:List 1.1:=[("tuple",.blt)]
def gG:=aU gP (gI (iz gP eX qP []) (aM eX)) 3
theorem wT:aQ gP ["_law_rule_here","_law_here","_law_waits"] (aw eX):=by ac_rfl
theorem xn(T:Txt w K mg):Fn P w K mg base 1 "_law_marked" 3 gG:=
 bp (gs:=qP) T.qP wT 1.4 ⟨T.z9,trivial⟩
def jY:List Str:=["_law_rule_here","_law_room","_law_deed_here","_law_within","_law_waits","_law_fewer","_law_gone","_law_events","_law_word","_law_guest","_law_here","_law_first","_law_there","_law_more"]
def vp:List 1.1:=[("tuple",.blt),("_law_settled",.fn 2 dg),("_law_can",.fn 2 lg),("_law_asked",.fn 3 iQ),("int",.blt),("_law_marked",.fn 3 gG),("_law_put",.fn 3 eL)]
def dT:=aU jY (gI (iz jY ik vp []) (aM ik)) 3
theorem BM:aQ jY ["_law_rule_here","_law_room","_law_deed_here"] (aw ik):=by ac_rfl
theorem sA(T:Txt w K mg):Fn P w K mg base 4 "_law_done" 3 dT:=
 bp (gs:=vp) T.qQ BM 1.4 ⟨T.z9,(oh T).up,(ED T).up,(zv T).up,T.z1,(xn T).up,(uS T).up,trivial⟩
def lB:List Str:=["_law_left_here","_law_rule_here","_law_n","_law_many","_law_room","_law_row_here","_law_turn","_law_deed_here","_law_found"]
def yn:List 1.1:=[("range",.blt),("_law_deed",.fn 2 fP),("_law_done",.fn 3 dT),("tuple",.blt)]
def jA:=aU lB (gI (iz lB jk yn [345]) (aM jk)) 4
theorem Ei:aQ lB ["_law_left_here","_law_rule_here","_law_n","_law_many"] (aw jk):=by ac_rfl
theorem EB(T:Txt w K mg):Fn P w K mg base 5 "_law_row" 4 jA:=
 bp (gs:=yn) T.qR Ei 1.4 ⟨T.z7,(sB T).up,(sA T).up,T.z9,trivial⟩
def fZ:List Str:=["_law_left_here","_law_n","_law_row_here","_law_at","_law_deed_here","_law_some"]
def pF:List 1.1:=[("_law_pick",.fn 2 cb),("_law_deed",.fn 2 fP),("len",.blt)]
def eu:=aU fZ (gI (iz fZ eg pF []) (aM eg)) 3
theorem vE:aQ fZ ["_law_left_here","_law_n","_law_row_here"] (aw eg):=by ac_rfl
theorem vJ(T:Txt w K mg):Fn P w K mg base 3 "_law_changed" 3 eu:=
 bp (gs:=pF) T.qS vE 1.4 ⟨(gn T).up,(sB T).up,T.z3,trivial⟩
def fX:List Str:=["_law_rule_here","_law_n","_law_guest","_law_ahead","_law_again","_law_room","_law_deed_here","_law_step","_law_here","_law_others"]
def pD:List 1.1:=[("_law_done",.fn 3 dT),("len",.blt)]
def fO:=aU fX (gI (iz fX dZ pD []) (aM dZ)) 5
theorem vC:aQ fX ["_law_rule_here","_law_n","_law_guest","_law_ahead","_law_again"] (aw dZ):=by ac_rfl
theorem vH(T:Txt w K mg):Fn P w K mg base 5 "_law_starves" 5 fO:=
 bp (gs:=pD) T.qT vC 1.4 ⟨(sA T).up,T.z3,trivial⟩
def iX:List Str:=["_law_left_here","_law_rule_here","_law_n","_law_ahead","_law_again","_law_pairs","_law_turn","_law_some","_law_first","_law_second","_law_guest","_law_found","_law_told","_law_numbers","_law_one","_law_thing","_law_bad"]
def tB:List 1.1:=[("_law_rows",.fn 3 jL),("range",.blt),("told_most",.fn 2 fL),("shows_starving",.fn 3 bD),("list",.blt),("any",.blt),("_law_pick",.fn 2 cb),("_law_row",.fn 4 jA),("_law_changed",.fn 3 eu),("isinstance",.blt),("bool",.blt),("_law_starves",.fn 5 fO)]
def eK:=aU iX (gI (iz iX gj tB [383,975000]) (aM gj)) 3
theorem zk:aQ iX ["_law_left_here","_law_rule_here","_law_n"] (aw gj):=by ac_rfl
theorem zu(T:Txt w K mg):Fn P w K mg base 15 "_law_right" 3 eK:=
 bp (gs:=tB) T.qU zk 1.4 ⟨(Cc T).up,T.z7,(sv T).up,(sx T).up,T.z4,T.qY,(gn T).up,(EB T).up,(vJ T).up,T.z2,T.qZ,(vH T).up,trivial⟩
def GU:List Str:=["_law_script","_law_k","_law_left_here","_law_rule_here","_law_n"]
def Xm:List 1.1:=[("range",.blt),("max",.blt),("_law_left",.fn 2 jN),("_law_rule",.fn 1 jK),("min",.blt),("_law_pick",.fn 2 cb),("_law_right",.fn 3 eK),("len",.blt)]
def Gm:=aU GU (gI (iz GU Ag Xm []) (aM Ag)) 1
theorem Yl:aQ GU ["_law_script"] (aw Ag):=by ac_rfl
theorem qan(T:Txt w K mg):GKs P w K mg base 15 Xm:=⟨T.z7,T.z5,(Ce T).up,(Cb T).up,T.z6,(gn T).up,(zu T).up,T.z3,trivial⟩
end
theorem qbm{l:W.OpenLaw}{K:aeO}(X:K.In h)(G:h.Ns Zs mg)(hfa:mg "law" = Y 1.57)(T:Txt w K mg) :
  ∃ fd:FuncData,(∀ (s:gV) (v:ce),BindsTo s fd ⟨[v],[]⟩ [("_law_script",v)])/\∀ base:TF,K.In base->base.Ns Zs mg->FnOk l.prog w K mg base GX 16 fa fd ["_law_script"] (OA K 1 Gm):=
 ZB T.qW hfa Yl (λz z z z z z z=>rfl) λbase=>qan T
theorem walk{l:W.OpenLaw}{YP:Qa->TF->Prop}{d:DefRec}{K:Params->aeO}(hn:l.most=Y 63)(hdf:d.params.defaults=[])(hnm:d.name = "law")
  (hY:∀ (w:Qa) (h:TF),YP w h->(K w.params).In h) (hlaw:∀ ns:List Int,ns.length<=63->∃ S',Gm [.rol 2.6] []=Y (.bl true,S'))
  (F:∀ (w:Qa) (mg:Str->Option ce) (h:TF),(K w.params).In h->h.Ns Zs mg->Txt w (K w.params) mg) :
  W.WalkO q loose XP YP l.row.toRowW d [] (λf vs=>PySem.call f vs):=
 L2.SX (n:=63) (k:=16) (x:="_law_script") (CX:=λu=>GX) (sp:=λw=>OA (K w.params) 1 Gm) hn 0.1 hdf ⟨rfl,by decide,by decide⟩ hY
  (λw mg fa h KX G hmg=>qbm KX G (hnm ▸ hmg) (F w mg h KX G)) (λu u a ns hl u hS=>Zz hlaw hl hS) λu u u u u z=>z
end K29
end
section
set_option maxHeartbeats 4000000
namespace K29
open L2 MI
open M hiding rn je mC af ay aF dA dQ dD gW dJ eD wp iq oi ao aa aR dw fC Av bC bS bz bF jI ax bv aI bw eQ cj aj aS ag bo gy aT cD kY bY cR bX fB fI mO oz kZ iF ft fj eG fo fh dU dL jJ
def xK:MS:=
 qb
theorem vO:fQ=aU gb xK 2:=jd rfl
def Ip:MS:=
 ID
theorem EV:lf=aU lD Ip 0:=jd rfl
def Fg:MS:=
 wv fQ lf
theorem Cq:jN=aU jX Fg 2:=jd rfl
def Fe:MS:=
 wu
theorem Co:cb=aU lS Fe 2:=jd rfl
def Fd:MS:=
 CG cb
theorem Cm:jK=aU jU Fd 1:=jd rfl
def uV:MS:=
 aI (aT (rn (dw (aa (!"read") (aa (!"write") ao))) (bS (ay lI 1e0 (ay cA 2e0 (bF (bb lm) (aa (ay cm 3.5 (!"readers")) ao)))))) (je 2 0.8)) (aI (aT (aR (aa (aR (aa '4' (aa 0e0 (aa 1.9 ao)))) (aa (aR (aa '3' (aa (ay lI '2' 1e0) (aa 1.9 ao)))) (aa (aR (aa '4' (aa (ay lj 1e0 '2') (aa 1.9 ao)))) ao)))) 'e') (aI (aT (aR (aa (aR (aa (!"leave") 8.9)) (aa (aR (aa '4' (aa 0e0 (aa 1.9 ao)))) (aa (aR (aa (!"leave") (aa (ay lj 1e0 '2') ao))) (aa (aR (aa '4' (aa (ay lj 1e0 '2') (aa 1.9 ao)))) ao))))) 'f') (bw (aR (aa '5' (aa (ay cA '6' (ay aK 1e0 (ax 2 cb (aa '0' 1.65)))) ao))))))
theorem Cn:jL=aU jV uV 3:=jd rfl
def oY:MS:=
 aI (cj (aF (ay SR '1' 3e0)) (bw (aR (aa 0e0 8.9))) bv) (aI (aT '0' (bo 4 (ag 'b' 1.8))) (aI (aT (ay lI '1' 2e0) 'f') (aI (cj (aF (ay cm '2' (!"readers"))) (bw (aR (aa '6' (aa 1.9 ao)))) bv) (aI (cj (aF (ay cm '2' (!"writers"))) (bw (aR (aa 1.9 8.1))) bv) (aI (cj (aF (ay cm '2' (!"turns"))) (bw (aR (aa (oi (aF (ay cm '3' 0e0)) '6' (ay aK '6' 1e0)) (aa (ay Gr (ay cA '6' (ay aK '1' 1e0)) 2e0) ao)))) bv) (aI (cj (aF (ay cm '2' (!"passes"))) (bw (aR (aa '6' (aa (ay aK '6' '4') ao)))) bv) (bw (aR (aa '6' 8.1)))))))))
theorem Ci:fL=aU jR oY 2:=jd rfl
def qI:MS:=
 bw (eD (jI "tuple" '0') (ay cm 1.06 '1'))
theorem xz:bW=aU gM qI 2:=jd rfl
def uh:MS:=
 bw (eD (jI "str" '0') (ay rN '0' '1'))
theorem xy:dH=aU kP uh 2:=jd rfl
def xH:MS:=
 bw (eD (jI "int" '0') (iq (jI "bool" '0')))
theorem EQ:fM=aU ly xH 1:=jd rfl
def lU:MS:=
 aI (cj (dJ (dQ (ax 2 bW (aa '2' (aa 3e0 ao))))) (bw (mC 1.5)) bv) (aI (aT '2' (bo 3 1.8)) (bw (eD (ax 2 dH (aa '3' (aa (aR (aa (!"never") ao)) ao))) (eD (ax 1 fM 2.5) (eD (ax 1 fM (aa '5' ao)) (ay cm (aR (aa '4' (aa '5' ao))) (ax 2 fL 3.9)))))))
theorem oW:dE=aU fg lU 3:=jd rfl
def Kj:MS:=
 bw (aR (aa (ay cA (aR (aa (!"out") ao)) '0') 7.9))
theorem PH:tH=aU tT Kj 1:=jd rfl
def zD:MS:=
 HI
theorem xB:cG=aU gN zD 2:=jd rfl
def Il:MS:=
 nG
theorem ER:nS=aU lz Il 2:=jd rfl
def Ml:MS:=
 oK cG
theorem xx:cr=aU kN Ml 2:=jd rfl
def PM:MS:=
 im cr
theorem Ar:iO=aU nu PM 3:=jd rfl
def Fb:MS:=
 nD iO
theorem Cj:lR=aU jS Fb 2:=jd rfl
def Mn:MS:=
 qZ lR nS iO
theorem Ic:mU=aU nk Mn 2:=jd rfl
def PL:MS:=
 rf cG iO mU
theorem Mj:mW=aU pV PL 2:=jd rfl
def EZ:MS:=
 nC
theorem Ch:bV=aU jP EZ 3:=jd rfl
def PJ:MS:=
 uc bV
theorem Mi:tF=aU pU PJ 3:=jd rfl
def Ct:MS:=
 oR bV tF
theorem zx:iP=aU iT Ct 3:=jd rfl
def Mm:MS:=
 oN iP mW
theorem Ib:dk=aU nj Mm 2:=jd rfl
def oX:MS:=
 BR
theorem vL:cN=aU fW oX 2:=jd rfl
def uU:MS:=
 we dk cr cN
theorem Ck:fN=aU jT uU 3:=jd rfl
def xI:MS:=
 xa dk cr cG bV
theorem ES:jz=aU lA xI 3:=jd rfl
def mM:MS:=
 BU dk
theorem sG:bH=aU ez mM 3:=jd rfl
def Fa:MS:=
 BS
theorem Mh:iN=aU pS Fa 3:=jd rfl
def sL:MS:=
 mL bH bV iN Wd.reads.s "down"
theorem zB:gv=aU iW sL 3:=jd rfl
def qJ:MS:=
 mL bH bV iN Wd.out.s "out"
theorem xC:eZ=aU gO qJ 3:=jd rfl
def sK:MS:=
 oM bH bV cN cr
theorem zA:gu=aU iV sK 3:=jd rfl
def xG:MS:=
 oO
theorem EO:jy=aU lx xG 1:=jd rfl
def sJ:MS:=
 sr bH jy
theorem zy:gq=aU iU sJ 3:=jd rfl
def PK:MS:=
 oP (brL fN jz gv eZ gu gq)
theorem UE:uw=aU yV PK 3:=jd rfl
def sI:MS:=
 bw (eD (ax 1 fM (aa '0' ao)) (dA fLe fLe '1' '0' '2'))
theorem zw:cO=aU iS sI 3:=jd rfl
def ui:MS:=
 aI (cj (dQ (ax 2 bW (aa '1' (aa 1e0 ao)))) (bw (ax 2 dH (aa 3.5 (aa (aR (aa (!"tick") ao)) ao)))) bv) (aI (cj (dQ (ax 2 bW (aa '1' 1.65))) (bw (eD (ax 2 dH (aa 3.5 (aa (mC mx) ao))) (ax 3 cO (aa 4.2 7.6)))) bv) (aI (cj (dJ (dQ (ax 2 bW (aa '1' (aa 3e0 ao))))) (bw (mC 1.5)) bv) (aI (aT '1' (bo 3 (ag 'b' 0.8))) (bw (eD (ax 2 dH (aa '2' (aa (mC qu) ao))) (eD (ax 3 cO (aa '3' 7.6)) (wp (ay yE '4' 1.9) (ax 3 cO (aa '4' (aa 0e0 (aa (mC kq) ao)))))))))))
theorem xA:iu=aU kQ ui 2:=jd rfl
def Fc:MS:=
 pZ cr
theorem Mk:mX=aU nv Fc 2:=jd rfl
def As:MS:=
 bw (bF (bb Da) (aa (dL (cR '0') (bo 3 (ag '`' (ag 'a' (ag 'b' aS)))) bX (cR '2') (bo 2 0.8) bX (ay cm '3' (!"in")) [L,L,L,L,L]) ao))
theorem Ie:mV=aU nq As 1:=jd rfl
def xF:MS:=
 bw (ay rN (ax 2 cr 3.9) (mC qu))
theorem EN:le=aU lv xF 2:=jd rfl
def nL:MS:=
 aI (cj (dJ (dQ (ax 2 bW (aa '2' (aa 4e0 ao))))) (bw (mC 1.5)) bv) (aI (aT '2' (bo 4 9.5)) (aI (cj (gW (dJ (dQ (ax 2 dH (aa '3' (aa (aR (aa (!"starves") ao)) ao))))) (dJ (dQ (ax 3 cO (aa '4' (aa 0e0 (aa (ay lI '1' 1e0) ao))))))) (bw (mC 1.5)) bv) (bw (eD (jI "tuple" '5') (eD (jI "tuple" '6') (ax 5 ir (aa '0' (aa '1' (aa '4' (aa '5' 8.1))))))))))
theorem qH:eJ=aU gx nL 3:=jd rfl
def js:MS:=
 bw (wp (ax 3 dE (aa '0' (aa '1' 3.0))) (ax 3 eJ (aa '0' (aa '1' 3.0))))
theorem lK:bD=aU dI js 3:=jd rfl
def Fi:MS:=
 sR cb
theorem Cs:fP=aU jZ Fi 2:=jd rfl
def Io:MS:=
 IC
theorem EU:eL=aU lC Io 3:=jd rfl
def zF:MS:=
 ut
theorem xE:gH=aU gQ zF 2:=jd rfl
def Ff:MS:=
 CH
theorem Cp:jM=aU jW Ff 3:=jd rfl
def xJ:MS:=
 rC gH jM eL
theorem vM:dg=aU fY xJ 2:=jd rfl
def Iq:MS:=
 CJ
theorem EW:lg=aU lE Iq 2:=jd rfl
def Cu:MS:=
 xS dg
theorem zC:iQ=aU iY Cu 3:=jd rfl
def zE:MS:=
 mP
theorem xD:gG=aU gP zE 3:=jd rfl
def Fh:MS:=
 lO lg iQ dg gG eL
theorem Cr:dT=aU jY Fh 3:=jd rfl
def Im:MS:=
 IB fP dT
theorem ET:jA=aU lB Im 4:=jd rfl
def oZ:MS:=
 aI (aT (ax 2 cb (aa '0' (aa (ay aK (bF (bb jc) 3.0) 1e0) ao))) 'c') (aI (aT (ax 2 fP 3.9) 'd') (aI (aT (dw (aa (ay aK 1.20 (bz '2' (bS (ay aK '3' 1e0)) bC)) (aa (ay aK (ay aK 1.20 (aR 2.5)) (bz '2' (bS '3') bC)) (aa (ay aK (ay aK 1.20 (aR 2.5)) (bz '2' (bS (ay aK '3' 1e0)) bC)) ao)))) 'e') (aI (aT (ay aK '5' (dw (aa (mO '2' (bS (Av MU 1e0))) (aa (ay aK '2' '2') (aa 1.20 (aa (ay aK '2' (aR (aa (aR (aa (!"tick") ao)) ao))) ao)))))) 'e') (bw (ay aB '5' (ax 2 cb (aa '0' (aa 7e0 ao))))))))
theorem vN:eu=aU fZ oZ 3:=jd rfl
end K29
end
section
namespace K29
open MI L2
open M hiding rn je mC af ay aF dA dQ dD gW dJ eD wp iq oi ao aa aR dw fC Av bC bS bz bF jI ax bv aI bw eQ cj aj aS ag bo gy aT cD kY bY cR bX fB fI mO oz kZ iF ft fj eG fo fh dU dL jJ
theorem nH:JM cb:=λS r m h h0 h1=>by rw[Co];exact LU rfl h h0 h1
theorem left{ns:List Int}{k:Int}(h0:0<=k)(h1:k<=100000):∃ a b,jN [.rol 2.6,.int k] S=Y (.ref S.length,S++[.lst [.int a,.int b,.int 0]])/\0<=a/\0<=b/\b<2147483647:=by
 rw[Cq];exact Mr (N:=jX) (cellAt:=fQ) (far:=lf) rfl h0 h1 (λS k h=>by rw[vO];exact GH (N:=gb) rfl h) (λS=>by rw[EV];exact QP (N:=lD) rfl)
theorem WQ(S:ac)(ws:List Wd)(i:Nat)(w:Wd)(h:i<ws.length)(hl:ws.length<=100):eL [cQ ws,.int (i:Int),w.d] S=Y (cQ (ws.set i w),S):=by
 rw[EU];exact TK (N:=lC) rfl h hl
theorem seOk:NO gH jM eL:=
 ⟨λS r es hl=>by rw[xE];exact IV (N:=gQ) rfl hl,λS r ws wr=>by rw[Cp];exact Qh (N:=jW) rfl,WQ⟩
theorem Ad:qw dg:=λS r R h hl=>by
 rw[vM];exact DX seOk (N:=fY) rfl h hl
theorem doOk:qbu lg iQ dg gG eL:=
 ⟨λS R dd hl hd=>by rw[EW];exact Wk (N:=lE) rfl hl hd,
 λS r R wr g t h hl hw hs=>by rw[zC];exact NL Ad (N:=iY) rfl h hl hw hs,
 Ad,λS r w es hl=>by rw[xD];exact Ig (N:=gP) rfl hl,WQ⟩
theorem rule(P:Pk S r):∃ (rl:Rl) (S':ac),jK [.ref r] S=Y (rl.d,S')/\rl.Ok/\Pk S' r/\Keep r S S':=by
 rw[Cm];obtain⟨x,a,b,c,S',e,R,P',K⟩:=LL (pick:=cb) nH (N:=jU) rfl P;obtain⟨w,rfl⟩:=MH R.w;exact⟨⟨w,a,b,c⟩,S',e,⟨R.a0,R.a5,R.b0,R.b9,R.c0,R.c1⟩,P',K⟩
theorem Vd:SM cG:=λS R l hl=>by rw[xB];exact qal (N:=gN) rfl hl
theorem tV:uL cr:=λS R g hl=>by rw[xx];exact Oc Vd (N:=kN) rfl hl
theorem Do:qy iO:=⟨λS r R g hl=>by rw[Ar];exact NA tV (N:=nu) rfl hl,λS r ws hl=>by rw[Ar];exact Nz (λS=>by rw[xx];exact Ob Vd (N:=kN) rfl hl) (N:=nu) rfl⟩
theorem Zk(S:ac)(r:Rl)(R:Rm)(hl:R.1.length<=100)(hl2:R.2.length<=100):mU [r.d,aZ R] S=Y (qz (uT r R),S):=by
 rw[Ic];exact HW (λS r R hl=>by rw[Cj];exact Cf Do (N:=jS) rfl hl) (λS w es hw hl=>by rw[ER];exact CV (N:=lz) rfl hw hl) Do (N:=nk) rfl hl hl2
theorem Sr(S:ac)(r:Rl)(R:Rm)(hl:R.1.length<=100)(hl2:R.2.length<=100):mW [r.d,aZ R] S=Y (vS (qT r R),S):=by
 rw[Mj];exact JA Vd Do Zk (N:=pV) rfl hl hl2
theorem Lr(S:ac)(R:Rm)(g:Nat)(w:Wd)(h:g<R.1.length)(hl:R.1.length<=100):bV [aZ R,.int (g:Int),w.d] S=Y (aZ (R.1.set g w,R.2),S):=by
 rw[Ch];exact Bu (N:=jP) rfl h hl
theorem stOk:qbq iP mW:=⟨Sr,λS r R v R' l h hl s=>by
 rw[zx]
 exact GM Lr (λS r R i e h hi hl=>by rw[Mi];exact Mq Lr (N:=pU) rfl h hi hl) (N:=iT) rfl h hl s⟩
theorem OS{r:Rl}(hb:0<=r.b)(h:ROk R)(hl:R.1.length<=50):dk [r.d,aZ R] S=Y (.tup [aZ (bf r R).1,di (bf r R).2],S++[.lst ((bf r R).2.map Ev.d)]):=by
 rw[Ib];exact BQ stOk hb (N:=nj) rfl h hl
theorem OG:Lq dk:=λS r R hb h hl=>OS hb h hl
theorem woOk:qbn cN:=λS R g hl=>by rw[vL,show oX=BR from rfl];exact XQ (N:=fW) rfl hl
theorem Tu:WA bH:=λS r R l hb h hl h4=>by rw[sG,show mM=BU dk from rfl];exact Ym OG (N:=ez) rfl hb h hl h4
theorem tuOk:TuOk iN:=λS r R g w hw hl=>by rw[Mh,show Fa=BS from rfl];exact Ya (N:=pS) rfl hw hl
theorem olOk(S:ac)(t:Option Int):jy [bU t] S=Y (bU (t.map (· - 1)),S):=by rw[EO,show xG=oO from rfl];exact Qi (N:=lx) rfl
theorem deOk:DeOk dk cr cG bV:=⟨OG,tV,Vd,Lr⟩
theorem brOk:BrOk fN jz gv eZ gu gq:=
 ⟨λS r R wr g t hb h hl hw hs=>by rw[Ck,show uU=we dk cr cN from rfl];exact Ww OG tV woOk (N:=jT) rfl hb h hl hw hs,
 λS r R g hb h hl hw=>by rw[ES,show xI=xa dk cr cG bV from rfl];exact XT deOk (N:=lA) rfl hb h hl hw,
 λS r R g w hb h hl hw ho=>by rw[zB,show sL=mL bH bV iN Wd.reads.s "down" from rfl];exact Gz Tu Lr tuOk (N:=iW) rfl hb h hl hw ho 3.7 rfl 0.1 rfl,
 λS r R g w hb h hl hw ho=>by rw[xC,show qJ=mL bH bV iN Wd.out.s "out" from rfl];exact Gz Tu Lr tuOk (N:=gO) rfl hb h hl hw ho (.inr rfl) rfl 0.1 rfl,
 λS r R g w hb h hl hw hc=>by rw[zA,show sK=oM bH bV cN cr from rfl];exact Oq Tu Lr woOk tV (N:=iV) rfl hb h hl hw hc,
 λS r R hb h hl=>by rw[zy,show sJ=sr bH jy from rfl];exact Of Tu olOk (N:=iU) rfl hb h hl⟩
theorem pdone{r:Rl}{dd:Dd}(hb:0<=r.b)(h:ROk R)(hl:R.1.length<=50)(hd:dd.Ok R.1.length)(hx:cS r R dd=Y x):∃ T,uw [r.d,aZ R,dd.d] S=Y (iw x,S++T):=by
 rw[UE,show PK=oP (brL fN jz gv eZ gu gq) from rfl];exact LW brOk (N:=yV) rfl hb h hl hd hx
def el:D->Bool
 | .ref _=>false
 | .txt=>false
 | .exc _ _ _=>false
 | .fn _=>false
 | _=>true
theorem el_nr{d:D}(h:el d=true):nr d=true:=by cases d<;>first | rfl | cases h
theorem pA{d:D}(h:nr d=true):fM [d] S=Y (.bl (kR d),S):=by
 rw[EQ,bL (show [d].length=1 from rfl),show ba ly [d]=[Y d] from rfl];simp only[xH,aP,eI,pf,ai,bG,oj,ob,ah,pg,QW h];cases d<;>simp[QA,KE,kR,MV h]
theorem qK{d:D}{lo:Int}(h:nr d=true):cO [d,.int lo,.int hi] S=Y (.bl (qC lo hi d),S):=by
 rw[zw,bL (show [d,D.int lo,D.int hi].length=3 from rfl),show ba iS [d,.int lo,.int hi]=[Y d,Y (.int lo),Y (.int hi)] from rfl];simp![sI,eI,iJ,pA h];cases d<;>simp[kR,qC];rename_i i;by_cases h1:lo<=i<;>simp[h1]
def Lv(n:Int):D->Bool
 | .tup xs=>decide ((xs.length:Int)=n)
 | _=>false
theorem eo{d:D}(h:nr d=true):bW [d,.int n] S=Y (.bl (Lv n d),S):=by
 rw[xz,bL (show [d,D.int n].length=2 from rfl),show ba gM [d,.int n]=[Y d,Y (.int n)] from rfl];simp only[qI,aP,eI,pf,ai,bG,bM,oj,ob,ah,pg,yD h];cases d<;>simp[iK,Lv];rfl
def wB(ys:List D):D->Bool
 | .str x=>ys.any λy=>gJ y (.str x)
 | _=>false
theorem yc{d:D}{ys:List D}(h:el d=true)(hy:ys.all (cy 39)=true):dH [d,.tup ys] S=Y (.bl (wB ys d),S):=by
 rw[xy,bL (show [d,D.tup ys].length=2 from rfl),show ba kP [d,.tup ys]=[Y d,Y (.tup ys)] from rfl];simp only[uh,aP,eI,pf,ai,bG,bM,oj,ob,ah,pg,QV (el_nr h)];cases d with
 | str x=>
  have hi:rN S (.str x) (.tup ys)=Y (.bl (ys.any λy=>gJ y (.str x))):=jC (ys:=ys) rfl rfl hy;simp[IP,hi,wB]
 | txt=>cases h
 | _=>simp[IP,wB]
theorem tofOk:XF bW:=λS xs k=>eo rfl
theorem XO:SK dH:=λS x ys h=>by rw[xy,show uh=wZ from rfl];exact NY (N:=kP) rfl h
theorem betOk:XM cO:=λS i lo hi=>qK rfl
theorem QB{dd:Dd}(hd:dd.Ok n):iu [.int (n:Int),dd.d] S=Y (.bl true,S):=by
 rw[xA,show ui=oQ bW dH cO from rfl];exact Nr tofOk XO betOk (N:=kQ) rfl hd
theorem Zj:iu [.int n,.non] S=Y (.bl false,S):=by
 rw[xA,bL (show [D.int n,.non].length=2 from rfl),show ba kQ [.int n,.non]=[Y (.int n),Y .non,L,L,L] from rfl];have t0:∀ k:Int,bW [.non,.int k] S=Y (.bl false,S):=λk=>eo rfl;simp[ui,t0]
theorem XE{R:Rm}{dd:Dd}(hl:R.1.length<=100)(hd:dd.Ok R.1.length):mX [aZ R,dd.d] S=Y (.bl (gL R dd),S):=by
 rw[Mk,show Fc=pZ cr from rfl];by_cases ht:dd=.tick
 ·subst ht;exact JC (N:=nv) rfl
 ·exact NB tV (N:=nv) rfl hl hd ht
theorem rowOk:XG fP dT:=
 ⟨λS r n P h1 h5=>by rw[Cs];exact Sb nH (N:=jZ) rfl P h1 0.0,
 λS rl R dd h hl hd=>by rw[Cr];exact RT doOk (N:=jY) rfl h hl hd⟩
theorem row{n m:Nat}{rl:Rl}(P:Pk S r)(h1:1<=n)(h5:n<=5)(hm:m<=400):∃ (l:List Dd) (R:Rm) (S':ac),jA [.ref r,rl.d,.int (n:Int),.int (m:Int)] S=Y (.tup [.tup 1.6,aZ R],S')/\Behind rl n l R/\l.length<=m/\Pk S' r/\Grow r S S':=by
 rw[ET];exact Tv rowOk (N:=lB) rfl P h1 h5 hm
theorem Lb(S:ac)(n:Nat)(h5:n<=5):tH [.int (n:Int)] S=Y (aZ (bT n),S):=by rw[PH,show Kj=ud from rfl];exact Nk (N:=tT) rfl h5
theorem Jq{R:Rm}{dd:Dd}(hd:dd.Ok R.1.length)(hc:gL R dd=true):∃ x,cS r R dd=Y x:=by
 unfold cS;rw[if_neg (by rw[hc];decide)];cases dd with
 | ask wr g t=>exact⟨_,rfl⟩
 | tick=>exact⟨_,rfl⟩
 | act k g=>
  dsimp only;split
  ·exact⟨_,rfl⟩
  ·rw[aag (show g<R.1.length from hd)];exact⟨_,rfl⟩
def KK(S S':ac):Prop:=∀ i,i<S.length->S'[i]?=S[i]?
theorem KK.lt(h:KK S S'){i:Nat}(hi:i<S.length):i<S'.length:=by
 have:=h i hi;rw[aag hi] at this;exact(aac.mp this).1
theorem KK.trans(h:KK S S')(h':KK S' S''):KK S S'':=λi hi=>(h' i (h.lt hi)).trans (h i hi)
theorem KK.app(T:ac):KK S (S++T):=λi hi=>aat hi
theorem KK.pk(h:KK S S')(P:Pk S q):Pk S' q:=by
 obtain⟨a,b,c,e,r⟩:=P;exact⟨a,b,c,(h q (aac.mp e).1).trans e,r⟩
theorem FF{r:Rl}{dd:Dd}(h:ROk R)(hl:R.1.length<=50)(hd:dd.Ok R.1.length):∃ T,dT [r.d,aZ R,dd.d] S=Y (ky (cS r R dd),S++T):=rowOk.dn S r R dd h hl hd
theorem Zi(hc:gL R dd=false):cS r R dd=L:=by
 cases h:cS r R dd with
 | none=>rfl
 | some x=>rw[Be h] at hc;cases hc
def yB:MY:=lL (Mo (gW (dJ (dQ (ax 2 iu (aa '1' 8.1)))) (dJ (dQ (ax 2 mX (aa '3' 8.1))))) (sM '5') (Cw bv)) (lL (Cw (aT (ax 3 uw (aa '0' (aa '3' 8.1))) (bo 2 1.91))) (lL (Cw (eQ (fB dN '4' (aa (aR (aa '3' (aa '7' (aa '8' ao)))) ao)))) (Cw (aT '7' 'c'))))
def yG:MG:=bo 2 (ag 'e' (ag 'f' aS))
def wyP:MY:=lL (Cw (aT (ax 1 tH 4.3) 'c')) (lL (Cw (aT (fC ao) 'd')) (lL (At (fI 3.0) yG yB) (Cw (bw '4'))))
theorem WE:jx=BO jQ wyP 3:=meY rfl
section
variable{r:Rl}{n q:Nat}
theorem yNo{d:D}{k:Nat}{a2 a4 a7 a8:Option D}(h:iu [.int (n:Int),d] S=Y (.bl false,S)\/iu [.int (n:Int),d] S=Y (.bl true,S)/\mX [aZ R,d] S=Y (.bl false,S)) :
  yB [Y r.d,Y 0.4,a2,Y (aZ R),a4,Y (.int (k:Int)),Y d,a7,a8] S=Y (.xc (Y (k:Int)) S):=by
 rcases h with h | ⟨h,h2⟩
 ·simp![yB,lL,Mo,fG,du,cU,h,dm,dC,aaH,rG,acn,sM,ydI]
 ·simp![yB,lL,Mo,fG,du,cU,h,h2,dm,dC,aaz,aaH,jv,acn,sM,ydI]
theorem yYes(hb:0<=r.b){S:ac}{dd:Dd}{a2 a5 a7 a8:Option D}(h:ROk R)(hn:R.1.length=n)(h5:n<=5)(hd:dd.Ok n)(hx:cS r R dd=Y x)(hq:S[q]?=Y (.lst zs))(hz:zs.length<=500) :
  ∃ b8 S',yB [Y r.d,Y 0.4,a2,Y (aZ R),Y (.ref q),a5,Y dd.d,a7,a8] S=Y (.ok (.nx [Y r.d,Y 0.4,a2,Y (aZ x.1),Y (.ref q),a5,Y dd.d,Y (aZ x.1),b8] S'))/\S'[q]?=Y (.lst (zs++[uO (R,x.1,x.2)]))/\Kp q S S':=by
 have d1:=QB (S:=S) hd;have c1:=XE (S:=S) (R:=R) (dd:=dd) 0.0 (by rw[hn];exact hd);rw[Be hx] at c1;obtain⟨T,o1⟩:=pdone (S:=S) hb h 0.0 (by rw[hn];exact hd) hx;have o1':uw [r.d,aZ R,dd.d] S=Y (.tup [aZ x.1,di x.2],S++T):=o1;have g2:∀ (u v:D) env S,bo 2 1.91 (.tup [u,v]) env S=1.91 [u,v] env S:=λu v env S=>cx;have k3:∀ S (u v w:D),cz ([u,v,w],S)=Y (.tup [u,v,w],S):=λS u v w=>aV 0.3;have cq:(S++T)[q]?=Y (.lst zs):=by rw[aat (aac.mp hq).1];exact hq
 have ap:dN (.ref q) [.tup [aZ R,aZ x.1,di x.2]] (S++T)=Y (.non,(S++T).set q (.lst (zs++[uO (R,x.1,x.2)]))):=qp cq 0.0;have km:∀ f ms env,uX f ms env (.ref q,S++T)=(ms env (S++T)).bind (fK f (.ref q)):=λf ms env=>wz cq;refine⟨Y (di x.2),(S++T).set q (.lst (zs++[uO (R,x.1,x.2)])),?_,aaL (aac.mp cq).1,λi h h'=>⟨by rw[aaF (Ne.symm h),aat h'],by rw[acz,aau];omega⟩⟩;simp![yB,lL,Mo,Cw,fG,du,cU,d1,dm,dC,aaz,jv,c1,aaU,abU,bK,o1',g2,bx,cE,bN,nO,nM,km,k3,gF,ap,nR]
theorem WD(hb:0<=r.b){a2:Option D}(h5:n<=5):∀ (l:List Dd) (R:Rm) (k:Nat) (S:ac) (zs:List D) (a5 a6 a7 a8:Option D),ROk R->R.1.length=n->(∀ d∈l,d.Ok n)->S[q]?=Y (.lst zs)->zs.length+l.length<=400 ->
  (∃ xs b3 b5 b6 b7 b8 S',cn r l R=Y xs/\lV yG yB (dW k 1.6) [Y r.d,Y 0.4,a2,Y (aZ R),Y (.ref q),a5,a6,a7,a8] S=Y (.ok (.nx [Y r.d,Y 0.4,a2,b3,Y (.ref q),b5,b6,b7,b8] S'))/\S'[q]?=Y (.lst (zs++(se R xs).map uO))/\Kp q S S') \/
  ∃ i S',cn r l R=L/\lV yG yB (dW k 1.6) [Y r.d,Y 0.4,a2,Y (aZ R),Y (.ref q),a5,a6,a7,a8] S=Y (.xc i S')/\Kp q S S'
 | []=>λR k S zs a5 a6 a7 a8 h hn hd hq hz=>.inl ⟨[],_,a5,a6,a7,a8,S,rfl,rfl,by simp only[se,acF,aaN];exact hq,λi u h=>⟨rfl,h⟩⟩
 | d::l=>λR k S zs a5 a6 a7 a8 h hn hd hq hz=>by
  rw[aar] at hz;have hd0:=hd d aad
  have hg:yG (.tup [.int (k:Int),d.d]) [Y r.d,Y 0.4,a2,Y (aZ R),Y (.ref q),a5,a6,a7,a8] S=Y ([Y r.d,Y 0.4,a2,Y (aZ R),Y (.ref q),Y (.int (k:Int)),Y d.d,a7,a8],S):=by
   rw[yG,cx];simp only[bx,aN,ob,dM,dP,cE,bN]
  rw[aak,dW,lV,hg,ob];cases hc:gL R d with
  | false=>
   have c1:=XE (S:=S) (R:=R) (dd:=d) 0.0 (by rw[hn];exact hd0);rw[hc] at c1;rw[yNo (.inr ⟨QB hd0,c1⟩),ob];exact .inr ⟨_,S,by unfold cn;rw[Zi hc];rfl,rfl,λi u h=>⟨rfl,h⟩⟩
  | true=>
   obtain⟨x,hx⟩:=Jq (r:=r) (by rw[hn];exact hd0) hc;obtain⟨b8,S1,e1,q1,P1⟩:=yYes hb (a2:=a2) (a5:=Y (.int (k:Int))) (a7:=a7) (a8:=a8) h hn h5 hd0 hx hq 0.0;obtain⟨h',hl'⟩:=fU h hx;rw[e1,ob];dsimp only;have w:cn r (d::l) R=(cn r l x.1).bind λxs=>Y (x::xs):=by show(cS r R d).bind _=_;rw[hx];rfl
   rcases WD hb h5 l x.1 (k+1) S1 _ (Y (.int (k:Int))) (Y d.d) (Y (aZ x.1)) b8 h' (hl'.trans hn) (λd' z=>hd d' (aah _ z)) q1 (by rw[aau,aaP];omega) with ⟨xs,b3,b5,b6,b7,b9,S2,w2,e2,q2,P2⟩ | ⟨i,S2,w2,e2,P2⟩
   ·exact .inl ⟨x::xs,b3,b5,b6,b7,b9,S2,by rw[w,w2];rfl,e2,by rw[q2,se,aak,aaZ];rfl,P1.trans P2⟩
   ·exact .inr ⟨i,S2,by rw[w,w2];rfl,e2,P1.trans P2⟩
theorem XR(hb:0<=r.b){l:List Dd}(h5:n<=5)(hd:∀ d∈l,d.Ok n)(hl:l.length<=300) :
  (∃ xs S',cn r l (bT n)=Y xs/\jx [r.d,.int (n:Int),.tup 1.6] S=Y (.val 0.7 S')/\S'[S.length]?=Y (.lst ((se (bT n) xs).map uO))/\KK S S') \/
  ∃ i S',cn r l (bT n)=L/\jx [r.d,.int (n:Int),.tup 1.6] S=Y (.xc i S')/\KK S S':=by
 have e0:=Lb S n h5;have kl:sS ([],S)=Y (.ref S.length,S++[.lst []]):=lb 0.3;have ke:∀ S,AG ([.tup 1.6],S)=Y (dW 0 1.6,S):=λS=>rfl;have ek:∀ S',Kp S.length (S++[.lst []]) S'->KK S S':=λS' P i h=>(P i 0.0 (by rw[aau];omega)).1.trans (aat h);rw[WE];unfold BO;rw[aas (show [r.d,D.int (n:Int),D.tup 1.6].length=3 from rfl),show ba jQ [r.d,.int (n:Int),.tup 1.6]=[Y r.d,Y 0.4,Y (.tup 1.6),L,L,L,L,L,L] from rfl];rcases WD (q:=S.length) (r:=r) hb (a2:=Y (.tup 1.6)) h5 l (bT n) 0 (S++[.lst []]) [] L L L L mY (by simp[bT]) hd jG 0.9 with ⟨xs,b3,b5,b6,b7,b8,S',w,e,hq,P⟩ | ⟨i,S',w,e,P⟩
 ·refine .inl ⟨xs,S',w,?_,by simpa using hq,ek _ P⟩;simp![wyP,lL,Cw,iJ,e0,nN,kl,At,lN,ke,e]
 ·refine .inr ⟨i,S',w,?_,ek _ P⟩;simp![wyP,lL,Cw,iJ,e0,nN,kl,At,lN,ke,e]
theorem XS{xs:List D}(h5:n<=5):∃ i S',jx [r.d,.int (n:Int),.tup (.non::xs)] S=Y (.xc i S')/\KK S S':=by
 have e0:=Lb S n h5;have kl:sS ([],S)=Y (.ref S.length,S++[.lst []]):=lb 0.3;have ke:∀ S,AG ([.tup (.non::xs)],S)=Y (dW 0 (.non::xs),S):=λS=>rfl;refine⟨Y 0,S++[.lst []],?_,KK.app _⟩;rw[WE];unfold BO;rw[aas (show [r.d,D.int (n:Int),D.tup (.non::xs)].length=3 from rfl),show ba jQ [r.d,.int (n:Int),.tup (.non::xs)]=[Y r.d,Y 0.4,Y (.tup (.non::xs)),L,L,L,L,L,L] from rfl]
 have e:lV yG yB (dW 0 (.non::xs)) [Y r.d,Y 0.4,Y (.tup (.non::xs)),Y (aZ (bT n)),Y 0.7,L,L,L,L] (S++[.lst []])=Y (.xc (Y 0) (S++[.lst []])):=by
  rw[dW,lV,yG,cx];simp only[bx,aN,ob,dM,dP,cE,bN];have:=yNo (r:=r) (n:=n) (S:=S++[.lst []]) (R:=bT n) (d:=.non) (k:=0) (a2:=Y (.tup (.non::xs))) (a4:=Y 0.7) (a7:=L) (a8:=L) (.inl Zj);rw[this];rfl
 simp![wyP,lL,Cw,iJ,e0,nN,kl,At,lN,ke,e]
end
def Xw(A B:Rm):Bool:=gJ (aZ A) (aZ B)
theorem Dh{α:Type}{f:α->D}(h:∀ x y,gJ (f x) (f y)=gJ (f y) (f x)):∀ l m:List α,eqDs (l.map f) (m.map f)=eqDs (m.map f) (l.map f)
 | [],[]=>rfl
 | [],_::_=>rfl
 | _::_,[]=>rfl
 | x::l,y::m=>by show(_&&_)=(_&&_);rw[h,Dh h l m]
theorem Qj(t u:Option Int):gJ (bU t) (bU u)=gJ (bU u) (bU t):=by
 cases t<;>cases u<;>first | rfl | exact aea
theorem qaN(e f:En):gJ e.d f.d=gJ f.d e.d:=by
 show((_==_)&&((_==_)&&((_==_)&&(_&&true))))=((_==_)&&((_==_)&&((_==_)&&(_&&true))));rw[aea (a:=((e.g:Nat):Int)),aea (a:=bI e.wr),aea (a:=e.m),Qj]
theorem Vz(A B:Rm):Xw A B=Xw B A:=by
 show(_&&(_&&true))=(_&&(_&&true));rw[show gJ (cQ A.1) (cQ B.1)=gJ (cQ B.1) (cQ A.1) from Dh (λv w=>(aea:(v.s==w.s)=_)) _ _,show gJ (esD A.2) (esD B.2)=gJ (esD B.2) (esD A.2) from Dh qaN _ _]
theorem Xt:∀ {l m:List En},eqDs (l.map En.d) (m.map En.d)=true->l.map (·.g)=m.map (·.g)
 | [],[],_=>rfl
 | [],_::_,h=>by cases h
 | _::_,[],h=>by cases h
 | x::l,y::m,h=>by
  have h:(((((x.g:Nat):Int)==((y.g:Nat):Int))&&_)&&eqDs (l.map En.d) (m.map En.d))=true:=h;rw[aae,aae,beq_iff_eq] at h;rw[aak,aak,Xt h.2,Int.ofNat.inj h.1.1]
theorem Tl{l m:List En}(h:l.map (·.g)=m.map (·.g)):aW l g=aW m g:=by
 have q:∀ l:List En,aW l g=(l.map (·.g)).any λx=>decide (x=g):=λl=>by unfold aW;rw[acr];rfl
 rw[q,q,h]
theorem Ni(h:Xw A B=true):aW A.2 g=aW B.2 g:=by
 have h:(_&&(eqDs (A.2.map En.d) (B.2.map En.d)&&true))=true:=h;rw[aae,aae] at h;exact Tl (Xt h.2.1)
theorem fEqR:cm S (aZ A) (aZ B)=Y (.bl (Xw A B)):=jD (Pt (n:=36)) (Pt (n:=36))
theorem DF{m:List Dd}:∀ {l:List Dd} {R:Rm},cn r (l++m) R=(cn r l R).bind λxs=>(cn r m (df R xs)).bind λys=>Y (xs++ys)
 | [],R=>by
  show cn r m R=(cn r m R).bind λys=>Y ys;cases cn r m R<;>rfl
 | d::l,R=>by
  show((cS r R d).bind λx=>(cn r (l++m) x.1).bind λxs=>Y (x::xs))=((cS r R d).bind λx=>(cn r l x.1).bind λxs=>Y (x::xs)).bind _;cases cS r R d with
  | none=>rfl
  | some x=>
   show(cn r (l++m) x.1).bind _=((cn r l x.1).bind _).bind _;rw[DF (l:=l)];cases cn r l x.1 with
   | none=>rfl
   | some xs=>
    show((cn r m (df x.1 xs)).bind _).bind _=(cn r m (df x.1 xs)).bind _;cases cn r m (df x.1 xs)<;>rfl
theorem JS:∀ {xs ys:Rs} {R:Rm},se R (xs++ys)=se R xs++se (df R xs) ys
 | [],_,_=>rfl
 | x::xs,ys,R=>congrArg (_::·) (JS (xs:=xs))
theorem vY:∀ {ys:Rs} {R:Rm},(se R ys).map (·.2)=ys
 | [],_=>rfl
 | y::ys,R=>congrArg (_::·) (vY (ys:=ys))
def sk(g:Nat)(R:Rm)(ys:Rs):Bool:=!ys.isEmpty&&(Xw R (df R ys)&&(ys.all (λy=>aW y.1.2 g)&&(ys.flatMap (·.2)).any λe=>e.w==rV))
def WN(r:Rl)(g:Nat)(m:List Dd)(R:Rm):Bool:=match cn r m R with
 | none=>false
 | some ys=>sk g R ys
def nZ(r:Rl)(n g:Nat)(l m:List Dd):Bool:=match cn r l (bT n) with
 | none=>false
 | some xs=>WN r g m 1.15
theorem OL(h:cn r m R=L):WN r g m R=false:=by unfold WN;rw[h]
theorem JW(h:cn r m R=Y ys):WN r g m R=sk g R ys:=by unfold WN;rw[h]
theorem Ox(h:cn r l (bT n)=L):nZ r n g l m=false:=by unfold nZ;rw[h]
theorem Hj(h:cn r l (bT n)=Y xs):nZ r n g l m=WN r g m 1.15:=by unfold nZ;rw[h]
theorem winOk{g:Nat}(h:ROk R)(hl:R.1.length<=100):le [aZ R,.int (g:Int)] S=Y (.bl (aW R.2 g),S):=by
 rw[EN,bL (show [aZ R,D.int (g:Int)].length=2 from rfl),show ba lv [aZ R,D.int (g:Int)]=[Y (aZ R),Y 0.5] from rfl];have w:=tV S R g hl
 have fi:rN S (ku R g) (.tup [.str "read",.str "write"])=Y (.bl (aW R.2 g)):=by
  unfold ku;cases q:R.2.find? λe=>decide (e.g=g) with
  | some e=>
   have he:=List.mem_of_find?_eq_some q;have hg:e.g=g:=by simpa using List.find?_some q
   have ho:=h.out e he;rw[hg] at ho;rw[if_neg (by rw[ho];decide),show aW R.2 g=true from aaX.mpr ⟨e,he,aao hg⟩];exact Jc (by cases e.wr<;>decide +kernel)
  | none=>
   rw[show aW R.2 g=false from List.any_eq_false.mpr λe he=>adg.mp q e he];split
   ·rw[jC (ys:=[.str "read",.str "write"]) rfl rfl rfl];exact congrArg Y (congrArg D.bl (by decide +kernel))
   ·rfl
 simp![xF,show qu=.tup [.str "read",.str "write"] from rfl,w,fi]
theorem Zx(S:ac)(zs:List Tz)(hz:(zs.flatMap (·.2.2)).length<=1000):mV [.lst 1.32] S=Y (.bl ((zs.flatMap (·.2.2)).any λe=>e.w==rV),S):=by rw[Ie,show As=xb from rfl];exact IA (N:=nq) rfl hz
def stW:ME:=ax 2 le (aa '1' 3.2)
theorem Oy{g:Nat}:∀ (zs:List Tz) (a b c:Option D),(∀ z∈zs,ROk z.2.1/\z.2.1.1.length<=100) ->
  ej zH bX stW 1.32 [a,b,c,Y 0.5] S=Y (zs.map (λz=>.bl (aW z.2.1.2 g)),S)
 | []=>λa b c w=>nP
 | z::zs=>λa b c h=>by
  obtain⟨h1,h2⟩:=h z aad;have ih:=Oy (S:=S) (g:=g) zs (Y (aZ z.1)) (Y (aZ z.2.1)) (Y (di z.2.2)) λy hy=>h y (aah _ hy)
  rw[aak,dR,show uO z=.tup [aZ z.1,aZ z.2.1,di z.2.2] from rfl,show zH (.tup [aZ z.1,aZ z.2.1,di z.2.2]) [a,b,c,Y 0.5] S=Y ([Y (aZ z.1),Y (aZ z.2.1),Y (di z.2.2),Y 0.5],S) by
   rw[zH,qi];simp only[bx,aN,ob,dM,dP,cE,bN]]
  simp only[ob,pq,gR,po];rw[show stW [Y (aZ z.1),Y (aZ z.2.1),Y (di z.2.2),Y 0.5] S=Y (.bl (aW z.2.1.2 g),S) by simp![stW,winOk h1 h2]];simp only[ob,pj,ih,pi];rfl
theorem XN(w:Ws r R l xs):ROk R->R.1.length<=5->(∀ x∈xs,ROk x.1/\x.1.1.length<=5)/\(xs.flatMap (·.2)).length<=15*xs.length:=by
 induction w with
 | nil=>exact λu u=>⟨λx z=>(by cases z),aal _⟩
 | cons q t ih=>
  intro h h5;obtain⟨h',hl⟩:=fU h q;have:=uE h h5 q;obtain⟨a,b⟩:=ih h' 0.0;refine⟨λx hx=>?_,by rw[ado,aau,aar];omega⟩;rcases aaC.mp hx with rfl | hx
  ·exact⟨h',by omega⟩
  ·exact a x hx
theorem GE(xs:List D)(m:Nat):gK xs (Y (m:Int)) L=xs.drop m:=by
 unfold gK;rw[Em,Eo];by_cases h:m<=xs.length
 ·rw[acR h,abS 0.3]
 ·rw[Nat.min_eq_right 0.0,aeg 0.0,aeg 0.0,adW]
theorem Wu{α:Type}{f:α->D}:∀ (zs:List α) {z:α},zs[zs.length - 1]?=Y z->ou (zs.map f) (-1)=Y (f z)
 | [],z,h=>by simp at h
 | y::zs,z,h=>by
  unfold ou;simp only[aaj,aar] at h ⊢;rw[show IL (zs.length+1) (-1)=Y (zs.length+1 - 1) by unfold IL;simp;omega,Option.bind_some,abv,h];rfl
def svP:MS:=aI (Aw 3 jx (aa '0' (aa '1' (aa (ay aK '3' '4') ao))) 5 false) (aI (aT (bz '5' (bS (bF (bb jc) 3.2)) bC) 'f') (aI (cj (dJ (dQ '6')) (bw (mC 1.5)) bv) (aI (aT (ay aB (ay aB '6' 0e0) 0e0) 'g') (bw (eD (ay cm '7' (ay aB (ay aB '6' (Av MU 1e0)) 1e0)) (eD (bF (bb Gs) (aa (bY (cR '6') zH bX stW [L,L,L,Y 2]) ao)) (ax 1 mV 8.1)))))))
theorem WH:ir=aU kO svP 5:=jd rfl
theorem Ly{r:Rl}{n g:Nat}{l m:List Dd}(hb:0<=r.b)(h5:n<=5)(hd:∀ d∈l++m,d.Ok n)(hl:l.length+m.length<=60):∃ S',ir [r.d,.int (n:Int),.int (g:Int),.tup 1.6,.tup 3.8] S=Y (.bl 9.9,S')/\KK S S':=by
 rw[WH,bL (show [r.d,.int (n:Int),.int (g:Int),.tup 1.6,.tup 3.8].length=5 from rfl),show ba kO [r.d,.int (n:Int),.int (g:Int),.tup 1.6,.tup 3.8]=[Y r.d,Y 0.4,Y 0.5,Y (.tup 1.6),Y (.tup 3.8),L,L,L] from rfl];have ad:aK S (.tup 1.6) (.tup 3.8)=Y (.tup ((l++m).map Dd.d)):=by rw[eN 0.9,aaY]
 have sw:=DF (r:=r) (l:=l) (m:=m) (R:=bT n);rcases XR (r:=r) (S:=S) hb h5 hd (by rw[aau];omega) with ⟨zs,S1,w,e,hq,K⟩ | ⟨i,S1,w,e,K⟩
 ·rw[w] at sw;cases h1:cn r l (bT n) with
  | none=>rw[h1] at sw;cases sw
  | some xs=>
   rw[h1] at sw;rw[Hj h1];have sw:Y zs=(cn r m 1.15).bind λys=>Y (xs++ys):=sw;cases h2:cn r m 1.15 with
   | none=>rw[h2] at sw;cases sw
   | some ys=>
    rw[h2] at sw;cases sw;rw[JW h2];have w1:=oE h1;have w2:=oE h2;have ok1:=w1.ok mY;have l0:(bT n).1.length=n:=by simp[bT]
    generalize hR:df (bT n) xs=R at *
    have hz:((se (bT n) (xs++ys)).map uO).drop l.length=(se R ys).map uO:=by
     rw[JS,hR,aaY,List.drop_left' (by rw[aaj,vZ,w1.len])]
    have fl:(se R ys).flatMap (·.2.2)=ys.flatMap (·.2):=by
     conv=>rhs;rw[<- vY (ys:=ys) (R:=R),List.flatMap_map]
    have yl:=w2.len;obtain⟨ya,yb⟩:=XN w2 ok1.1 0.0
    have za:∀ z∈se R ys,ROk z.2.1/\z.2.1.1.length<=100:=λz hz=>by
     have:z.2∈ys:=by rw[<- vY (ys:=ys) (R:=R)];exact List.mem_map_of_mem hz
     have:=ya _ this;exact⟨this.1,by omega⟩
    have sl:∀ h,iy 0.7 (Y (l.length:Int)) (h,S1)=Y (.lst (gK ((se (bT n) (xs++ys)).map uO) (Y (l.length:Int)) h),S1):=λh=>Qp hq;have la:∀ S,bb jc [.tup 1.6] S=Y (.int (l.length:Int),S):=λS=>by rw[CY,aaj]
    refine⟨S1,?_,K⟩;have lt:=Zx S1 (se R ys) (by rw[fl];omega);rw[fl] at lt;have sc:=Oy (S:=S1) (g:=g) (se R ys) L L L za
    have fa:bb Gs [.lst ((se R ys).map λz=>D.bl (aW z.2.1.2 g))] S1=Y (.bl (ys.all λy=>aW y.1.2 g),S1):=by
     rw[Ra (qv (λz:Tz=>aW z.2.1.2 g) _)]
     conv=>rhs;rw[<- vY (ys:=ys) (R:=R),acU]
     rw[acU];rfl
    have sC:∀ a0 a1 a3 a4 a5 a7,bY (cR '6') zH bX stW [L,L,L,Y 2] [a0,a1,Y 0.5,a3,a4,a5,Y (.lst ((se R ys).map uO)),a7] S1=Y (.lst ((se R ys).map λz=>D.bl (aW z.2.1.2 g)),S1):=λa0 a1 a3 a4 a5 a7=>by
     simp only[ci,cV,ai,bG,bM,bO,oj,ob,ah,rH];rw[iH (by rw[aaj,vZ];omega),show oB [L,L,L,Y 2] [a0,a1,Y 0.5,a3,a4,a5,Y (.lst ((se R ys).map uO)),a7]=[L,L,L,Y 0.5] from rfl,sc,ob,iI]
    simp![svP,Aw,ad,aar,List.length_nil,acn,e,cM,fz,dq,bZ,ca,la,dB,fv,cZ,sl,GE,hz,du,cU,ZH,dC,aep];unfold sk;cases ys with
    | nil=>simp only[se,acF,List.isEmpty_nil,bQ,aP,aX,ob,bg,bE,az,aaz,aaK]
    | cons y ys=>
     have i0:aB S1 (.lst ((se R (y::ys)).map uO)) (.int 0)=Y (uO (R,y.1,y.2)):=by rw[Gp,se,aak,Du 0.1 (by simp only[aar];omega)];rfl
     obtain⟨R0,es,q0⟩:=DM R (y::ys) 0.3;have i1:aB S1 (.lst ((se R (y::ys)).map uO)) (.int (-1))=Y (uO (R0,df R (y::ys),es)):=by rw[Gp];exact Wu _ (by rw[vZ];exact q0)
     have j0:aB S1 (uO (R,y.1,y.2)) (.int 0)=Y (aZ R):=rfl;have j1:aB S1 (uO (R0,df R (y::ys),es)) (.int 1)=Y (aZ (df R (y::ys))):=rfl;have em:((se R (y::ys)).map uO).isEmpty=false:=rfl;simp![em,i0,j0,eI,PP,Qn,IZ,i1,j1,fEqR];rw[show(y::ys).isEmpty=false from rfl,aaH,abh];cases Xw R (df R (y::ys)) with
     | false=>simp only[mj,ob,bg,az,aaK]
     | true=>
      simp only[jw,ob,abh,eI,bZ,aq,sC,ak,av,am,ca,fa];cases(y::ys).all λy=>aW y.1.2 g with
      | false=>simp only[mj,ob,bg,az,aaK]
      | true=>simp![jw,abh,iJ,lt]
 ·rw[w] at sw;refine⟨S1,?_,K⟩
  have nn:nZ r n g l m=false:=by
   cases h1:cn r l (bT n) with
   | none=>exact Ox h1
   | some xs=>
    rw[h1] at sw;rw[Hj h1];have sw:L=(cn r m 1.15).bind λys=>Y (xs++ys):=sw;cases h2:cn r m 1.15 with
    | none=>exact OL h2
    | some ys=>rw[h2] at sw;cases sw
  rw[nn];simp![svP,Aw,ad,aar,List.length_nil,acn,e]
def lsE:ME:=aR (aa (ay cA (aR (aa (!"out") ao)) '1') 7.9)
def lsC:ME:=bY (cR (ay aB '5' 1e0)) '`' bX 1.2 [L]
def lsW:ME:=bY (cR (ay aB 1.12 1e0)) '`' bX 1.2 [L]
def lsL:ME:=bY (cR (ay aB '7' 1e0)) (bo 2 (ag '`' 7.4)) (dD (aF (ay cm '0' (!"in"))) (aF (ay kf '1' '2'))) 1e0 [L,L,Y 2]
def lsA:MS:=aI (aT (ax 3 dT (aa '0' (aa '5' 8.1))) 'g') (aI (cj (aF (ay yE '7' 1.9)) (bw (mC 1.5)) bv) (aT 1.12 'e'))
def WV:MS:=aI (aT (ax 3 dT (aa '0' (aa '8' 8.1))) 'g') (aI (cj (gW (aF (ay yE '7' 1.9)) (aF (ay lh '2' lsW))) (bw (mC 1.5)) bv) (aI (aT 1.12 'h') (aT (ay aK '9' (bF (bb jc) (aa lsL ao))) 'i')))
def lsP:MS:=aI (aT lsE 'e') (aI (eG '3' 'f' lsA) (aI (oz 8 9 (aa '5' 8.9)) (aI (cj (aF (ay lh '2' lsC)) (bw (mC 1.5)) bv) (aI (eG '4' 'f' WV) (bw (eD (ay cm '8' '5') (ay fGt '9' 0e0)))))))
theorem ls_me:fO=aU fX lsP 5:=jd rfl
def zb(g:Nat)(e:Ev):Bool:=(e.w==rV)&&!decide (e.g=g)
section
variable{r:Rl}{n g:Nat}{S:ac}
theorem Zw{R:Rm}{a0 a1 a2 a3 a4 a6 a7 a8 a9:Option D}(hl:R.2.length<=100):lsC [a0,a1,a2,a3,a4,Y (aZ R),a6,a7,a8,a9] S=Y (.lst (R.2.map λe=>.int 2.0),S):=by
 have x1:aB S (aZ R) (.int 1)=Y (esD R.2):=rfl;simp![lsC,ci,cV,x1,dX,gsC (es:=R.2) (cap:=[L]) (env:=[a0,a1,a2,a3,a4,Y (aZ R),a6,a7,a8,a9]) rfl hl]
theorem Zt{x:Rm×List Ev}{a0 a1 a2 a3 a4 a5 a6 a8 a9:Option D}(hl:x.1.2.length<=100):lsW [a0,a1,a2,a3,a4,a5,a6,Y (iw x),a8,a9] S=Y (.lst (x.1.2.map λe=>.int 2.0),S):=by
 have x0:aB S (iw x) (.int 0)=Y (aZ x.1):=rfl;have x1:aB S (aZ x.1) (.int 1)=Y (esD x.1.2):=rfl;simp![lsW,ci,cV,x0,x1,dX,gsC (es:=x.1.2) (cap:=[L]) (env:=[a0,a1,a2,a3,a4,a5,a6,Y (iw x),a8,a9]) rfl hl]
def lsT:MT:=dD (aF (ay cm '0' (!"in"))) (aF (ay kf '1' '2'))
theorem Zu(e:Ev):lsT [Y 1.86,Y (.int 2.0),Y 0.5] S=Y (zb g e,S):=by
 have fe:cm S 1.86 (.str "in")=Y (.bl (e.w==rV)):=cP
 have ne:(!(2.0==(g:Int))) = !decide (e.g=g):=by
  congr 1;rw[aaJ,beq_iff_eq,abG];omega
 unfold zb;simp![lsT,qa,fe];cases(e.w==rV) with
 | false=>rw[CQ];rfl
 | true=>simp![qd,Jb,ne,abh]
theorem lsX:∀ (es:List Ev) (a b:Option D),ej (bo 2 (ag '`' 7.4)) lsT 1e0 (es.map Ev.d) [a,b,Y 0.5] S=Y ((es.filter (zb g)).map λz=>.int 1,S)
 | []=>λa b=>nP
 | e::es=>λa b=>by
  have ih:=lsX es (Y 1.86) (Y (.int 2.0));rw[aak,dR,show Ev.d e=.tup [.str e.w,.int 2.0] from rfl,cx];simp only[bx,aN,ob,dM,dP,cE,bN,pq,Zu];cases h:zb g e with
  | false=>rw[CP,ih,aaW,h];rfl
  | true=>simp only[po,aX,ob,pj,ih,pi,aaW,h,acn,aak]
theorem Zv{x:Rm×List Ev}{a0 a1 a3 a4 a5 a6 a8 a9:Option D}(hl:x.2.length<=100):lsL [a0,a1,Y 0.5,a3,a4,a5,a6,Y (iw x),a8,a9] S=Y (.lst ((x.2.filter (zb g)).map λz=>.int 1),S):=by
 have x1:aB S (iw x) (.int 1)=Y (di x.2):=rfl;have it:CM (di x.2,S)=Y (x.2.map Ev.d,S):=rfl;show(bY (cR (ay aB '7' 1e0)) (bo 2 (ag '`' 7.4)) lsT 1e0 [L,L,Y 2]) _ S=_;simp![ci,cV,x1,it];rw[iH (by rw[aaj];omega),show oB [L,L,Y 2] [a0,a1,Y 0.5,a3,a4,a5,a6,Y (iw x),a8,a9]=[L,L,Y 0.5] from rfl,lsX,ob,iI]
theorem isn:yE S (ky o) .non=Y (.bl o.isNone):=by cases o<;>rfl
theorem Qg{a3 a4 a8 a9:Option D}(h5:n<=5):∀ (l:List Dd) (R:Rm) (S:ac) (a6 a7:Option D),ROk R->R.1.length=n->(∀ d∈l,d.Ok n) ->
  (∃ xs b6 b7 S',cn r l R=Y xs/\cF 'f' lsA 1.6 [Y r.d,Y 0.4,Y 0.5,a3,a4,Y (aZ R),a6,a7,a8,a9] S=Y (.nx [Y r.d,Y 0.4,Y 0.5,a3,a4,Y (aZ (df R xs)),b6,b7,a8,a9] S')/\KK S S') \/
  ∃ S',cn r l R=L/\cF 'f' lsA 1.6 [Y r.d,Y 0.4,Y 0.5,a3,a4,Y (aZ R),a6,a7,a8,a9] S=Y (.rt 1.5 S')/\KK S S'
 | []=>λR S a6 a7 h hn hd=>.inl ⟨[],a6,a7,S,rfl,uj,λq q=>rfl⟩
 | d::l=>λR S a6 a7 h hn hd=>by
  obtain⟨T,e⟩:=FF (S:=S) (r:=r) (R:=R) (dd:=d) h 0.0 (by rw[hn];exact hd d aad);rw[aak,eH];simp![nQ,lsA,bK,e,isn];cases hx:cS r R d with
  | none=>
   rw[hx] at e;refine .inr ⟨S++T,by show(cS r R d).bind _=_;rw[hx];rfl,?_,KK.app _⟩;simp only[aeC,bQ,aP,aX,ob,bg,bE,sT]
  | some x=>
   have x0:∀ S,aB S 1.82 (.int 0)=Y (aZ x.1):=λS=>rfl;obtain⟨h',hl'⟩:=fU h hx;have w:cn r (d::l) R=(cn r l x.1).bind λxs=>Y (x::xs):=by show(cS r R d).bind _=_;rw[hx];rfl
   simp![aeB,x0,lP];rcases Qg (a3:=a3) (a4:=a4) (a8:=a8) (a9:=a9) h5 l x.1 (S++T) (Y d.d) (Y 1.82) h' (hl'.trans hn) (λd' z=>hd d' (aah _ z)) with ⟨xs,b6,b7,S2,w2,e2,K2⟩ | ⟨S2,w2,e2,K2⟩
   ·exact .inl ⟨x::xs,b6,b7,S2,by rw[w,w2];rfl,e2,(KK.app T).trans K2⟩
   ·exact .inr ⟨S2,by rw[w,w2];rfl,e2,(KK.app T).trans K2⟩
def Xl(r:Rl)(g:Nat):List Dd->Rm->Nat->Option (Rm×Nat)
 | [],R,k=>Y (R,k)
 | d::l,R,k=>match cS r R d with
  | none=>L
  | some x=>if aW x.1.2 g=true then Xl r g l x.1 (k+(x.2.filter (zb g)).length) else L
theorem qk{es:List En}:lh S 0.5 (.lst (es.map λe=>.int 2.0))=Y (.bl (!aW es g)):=by
 have h:=Jd (S:=S) (es:=es) (g:=g);have ok:(es.map λe:En=>D.int 2.0).all (cy 39)=true:=by rw[acU,aav];intro e z;rfl
 rw[jC (ys:=es.map λe=>.int 2.0) rfl rfl ok] at h;rw[ux (ys:=es.map λe=>.int 2.0) rfl rfl ok];injection h with h;injection h with h;rw[h]
theorem Qf{a3 a4 a5:Option D}(h5:n<=5):∀ (l:List Dd) (R:Rm) (k:Nat) (S:ac) (a6 a7:Option D),ROk R->R.1.length=n->(∀ d∈l,d.Ok n) ->
  (∃ R' k' b6 b7 S',Xl r g l R k=Y (R',k')/\cF 'f' WV 1.6 [Y r.d,Y 0.4,Y 0.5,a3,a4,a5,a6,a7,Y (aZ R),Y (.int (k:Int))] S=Y (.nx [Y r.d,Y 0.4,Y 0.5,a3,a4,a5,b6,b7,Y (aZ R'),Y (.int (k':Int))] S')/\KK S S') \/
  ∃ S',Xl r g l R k=L/\cF 'f' WV 1.6 [Y r.d,Y 0.4,Y 0.5,a3,a4,a5,a6,a7,Y (aZ R),Y (.int (k:Int))] S=Y (.rt 1.5 S')/\KK S S'
 | []=>λR k S a6 a7 h hn hd=>.inl ⟨R,k,a6,a7,S,rfl,uj,λw w=>rfl⟩
 | d::l=>λR k S a6 a7 h hn hd=>by
  obtain⟨T,e⟩:=FF (S:=S) (r:=r) (R:=R) (dd:=d) h 0.0 (by rw[hn];exact hd d aad);rw[aak,eH];simp![nQ,WV,bK,e,fG,isn];cases hx:cS r R d with
  | none=>
   rw[hx] at e;refine .inr ⟨S++T,by unfold Xl;rw[hx],?_,KK.app _⟩;simp only[aeC,rG,bQ,aP,aX,ob,bg,bE,sT]
  | some x=>
   obtain⟨h',hl'⟩:=fU h hx;have hl2:=h'.len;have hf:=uE h 0.0 hx;have hw:∀ {a0 a1 a2 a3 a4 a5 a6 a8 a9:Option D},lsW [a0,a1,a2,a3,a4,a5,a6,Y 1.82,a8,a9] (S++T)=_:=Zt (S:=S++T) (x:=x) 0.0;have hL:∀ {a0 a1 a3 a4 a5 a6 a8 a9:Option D},lsL [a0,a1,Y 0.5,a3,a4,a5,a6,Y 1.82,a8,a9] (S++T)=_:=Zv (S:=S++T) (x:=x) 0.0
   have ll:bb jc [.lst ((x.2.filter (zb g)).map λw=>D.int 1)] (S++T)=Y (.int ((x.2.filter (zb g)).length:Int),S++T):=by
    show Y (_,_)=_;rw[aaj]
   have x0:∀ S,aB S 1.82 (.int 0)=Y (aZ x.1):=λS=>rfl;have go:Xl r g (d::l) R k=if aW x.1.2 g=true then Xl r g l x.1 (k+(x.2.filter (zb g)).length) else L:=by conv=>lhs;unfold Xl;rw[hx]
   simp![aeB,jv,hw,qk];cases hs:aW x.1.2 g with
   | false=>
    refine .inr ⟨S++T,by rw[go,hs];rfl,?_,KK.app _⟩;simp only[aaH,bQ,aP,aX,ob,bg,bE,sT]
   | true=>
    rw[hs,aas rfl] at go;simp![aaz,x0,bZ,hL,ca,ll,gB,lP];rcases Qf (a3:=a3) (a4:=a4) (a5:=a5) h5 l x.1 (k+(x.2.filter (zb g)).length) (S++T) (Y d.d) (Y 1.82) h' (hl'.trans hn) (λd' z=>hd d' (aah _ z)) with ⟨R',k',b6,b7,S2,w2,e2,K2⟩ | ⟨S2,w2,e2,K2⟩
    ·exact .inl ⟨R',k',b6,b7,S2,by rw[go,w2],by rw[<- e2];simp only[Int.natCast_add,WV],(KK.app T).trans K2⟩
    ·exact .inr ⟨S2,by rw[go,w2],by rw[<- e2];simp only[Int.natCast_add,WV],(KK.app T).trans K2⟩
end
section
variable{r:Rl}{n g:Nat}{S:ac}
theorem Xk:∀ (l:List Dd) (R:Rm) (k:Nat),Xl r g l R k=(cn r l R).bind λys=>if ys.all (λy=>aW y.1.2 g)=true then Y (df R ys,k+((ys.flatMap (·.2)).filter (zb g)).length) else L
 | []=>λR k=>rfl
 | d::l=>λR k=>by
  show(match cS r R d with | none=>L | some x=>_)=((cS r R d).bind λx=>(cn r l x.1).bind λxs=>Y (x::xs)).bind _;cases cS r R d with
  | none=>rfl
  | some x=>
   dsimp only;rw[Xk l x.1];show _=((cn r l x.1).bind λxs=>Y (x::xs)).bind _;cases cn r l x.1 with
   | none=>cases aW x.1.2 g<;>rfl
   | some ys=>
    show _=if (aW x.1.2 g&&ys.all _)=true then Y (df x.1 ys,k+((x.2++ys.flatMap (·.2)).filter (zb g)).length) else L
    cases aW x.1.2 g with
    | false=>rfl
    | true=>rw[List.filter_append,aau,<- Nat.add_assoc];rfl
theorem in_eq(w:Ws r R l ys):ROk R->(∀ y∈ys,aW y.1.2 g=true)->∀ e∈ys.flatMap (·.2),(e.w==rV)=zb g e:=by
 induction w with
 | nil=>intro q q e he;cases he
 | @cons R d x l ys hx t ih=>
  intro h ha e he;obtain⟨h',q⟩:=fU h hx;rw[ado] at he;rcases aap.mp he with he | he
  ·unfold zb;cases hi:(e.w==rV) with
   | false=>rfl
   | true=>
    obtain⟨wr,h1,q⟩:=VN h hx he hi
    have ne:e.g≠g:=λz=>by
     obtain⟨f,hf,hg⟩:=aaX.mp (ha x aad);have:=h'.out f hf;rw[aba hg,<- z,h1] at this;exact(IU wr).1 (aaE this)
    rw[aan ne];rfl
  ·exact ih h' (λy hy=>ha y (aah _ hy)) e he
theorem Wx{l:List Ev}(h:∀ e∈l,(e.w==rV)=zb g e):l.any (λe=>e.w==rV)=decide (0<(l.filter (zb g)).length):=by
 induction l with
 | nil=>rfl
 | cons e l ih=>
  rw[abx,h e aad,ih λe he=>h e (aah _ he),aaW];cases zb g e with
  | false=>rfl
  | true=>rw[aas rfl,Bool.true_or,aao (by rw[aar];omega)]
theorem FG:∀ {ys:Rs} {R:Rm},ys≠[]->∃ y∈ys,df R ys=y.1
 | [],R,h=>absurd rfl h
 | [y],R,_=>⟨y,aad,rfl⟩
 | y::z::ys,R,_=>by
  obtain⟨u,hu,e⟩:=FG (ys:=z::ys) (R:=y.1) 0.3;exact⟨u,aah _ hu,e⟩
theorem HB(h:sk g R ys=true):aW R.2 g=true:=by
 unfold sk at h;simp only[aae,Bool.not_eq_true',aav] at h;obtain⟨y,hy,e⟩:=FG (R:=R) (ys:=ys) (by intro z;rw[z] at h;cases h.1);rw[Ni h.2.1,e];exact h.2.2.1 y hy
theorem UG{l m:List Dd}(h5:n<=5)(hd:∀ d∈l++m,d.Ok n):∃ S',fO [r.d,.int (n:Int),.int (g:Int),.tup 1.6,.tup 3.8] S=Y (.bl 9.9,S')/\KK S S':=by
 rw[ls_me,bL (show [r.d,.int (n:Int),.int (g:Int),.tup 1.6,.tup 3.8].length=5 from rfl),show ba fX [r.d,.int (n:Int),.int (g:Int),.tup 1.6,.tup 3.8]=[Y r.d,Y 0.4,Y 0.5,Y (.tup 1.6),Y (.tup 3.8),L,L,L,L,L] from rfl];have e0:lsE [Y r.d,Y 0.4,Y 0.5,Y (.tup 1.6),Y (.tup 3.8),L,L,L,L,L] S=Y (aZ (bT n),S):=RC (S:=S) (n:=n) (i:=1) h5 (by simp only[ai,bG,bM,bO,oj,ob,ah]);have l0:(bT n).1.length=n:=by simp[bT]
 rcases Qg (r:=r) (g:=g) (a3:=Y (.tup 1.6)) (a4:=Y (.tup 3.8)) (a8:=L) (a9:=L) h5 l (bT n) S L L mY l0 (λd z=>hd d (abb _ z)) with ⟨xs,b6,b7,S1,w1,e1,K1⟩ | ⟨S1,w1,e1,K1⟩
 ·rw[Hj w1];have ok1:=(oE w1).ok mY;generalize df (bT n) xs=R at *;have hl:=ok1.1.len;have hc:lsC [Y r.d,Y 0.4,Y 0.5,Y (.tup 1.6),Y (.tup 3.8),Y (aZ R),b6,b7,Y (aZ R),Y (.int 0)] S1=_:=Zw 0.0;simp![lsP,e0,iE,wA,e1,Zq,ZQ,hc,qk];cases hs:aW R.2 g with
  | false=>
   refine⟨S1,?_,K1⟩
   have:WN r g m R=false:=by
    cases hw:cn r m R with
    | none=>exact OL hw
    | some ys=>
     rw[JW hw];cases h:sk g R ys with
     | false=>rfl
     | true=>rw[HB h] at hs;cases hs
   rw[this];simp only[aaH,bQ,aP,aX,ob,bg,bE,az]
  | true=>
   simp only[aaz,bP,bA,ob,aE];have go:=Xk (r:=r) (g:=g) m R 0;rcases Qf (r:=r) (g:=g) (a3:=Y (.tup 1.6)) (a4:=Y (.tup 3.8)) (a5:=Y (aZ R)) h5 m R 0 S1 b6 b7 ok1.1 (ok1.2.trans l0) (λd z=>hd d (aaT _ z)) with ⟨R',k',b6,b7,S2,w2,e2,K2⟩ | ⟨S2,w2,e2,K2⟩
   ·refine⟨S2,?_,K1.trans K2⟩;rw[w2] at go;cases hw:cn r m R with
    | none=>rw[hw] at go;cases go
    | some ys=>
     rw[hw] at go;have go:Y (R',k')=if ys.all (λy=>aW y.1.2 g)=true then Y (df R ys,0+((ys.flatMap (·.2)).filter (zb g)).length) else L:=go
     split at go
     ·rename_i ha;cases go;have ie:=Wx (in_eq (oE hw) ok1.1 (aav.mp ha))
      have rg:sk g R ys=(Xw (df R ys) R&&decide (0<((ys.flatMap (·.2)).filter (zb g)).length)):=by
       unfold sk;rw[ha,abh,ie,Vz];cases ys with
       | nil=>show false=(_&&false);rw[aaI]
       | cons y ys=>rfl
      have e2':cF 'f' WV 3.8 [Y r.d,Y 0.4,Y 0.5,Y (.tup 1.6),Y (.tup 3.8),Y (aZ R),_,_,Y (aZ R),Y (.int 0)] S1=_:=e2;rw[JW hw,rg];simp![iE,wA,e2',eI,fEqR];cases Xw (df R ys) R with
      | false=>simp only[mj,ob,bg,az,aaK]
      | true=>
       have gt:∀ S,fGt S (.int ((0+((ys.flatMap (·.2)).filter (zb g)).length:Nat):Int)) (.int 0)=Y (.bl (decide (0<((ys.flatMap (·.2)).filter (zb g)).length))):=λS=>by
        rw[fGt_i];congr 2;rw[aaJ,abG,abG];omega
       simp![jw,gt,abh]
     ·cases go
   ·refine⟨S2,?_,K1.trans K2⟩;have e2':cF 'f' WV 3.8 [Y r.d,Y 0.4,Y 0.5,Y (.tup 1.6),Y (.tup 3.8),Y (aZ R),b6,b7,Y (aZ R),Y (.int 0)] S1=_:=e2
    have:WN r g m R=false:=by
     rw[w2] at go;cases hw:cn r m R with
     | none=>exact OL hw
     | some ys=>
      rw[hw] at go;have go:L=if ys.all (λy=>aW y.1.2 g)=true then Y (df R ys,0+((ys.flatMap (·.2)).filter (zb g)).length) else L:=go
      rw[JW hw];split at go
      ·cases go
      ·rename_i ha;unfold sk;rw[show(ys.all λy=>aW y.1.2 g)=false by simpa using ha,aaK,aaI,aaI]
    rw[this];simp only[aO,iE,ai,bG,bM,bO,oj,ah,wA,e2',ob,bE,az]
 ·refine⟨S1,?_,K1⟩;rw[Ox w1];simp![lsP,e0,iE,wA,e1]
end
def oD:Option Int->D
 | none=>.non
 | some i=>.int i
def yZ(r:Rl)(n:Nat):Option Int×Option Int:=if n<3 then(Y 0,Y 0) else match r.w with
 | .readers=>(Y ((n:Int) - 2),L)
 | .writers=>(L,Y ((n:Int) - 2))
 | .turns=>(Y (if decide (r.a=0)=true then(n:Int) - 2 else(n:Int) - 2+1),Y (((n:Int) - 2)*((n:Int)+1) / 2))
 | .passes=>(Y ((n:Int) - 2),Y ((n:Int) - 2+r.b))
 | .rows=>(Y ((n:Int) - 2),Y ((n:Int) - 2))
def ow(p:Option Int×Option Int):D:=.tup [oD p.1,oD p.2]
section
variable{r:Rl}{n:Nat}{S:ac}
theorem told(n5:n<=5):fL [r.d,.int (n:Int)] S=Y (ow (yZ r n),S):=by
 rw[Ci,bL (show [r.d,D.int (n:Int)].length=2 from rfl),show ba jR [r.d,D.int (n:Int)]=[Y r.d,Y 0.4,L,L,L,L,L] from rfl];have k2:∀ p q:D,cz ([p,q],S)=Y (.tup [p,q],S):=λp q=>aV 0.3;have dv:∀ i:Int,Gr S (.int i) (.int 2)=Y (.int (i / 2)):=λi=>Je 0.1 0.1;have g4:∀ env,bo 4 (ag 'b' 1.8) r.d env S=(ag 'b' 1.8) [.str r.w.s,.int r.a,.int r.b,.int r.c] env S:=λenv=>qh;have e:∀ v:Rw,cm S 6.7 (.str v.s)=Y (.bl (decide (r.w=v))):=λv=>by rw[cP,Rw.eq]
 have e1:cm S 6.7 (.str "readers")=_:=e .readers;have e2:cm S 6.7 (.str "writers")=_:=e .writers;have e3:cm S 6.7 (.str "turns")=_:=e .turns;have e4:cm S 6.7 (.str "passes")=_:=e .passes;have ea:(r.a==0)=decide (r.a=0):=by rw[aaJ];simp
 unfold yZ;by_cases h3:n<3
 ·have l3:decide ((n:Int)<3)=true:=aao 0.0;rw[aas h3];simp![oY,QU,l3,k2];rfl
 ·have l3:decide ((n:Int)<3)=false:=aan 0.0;have mu:cA S (.int ((n:Int) - 2)) (.int ((n:Int)+1))=Y (.int (((n:Int) - 2)*((n:Int)+1))):=jB (oV 0.0 0.0);rw[if_neg h3];simp![oY,QU,l3,g4,bx,cE,bN,mq,e1];cases hw:r.w with
  | readers=>
   simp![abz,k2];rfl
  | writers=>
   rw[hw] at e2;simp![reduceCtorEq,abz,abB,e2,k2];rfl
  | turns=>
   rw[hw] at e2 e3;simp![reduceCtorEq,abz,abB,e2,e3,lM,mw,ea];cases decide (r.a=0) with
   | true=>
    simp![xW,gB,mu,dv,k2];rfl
   | false=>
    simp![AF,gB,mu,dv,k2];rfl
  | passes=>
   rw[hw] at e2 e3 e4;simp![reduceCtorEq,abz,abB,gB,e2,e3,e4,k2];rfl
  | rows=>
   rw[hw] at e2 e3 e4;simp![reduceCtorEq,abB,e2,e3,e4,k2];rfl
theorem Xu:gJ (oD x) (oD y)=decide (x=y):=by
 cases x<;>cases y<;>first | rfl | (show(_==_)=_;rw[aaJ,beq_iff_eq,abG,abu]) | exact(aan 0.3).symm
theorem Xv:cm S (ow p) (ow q)=Y (.bl (decide (p=q))):=by
 have ok:∀ x:Option Int,cy 39 (oD x)=true:=λx=>by cases x<;>rfl
 have ok2:∀ p:Option Int×Option Int,cy 40 (ow p)=true:=λp=>by show(cy 39 (oD p.1)&&(cy 39 (oD p.2)&&true))=true;rw[ok,ok];rfl
 rw[jD (ok2 p) (ok2 q)];obtain⟨a,b⟩:=p;obtain⟨c,d⟩:=q;show Y (D.bl (gJ (oD a) (oD c)&&(gJ (oD b) (oD d)&&true)))=_;rw[Xu,Xu,adl]
 congr 2
 rw[aaJ,aae,abG,abG,abG,Prod.mk.injEq]
theorem k1(S:ac)(p:D):cz ([p],S)=Y (.tup [p],S):=aV 0.3
theorem Py{d:D}(h:nr d=true)(h3:Lv 3 d=false):dE [r.d,.int (n:Int),d] S=Y (.bl false,S):=by
 rw[oW,bL (show [r.d,D.int (n:Int),d].length=3 from rfl),show ba fg [r.d,D.int (n:Int),d]=[Y r.d,Y 0.4,Y d,L,L,L] from rfl];have tf:=eo (S:=S) (n:=3) h;rw[h3] at tf;simp![lU,du,cU,tf,dm,dC,aaH]
def WT(r:Rl)(n:Nat)(w x y:D):Bool:=wB [.str "never"] w&&(kR x&&(kR y&&gJ (.tup [x,y]) 1.25))
theorem Zl(n5:n<=5)(hw:el w=true)(hx:nr x=true)(hy:nr y=true):dE [r.d,.int (n:Int),.tup [w,x,y]] S=Y (.bl (WT r n w x y),S):=by
 rw[oW,bL (show [r.d,D.int (n:Int),.tup [w,x,y]].length=3 from rfl),show ba fg [r.d,D.int (n:Int),.tup [w,x,y]]=[Y r.d,Y 0.4,Y (.tup [w,x,y]),L,L,L] from rfl];have tf:bW [.tup [w,x,y],.int 3] S=Y (.bl true,S):=eo rfl;have wd:=yc (S:=S) (ys:=[.str "never"]) hw rfl;have k2:∀ p q:D,cz ([p,q],S)=Y (.tup [p,q],S):=λp q=>aV 0.3;unfold WT;simp![lU,du,cU,tf,dm,dC,aaz,qi,bx,cE,bN,eI,k1,wd];cases wB [.str "never"] w with
 | false=>simp only[mj,ob,bg,az,aaK]
 | true=>
  simp![jw,eI,iJ,pA hx];cases x<;>first | (simp only[kR,mj,ob,bg,az,aaK,abh];done) | skip
  simp![kR,jw,eI,iJ,pA hy];cases y<;>first | (simp only[kR,mj,ob,bg,az,aaK,abh];done) | skip
  rename_i i j
  have fe:cm S (.tup [.int i,.int j]) 1.25=Y (.bl (gJ (.tup [.int i,.int j]) 1.25)):=jD rfl (by
   have ok:∀ x:Option Int,cy 39 (oD x)=true:=λx=>by cases x<;>rfl
   show(cy 39 (oD _)&&(cy 39 (oD _)&&true))=true;rw[ok,ok];rfl)
  simp![kR,jw,k2,told n5,fe,abh]
theorem WM{d:D}(h:nr d=true)(h4:Lv 4 d=false):eJ [r.d,.int (n:Int),d] S=Y (.bl false,S):=by
 rw[qH,bL (show [r.d,D.int (n:Int),d].length=3 from rfl),show ba gx [r.d,D.int (n:Int),d]=[Y r.d,Y 0.4,Y d,L,L,L,L] from rfl];have tf:=eo (S:=S) (n:=4) h;rw[h4] at tf;simp![nL,du,cU,tf,dm,dC,aaH]
theorem ring4{S':ac}(hw:el w=true)(hg:nr g=true)(ha:nr a=true)(hb:nr b=true)
  (hs:wB [.str "starves"] w=true->qC 0 2.1 g=true->iK a=true->iK b=true->ir [r.d,.int (n:Int),g,a,b] S=Y (.bl x,S'))
  (hn:(wB [.str "starves"] w&&(qC 0 2.1 g&&(iK a&&iK b)))=false->x=false/\S'=S):eJ [r.d,.int (n:Int),.tup [w,g,a,b]] S=Y (.bl x,S'):=by
 rw[qH,bL (show [r.d,D.int (n:Int),.tup [w,g,a,b]].length=3 from rfl),show ba gx [r.d,D.int (n:Int),.tup [w,g,a,b]]=[Y r.d,Y 0.4,Y (.tup [w,g,a,b]),L,L,L,L] from rfl];have tf:bW [.tup [w,g,a,b],.int 4] S=Y (.bl true,S):=eo rfl;have wd:=yc (S:=S) (ys:=[.str "starves"]) hw rfl;have bt:=qK (S:=S) (lo:=0) (hi:=(n:Int) - 1) hg;have g4:∀ env,bo 4 9.5 (.tup [w,g,a,b]) env S=9.5 [w,g,a,b] env S:=λenv=>qh;simp![nL,du,cU,tf,dm,dC,aaz,g4,bx,cE,bN,fG,k1,wd];cases h1:wB [.str "starves"] w with
 | false=>
  rw[h1] at hn;obtain⟨rfl,rfl⟩:=hn rfl;simp only[aaH,rG,bQ,aP,aX,ob,bg,bE,az]
 | true=>
  simp![aaz,jv,du,cU,mq,bK,bt,dm,dC];cases h2:qC 0 2.1 g with
  | false=>
   rw[h1,h2] at hn;obtain⟨rfl,rfl⟩:=hn rfl;simp only[aaH,bQ,aP,aX,ob,bg,bE,az]
  | true=>
   simp![aaz,eI,pf,pg,yD ha];cases h3:iK a with
   | false=>
    rw[h1,h2,h3] at hn;obtain⟨rfl,rfl⟩:=hn rfl;simp only[mj,ob,bg,az]
   | true=>
    simp only[jw,eI,pf,ai,bG,bM,bO,oj,ob,ah,pg,yD hb];cases h4:iK b with
    | false=>
     rw[h1,h2,h3,h4] at hn;obtain⟨rfl,rfl⟩:=hn rfl;simp only[mj,ob,bg,az]
    | true=>simp![jw,FN,hs h1 h2 h3 h4]
theorem OC{d:D}{S':ac}(h1:dE [r.d,.int (n:Int),d] S=Y (.bl false,S))(h2:eJ [r.d,.int (n:Int),d] S=Y (.bl x,S')):bD [r.d,.int (n:Int),d] S=Y (.bl x,S'):=by
 rw[lK,bL (show [r.d,D.int (n:Int),d].length=3 from rfl),show ba dI [r.d,D.int (n:Int),d]=[Y r.d,Y 0.4,Y d] from rfl];simp![js,Ks,bK,h1,Xb,h2]
theorem showY{d:D}(h1:dE [r.d,.int (n:Int),d] S=Y (.bl true,S)):bD [r.d,.int (n:Int),d] S=Y (.bl true,S):=by
 rw[lK,bL (show [r.d,D.int (n:Int),d].length=3 from rfl),show ba dI [r.d,D.int (n:Int),d]=[Y r.d,Y 0.4,Y d] from rfl];simp![js,Ks,bK,h1,Xa]
theorem mE{d:D}(h:nr d=true)(h3:Lv 3 d=false)(h4:Lv 4 d=false):bD [r.d,.int (n:Int),d] S=Y (.bl false,S):=OC (Py h h3) (WM h h4)
theorem WL(n5:n<=5)(hw:el w=true)(hx:nr x=true)(hy:nr y=true):bD [r.d,.int (n:Int),.tup [w,x,y]] S=Y (.bl (WT r n w x y),S):=by
 have h:=Zl (r:=r) (S:=S) n5 hw hx hy;cases e:WT r n w x y with
 | false=>rw[e] at h;exact OC h (WM rfl rfl)
 | true=>rw[e] at h;exact showY h
theorem OD{S':ac}(hw:el w=true)(hg:nr g=true)(ha:nr a=true)(hb:nr b=true)
  (hs:wB [.str "starves"] w=true->qC 0 2.1 g=true->iK a=true->iK b=true->ir [r.d,.int (n:Int),g,a,b] S=Y (.bl x,S'))
  (hn:(wB [.str "starves"] w&&(qC 0 2.1 g&&(iK a&&iK b)))=false->x=false/\S'=S):bD [r.d,.int (n:Int),.tup [w,g,a,b]] S=Y (.bl x,S'):=OC (Py rfl rfl) (ring4 hw hg ha hb hs hn)
end
theorem Sn(xs:List D)(m:Nat):gK xs L (Y (m:Int))=xs.take m:=by
 unfold gK;rw[Em,Eo,Nat.sub_zero,abR,<- List.take_eq_take_min]
noncomputable abbrev cI(l:List Dd):D:=.tup 1.6
def mz(n k:Nat)(l:List Dd):Prop:=(∀ d∈l,d.Ok n)/\l.length<=k
theorem JH{α:Type}{f:α->D}{xs:List α}{i:Int}(h0:0<=i)(h1:i<xs.length):∃ x∈xs,ou (xs.map f) i=Y (f x):=by
 have hi:i.toNat<xs.length:=by omega
 refine⟨xs[i.toNat],aci _,?_⟩;rw[Du h0 (by rw[aaj];exact h1),List.getElem_map]
theorem KH{x y:D}:je 2 gs (.lst [x,y]) env S=gs [x,y] env S:=by rw[yr];rfl
theorem KG{x y:D}:je 2 gs (.tup [x,y]) env S=gs [x,y] env S:=by rw[yr];rfl
section
variable{r:Rl}{n q:Nat}{S:ac}
theorem XZ{a:ME}{st:MO}{x y:D}{b:Bool}(ha:a env S=Y (.lst [x,y],S))(hs:st env S=Y (Y (1 - 2*(if b=true then 1 else 0)),S)):rn a st env S=Y (.lst (if b=true then [y,x] else [x,y]),S):=by
 rw[Kl];unfold M.rn;rw[ha,ob,hs,ob];cases b<;>rfl
theorem Yq(P:Pk S q)(n2:2<=n)(n5:n<=5):∃ l m S',jL [.ref q,r.d,.int (n:Int)] S=Y (.tup [cI l,cI m],S')/\mz n 3 l/\mz n 8 m/\Pk S' q/\Keep q S S':=by
 rw[Cn,bL (show [D.ref q,r.d,D.int (n:Int)].length=3 from rfl),show ba jV [D.ref q,r.d,D.int (n:Int)]=[Y (.ref q),Y r.d,Y 0.4,L,L,L,L] from rfl];obtain⟨i,S1,e1,i0,i2,P1,K1⟩:=nH S q 2 P 0.1 0.1;let b:Bool:=decide (r.w=.readers)
 have eb:cm S 6.7 (.str "readers")=Y (.bl b):=by
  have:cm S 6.7 (.str Rw.readers.s)=Y (.bl (decide (r.w=.readers))):=by rw[cP,Rw.eq]
  exact this
 have r0:aB S r.d (.int 0)=Y 6.7:=rfl;have k2:∀ (S:ac) (x y:D),cz ([x,y],S)=Y (.tup [x,y],S):=λS x y=>aV 0.3;have k3:∀ x y z:D,cz ([x,y,z],S)=Y (.tup [x,y,z],S):=λx y z=>aV 0.3;have mu:∀ j:Int,cA S (.int 2) (.int j)=Y (.int (2*j)):=λj=>jB (oV 0.1 0.1);have md:lj S (.int 1) 0.4=Y (.int 1):=by rw[kn 0.0,Int.emod_eq_of_lt 0.1 0.0]
 let l:List Dd:=[.ask (!b) 0 L,.ask b (n - 1) L,.ask (!b) 1 L]
 let m:List Dd:=[.act .leave 0,.ask (!b) 0 L,.act .leave 1,.ask (!b) 1 L]
 have n1:(n:Int) - 1=((n - 1:Nat):Int):=by omega
 have tw:rn (dw (aa (!"read") (aa (!"write") ao))) (bS (ay lI 1e0 (ay cA 2e0 (bF (bb lm) (aa (ay cm 3.5 (!"readers")) ao))))) [Y (.ref q),Y r.d,Y 0.4,L,L,L,L] S=Y (.lst [.str (bI b),.str (bI (!b))],S):=by
  rw[XZ (b:=b) (x:=.str "read") (y:=.str "write")]
  ·cases b<;>rfl
  ·simp only[fH,aq,aX,ob,ak,av,am,io]
  ·simp![dq,bZ,r0,eb,ca,qm,mu,mq,dB]
 have okl:mz n 3 l:=⟨λd hd=>by
  simp only[l,aaC,abr,acE] at hd
  rcases hd with rfl | rfl | rfl<;>exact⟨by omega,λk hk=>by cases hk⟩,aal _⟩
 have okm:∀ d∈m,d.Ok n:=λd hd=>by
  simp only[m,aaC,abr,acE] at hd;rcases hd with rfl | rfl | rfl | rfl
  ·exact(show 0<n by omega)
  ·exact⟨by omega,λk hk=>by cases hk⟩
  ·exact(show 1<n by omega)
  ·exact⟨by omega,λk hk=>by cases hk⟩
 have hm:∃ m':List Dd,mz n 8 m'/\cA S1 (cI m) (.int (1+i))=Y (cI m'):=by
  rcases(show i=0\/i=1 by omega) with rfl | rfl
  ·exact⟨m,⟨okm,by simp[m]⟩,rfl⟩
  ·exact⟨m++m,⟨λd hd=>by rcases aap.mp hd with z | z<;>exact okm d z,by simp[m]⟩,rfl⟩
 obtain⟨m',om,em⟩:=hm;refine⟨l,m',S1,?_,okl,om,P1,K1⟩;simp![uV,tw,KH,bx,cE,bN,k3,mq,md,k2,Lw,e1,gB];rw[n1];have em':cA S1 (.tup [.tup [.str "leave",.int 0],.tup [.str (bI (!b)),.int 0,.non],.tup [.str "leave",.int 1],.tup [.str (bI (!b)),.int 1,.non]]) (.int (1+i))=Y (cI m'):=em;rw[em'];simp only[ob,ah,am,ak,av,k2,bg,az];rfl
theorem Bl{k:Nat}(P:Pk S q)(n1:1<=n)(n5:n<=5)(hl:mz n k l)(hk:k<=20):∃ l' S',eu [.ref q,.int (n:Int),cI l] S=Y (cI l',S')/\mz n (2*k+1) l'/\Pk S' q/\Keep q S S':=by
 rw[vN,bL (show [D.ref q,D.int (n:Int),cI l].length=3 from rfl),show ba fZ [D.ref q,D.int (n:Int),cI l]=[Y (.ref q),Y 0.4,Y (cI l),L,L,L] from rfl];obtain⟨hok,hlen⟩:=hl;obtain⟨i,S1,e1,i0,i1,P1,K1⟩:=nH S q ((l.length:Int)+1) P 0.0 0.0;obtain⟨j,rfl⟩:∃ j:Nat,i=(j:Int):=⟨i.toNat,by omega⟩
 obtain⟨d,S2,e2,hd,P2,K2⟩:=rowOk.de S1 q n P1 n1 n5;obtain⟨x,S3,e3,x0,x7,P3,K3⟩:=nH S2 q 7 P2 0.1 0.1;have la:∀ S,bb jc [cI l] S=Y (.int (l.length:Int),S):=λS=>by rw[CY,aaj]
 let L4:List (List Dd):=[l.take j++l.drop (j+1),l.take j++[d]++l.drop j,l.take j++[d]++l.drop (j+1),l.reverse,l++l,l.take j,l++[.tick]]
 have k1':∀ (S:ac) (x:D),cz ([x],S)=Y (.tup [x],S):=k1;have kl3:∀ (x y z:D),lH ([x,y,z],S2)=Y (.lst [x,y,z],S2):=λx y z=>db 0.3;have kl4:∀ (x y z u:D),lH ([x,y,z,u],S2)=Y (.lst [x,y,z,u],S2):=λx y z u=>db 0.3;have tk:∀ S j,iy (cI l) L (Y ((j:Nat):Int),S)=Y (cI (l.take j),S):=λS j=>by rw[mf,Sn,<- ack]
 have dr:∀ S j,iy (cI l) (Y ((j:Nat):Int)) (L,S)=Y (cI (l.drop j),S):=λS j=>by rw[mf,GE,<- acK]
 have ad:∀ (a b:List Dd),a.length+b.length<=1000->aK S2 (cI a) (cI b)=Y (cI (a++b)):=λa b h=>by rw[eN (by simpa using h),<- aaY]
 have lt:(l.take j).length<=k:=aaD (List.length_take_le' j l) hlen;have ld:∀ j,(l.drop j).length<=k:=λj=>aaD (by rw[acN];exact Nat.sub_le _ _) hlen;have l1:=ld j;have l2:=ld (j+1);have a0:=ad (l.take j) (l.drop (j+1)) 0.0;have a1:aK S2 (cI (l.take j)) (.tup [d.d])=Y (cI (l.take j++[d])):=ad (l.take j) [d] (by rw[aaP];omega);have a2:=ad (l.take j++[d]) (l.drop j) (by rw[aau,aaP];omega);have a3:=ad (l.take j++[d]) (l.drop (j+1)) (by rw[aau,aaP];omega);have a4:=ad l l 0.0;have a5:aK S2 (cI l) (.tup [.tup [.str "tick"]])=Y (cI (l++[.tick])):=ad l [.tick] (by rw[aaP];omega);have rv:FK (cI l) (Y (-1),S2)=Y (cI l.reverse,S2):=by rw[UM,<- List.map_reverse]
 have j1:((j:Int)+1)=((j+1:Nat):Int):=by omega
 obtain⟨l',hl',el'⟩:=JH (f:=cI) (xs:=L4) x0 x7;have ix:aB S3 (.lst (L4.map cI)) (.int x)=Y (cI l'):=by rw[Gp];exact el'
 refine⟨l',S3,?_,⟨λy hy=>?_,?_⟩,P3,Keep.trans (Keep.trans K1 K2) K3⟩
 ·have al:aK S2 (.lst [cI (l.take j++l.drop (j+1)),cI (l.take j++[d]++l.drop j),cI (l.take j++[d]++l.drop (j+1))]) (.lst [cI l.reverse,cI (l++l),cI (l.take j),cI (l++[.tick])])=Y (.lst (L4.map cI)):=yH 0.3;simp![oZ,bZ,ca,la,gB,e1,e2,fH,cM,fz,cZ,fv,dq,dB,j1,tk,dr,a0,k1',a1,a2,a3,kl3,Zp,ZM,PP,Qn,IZ,rv,a4,a5,kl4,al,e3,ix]
 ·have sub:y∈l\/y=d\/y=.tick:=by
   simp only[L4,aaC,abr,acE] at hl';rcases hl' with rfl | rfl | rfl | rfl | rfl | rfl | rfl<;>(try simp only[aap,aaw,List.mem_reverse,or_assoc] at hy)
   ·rcases hy with z | z
    ·exact .inl (aaR z)
    ·exact .inl (abH z)
   ·rcases hy with z | z | z
    ·exact .inl (aaR z)
    ·exact .inr (.inl z)
    ·exact .inl (abH z)
   ·rcases hy with z | z | z
    ·exact .inl (aaR z)
    ·exact .inr (.inl z)
    ·exact .inl (abH z)
   ·exact .inl hy
   ·rcases hy with z | z<;>exact .inl z
   ·exact .inl (aaR hy)
   ·rcases hy with z | z
    ·exact .inl z
    ·exact .inr (.inr z)
  rcases sub with z | rfl | rfl
  ·exact hok y z
  ·exact hd
  ·exact trivial
 ·simp only[L4,aaC,abr,acE] at hl';rcases hl' with rfl | rfl | rfl | rfl | rfl | rfl | rfl<;>(try simp only[aau,aaP,List.length_reverse])<;>omega
end
noncomputable abbrev Pr:=List Dd×List Dd
def OY(x:Pr):D:=.tup [cI x.1,cI x.2]
def WB(n:Nat)(x:Pr):Prop:=(∀ d∈x.1++x.2,d.Ok n)/\x.1.length+x.2.length<=60
def GT(n:Nat)(l:List Pr):Prop:=∀ x∈l,WB n x
structure St(S:ac)(q p:Nat)(X:List Pr):Prop where
 pk:Pk S q
 at':S[p]?=Y (.lst (X.map OY))
 ne:p≠q
theorem St.kk(h:St S q p X)(K:KK S S'):St S' q p X:=⟨K.pk h.pk,(K p (aac.mp h.at').1).trans h.at',h.ne⟩
theorem St.keep(h:St S q p X)(P:Pk S' q)(K:Keep q S S'):St S' q p X:=⟨P,(K.1 p h.ne).trans h.at',h.ne⟩
def Tx:MS:=aI (aT (ax 3 bD (aa '1' (aa '2' (aa (aR (aa (!"starves") (aa ':' (aa '8' 1.36)))) ao)))) 'k') (cj (gW (dJ (dQ (jI "bool" ';'))) (aF (ay kf ';' (ax 5 fO (aa '1' (aa '2' (aa ':' (aa '8' 1.36)))))))) (bw (mC 1.5)) bv)
def riC:MS:=eG (dw (aa (ay lI '2' 1e0) (aa (ax 2 cb (aa '0' 3.0)) ao))) 'j' Tx
def riB:MS:=aI (aT (dw (aa (aR (aa (ax 3 eu (aa '0' (aa '2' 3.2))) 2.5)) (aa (aR (aa '3' (aa (ax 3 eu (aa '0' (aa '2' 2.5))) ao))) ao))) 'g') (eQ (fB dN '5' (aa (ay aB '7' (ax 2 cb (aa '0' 1.65))) ao)))
def riN:MS:=aI (aT (ax 3 bD (aa '1' (aa '2' (aa (ay aK (aR (aa (!"never") ao)) '>') ao)))) 'k') (cj (gW (dJ (dQ (jI "bool" ';'))) (aF (ay kf ';' (eD (ay cm '>' '<') (ay lh 1.9 '<'))))) (bw (mC 1.5)) bv)
def riA:ME:=bY (cR '@') '`' bX (ay mr (ax 3 bD (aa '2' (aa '1' (aa '0' ao)))) (mC 1.5)) [L,Y 2,Y 1]
def riX(X:MS):MS:=aI (aT (aR (aa (!"starves") (aa (ay lI '2' 1e0) (aa '3' 2.5)))) 'o') (aI (aT (dw (aa (bF 1.47 (aa '?' ao)) (aa (bz '?' bC (bS 3e0)) (aa (ay aK '?' (aR 7.9)) (aa (bz '?' (bS 1e0) bC) ao))))) 'p') (aI (aT (ay aK '@' (dw (aa (ay aK (aR (aa (!"starves") 3.0)) (bz '?' (bS 2e0) bC)) (aa (ay aK (aR (aa (!"starves") (aa (Av MU 1e0) ao))) (bz '?' (bS 2e0) bC)) ao)))) 'p') (aI (aT (ay aK '@' (dw (aa (ay aK (aR (aa (!"starves") (aa 1.9 ao))) (bz '?' (bS 2e0) bC)) (aa (ay aK (bz '?' bC (bS 2e0)) (aR (aa (bF 1.47 3.2) 2.5))) (aa (ay aK (bz '?' bC (bS 3e0)) (aR (aa (bF 1.47 2.5) ao))) ao))))) 'p') (aI (aT (ay aK '@' (dw (aa (ay aK (bz '?' bC (bS 3e0)) (aR (aa 1.9 ao))) (aa (ay aK (bz '?' bC (bS 2e0)) (aR (aa (aR (aa 1.9 ao)) 2.5))) (aa (aR (aa (!"never") ao)) (aa (aR (aa (!"never") 8.9)) ao)))))) 'p') (aI (aT (ay aK '@' (dw (aa (ay aK (ay aK (aR (aa (!"never") ao)) '<') (aR 8.9)) (aa (aR (aa (!"never") (aa (mC 1.5) (aa (mC 1.5) ao)))) (aa (ay aK (aR (aa (!"Never") ao)) '<') (aa 1.9 (aa 0e0 (aa (mC 5.6) (aa (!"") ao))))))))) 'p') (aI (aT (ay aK '@' (dw (aa (!"never") (aa (aR ao) (aa (dw ao) (aa (mC (.dct [] [])) (aa (aR 7.9) (aa (aR (aa 1.9 (aa 0e0 8.9))) ao)))))))) 'p') X))))))
def riF:MS:=bw (iq (bF (bb Da) (aa riA ao)))
def riT:MS:=riX riF
def riM:MS:=aI (aT (ax 2 fL (aa '1' 3.0)) 'l') (aI (aT (bY (cR '<') '`' bX (oi (aF (ay yE '0' 1.9)) 1e0 (ay aK '0' 1e0)) [L]) (je 2 1.21)) (aI (aT (dw (aa '<' (aa (aR (aa 0e0 8.9)) (aa (aR (aa (ay aB '<' 0e0) 1.36)) (aa (aR (aa '8' (aa (ay aB '<' 1e0) ao))) ao))))) 'm') (aI (eG '=' 'n' riN) riT)))
def riP:MS:=aI (aT (ax 3 jL (aa '0' (aa '1' 3.0))) (je 2 0.8)) (aI (aT (fC (aa (aR (aa '3' 2.5)) (aa (aR (aa '3' 7.9)) (aa (aR (aa (aR ao) 2.5)) (aa (aR (aa (ay aB (ax 4 jA (aa '0' (aa '1' (aa '2' (aa 12e0 ao))))) 0e0) 2.5)) ao))))) 'e') (aI (kY (cD (aa 6e0 ao)) 'f' riB) (aI (eG '5' (je 2 1.21) riC) riM)))
theorem ri_me:eK=aU iX riP 3:=jd rfl
section
variable{r:Rl}{n q p:Nat}{S:ac}
theorem Tw{l m:List Dd}{g:Nat}{a0 a3 a4 a5 a6 a7 a11 a12 a13 a14 a15 a16:Option D}(hb:0<=r.b)(n5:n<=5)(hg:g<n)(ho:WB n (l,m)) :
  ∃ b11 S',Tx [a0,Y r.d,Y 0.4,a3,a4,a5,a6,a7,Y (cI l),Y (cI m),Y 0.5,a11,a12,a13,a14,a15,a16] S=Y (.nx [a0,Y r.d,Y 0.4,a3,a4,a5,a6,a7,Y (cI l),Y (cI m),Y 0.5,b11,a12,a13,a14,a15,a16] S')/\KK S S':=by
 obtain⟨S1,e1,K1⟩:=Ly (S:=S) (r:=r) (g:=g) hb n5 ho.1 ho.2;obtain⟨S2,e2,K2⟩:=UG (S:=S1) (r:=r) (g:=g) n5 ho.1;have wb:wB [.str "starves"] (.str "starves")=true:=by decide +kernel
 have bt:qC 0 2.1 0.5=true:=by simp only[qC,aae,abk];omega
 have sh:bD [r.d,.int (n:Int),.tup [.str "starves",.int (g:Int),cI l,cI m]] S=Y (.bl 9.9,S1):=OD rfl rfl rfl rfl (λw w w w=>e1) (λz=>by rw[wb,bt] at z;cases z);have ib:zK "bool" S1 (.bl 9.9)=Y 5.6:=rfl;have ne:kf S2 (.bl 9.9) (.bl 9.9)=Y 1.5:=Gn rfl;refine⟨Y (.bl 9.9),S2,?_,K1.trans K2⟩;simp![Tx,Lw,bK,sh,fG,du,cU,pf,pg,ib,dm,dC,aaz,jv,FN,e2,ne]
theorem Yu{l m:List Dd}{a3 a4 a5 a6 a7 a10 a11 a12 a13 a14 a15 a16:Option D}(hb:0<=r.b)(n1:1<=n)(n5:n<=5)(ho:WB n (l,m))(h:St S q p X) :
  ∃ b10 b11 S',riC [Y (.ref q),Y r.d,Y 0.4,a3,a4,a5,a6,a7,Y (cI l),Y (cI m),a10,a11,a12,a13,a14,a15,a16] S=Y (.nx [Y (.ref q),Y r.d,Y 0.4,a3,a4,a5,a6,a7,Y (cI l),Y (cI m),b10,b11,a12,a13,a14,a15,a16] S')/\St S' q p X:=by
 obtain⟨i,S1,e1,i0,i1,P1,K1⟩:=nH S q (n:Int) h.pk 0.0 0.0;have h1:=h.keep P1 K1;have kl:∀ x y:D,lH ([x,y],S1)=Y (.lst [x,y],S1):=λx y=>db 0.3
 obtain⟨env',S',e,b10,b11,rfl,h2⟩:=tE (tg:=aj 10) (p:=Tx) (λenv S=>∃ b10 b11,env=[Y (.ref q),Y r.d,Y 0.4,a3,a4,a5,a6,a7,Y (cI l),Y (cI m),b10,b11,a12,a13,a14,a15,a16]/\St S q p X) [.int 2.1,.int i] (λd hd env S hI=>by
  obtain⟨b10,b11,rfl,hs⟩:=hI
  obtain⟨g,hg,rfl⟩:∃ g:Nat,g<n/\d=.int (g:Int):=by
   simp only[aaC,abr,acE] at hd;rcases hd with rfl | rfl
   ·exact⟨n - 1,by omega,by congr 1;omega⟩
   ·exact⟨i.toNat,by omega,by congr 1;omega⟩
  obtain⟨c11,S2,e2,K2⟩:=Tw (S:=S) (a0:=Y (.ref q)) (a3:=a3) (a4:=a4) (a5:=a5) (a6:=a6) (a7:=a7) (a11:=b11) (a12:=a12) (a13:=a13) (a14:=a14) (a15:=a15) (a16:=a16) hb n5 hg ho
  exact⟨_,_,_,_,aN,e2,_,_,rfl,hs.kk K2⟩) [Y (.ref q),Y r.d,Y 0.4,a3,a4,a5,a6,a7,Y (cI l),Y (cI m),a10,a11,a12,a13,a14,a15,a16] S1 ⟨_,_,rfl,h1⟩
 refine⟨b10,b11,S',?_,h2⟩;simp![riC,iE,fH,mq,e1,kl,KC,e]
theorem Ge{tg:MG}{b:MS}{c:Nat}(I:be->ac->Prop)(hc:∀ env S,I env S->S[c]?=Y 2.4)(st:∀ d∈xs,∀ env S,I env S->∃ env1 S1 env2 S2,tg d env S=Y (env1,S1)/\b env1 S1=Y (.nx env2 S2)/\I env2 S2):∀ (k i f:Nat) (env:be) (S:ac),i+k=xs.length->k<f->I env S->∃ env' S',fq tg b c f i env S=Y 1.29/\I env' S'
 | 0,i,f+1,env,S,hk,hf,hI=>⟨env,S,Iv (hc _ _ hI) 0.0,hI⟩
 | k+1,i,f+1,env,S,hk,hf,hI=>by
  have hi:i<xs.length:=by omega
  obtain⟨env1,S1,env2,S2,e1,e2,h2⟩:=st xs[i] (aci _) env S hI;obtain⟨env',S',e,h'⟩:=Ge I hc st k (i+1) f env2 S2 0.0 0.0 h2;refine⟨env',S',?_,h'⟩;rw[Ft (hc _ _ hI) (aag hi),e1,ob,ZL,e2,ob,UL,e]
theorem Yv{a6 a7 a8 a9 b0 b1 b2 b3 b4 b5 b6:Option D}(n1:1<=n)(n5:n<=5)(hl:mz n 3 l)(hm:mz n 8 m)(h:St S q p X)(hX:GT n X)(hz:X.length<=100) :
  ∃ b7 S' Y0,riB [Y (.ref q),Y r.d,Y 0.4,Y (cI l),Y (cI m),Y (.ref p),a6,a7,a8,a9,b0,b1,b2,b3,b4,b5,b6] S=Y (.nx [Y (.ref q),Y r.d,Y 0.4,Y (cI l),Y (cI m),Y (.ref p),a6,b7,a8,a9,b0,b1,b2,b3,b4,b5,b6] S')/\St S' q p Y0/\GT n Y0/\Y0.length=X.length+1:=by
 obtain⟨l',S1,e1,ol,P1,K1⟩:=Bl h.pk n1 n5 hl 0.1;have h1:=h.keep P1 K1;obtain⟨m',S2,e2,om,P2,K2⟩:=Bl P1 n1 n5 hm 0.1;have h2:=h1.keep P2 K2;obtain⟨i,S3,e3,i0,i1,P3,K3⟩:=nH S2 q 2 P2 0.1 0.1;have h3:=h2.keep P3 K3;obtain⟨x,hx,ex⟩:=JH (f:=OY) (xs:=[(l',m),(l,m')]) i0 i1
 have ok:WB n x:=by
  simp only[aaC,abr,acE] at hx;have a1:=hl.2;have a2:=hm.2;have a3:=ol.2;have a4:=om.2;rcases hx with rfl | rfl
  ·exact⟨λd hd=>(aap.mp hd).elim (ol.1 d) (hm.1 d),by dsimp only;omega⟩
  ·exact⟨λd hd=>(aap.mp hd).elim (hl.1 d) (om.1 d),by dsimp only;omega⟩
 have ix:aB S3 (.lst [.tup [cI l',cI m],.tup [cI l,cI m']]) (.int i)=Y (OY x):=by rw[Gp];exact ex
 have k2:∀ (S:ac) (x y:D),cz ([x,y],S)=Y (.tup [x,y],S):=λS x y=>aV 0.3;have kl:∀ x y:D,lH ([x,y],S2)=Y (.lst [x,y],S2):=λx y=>db 0.3;have cq2:S2[p]?=Y (.lst (X.map OY)):=h2.at';have km:=λms env=>wz (f:=dN) (ms:=ms) (env:=env) cq2;have ap:=qp (y:=OY x) h3.at' (by rw[aaj];omega);have hp:=(aac.mp h3.at').1;refine⟨Y (.lst [.tup [cI l',cI m],.tup [cI l,cI m']]),S3.set p (.lst (X.map OY++[OY x])),X++[x],?_,⟨?_,by rw[aaL hp,aaY];rfl,h.ne⟩,λy hy=>?_,by simp⟩
 ·simp![riB,fH,bK,e1,k2,e2,kl,nO,nM,km,e3,ix,gF,ap,nR]
 ·obtain⟨a,b,c,e,z⟩:=P3;exact⟨a,b,c,(aaF h.ne).trans e,z⟩
 ·rcases aap.mp hy with z | z
  ·exact hX y z
  ·rw[aaw.mp z];exact ok
theorem JV{a8 a9 b0 b1 b2 b3 b4 b5 b6:Option D}(n1:1<=n)(n5:n<=5)(hl:mz n 3 l)(hm:mz n 8 m):∀ (ds:List D) (X:List Pr) (S:ac) (a6 a7:Option D),St S q p X->GT n X->X.length+ds.length<=100 ->
  ∃ c6 c7 S' Y0,cF 'f' riB ds [Y (.ref q),Y r.d,Y 0.4,Y (cI l),Y (cI m),Y (.ref p),a6,a7,a8,a9,b0,b1,b2,b3,b4,b5,b6] S=Y (.nx [Y (.ref q),Y r.d,Y 0.4,Y (cI l),Y (cI m),Y (.ref p),c6,c7,a8,a9,b0,b1,b2,b3,b4,b5,b6] S')/\St S' q p Y0/\GT n Y0/\Y0.length<=100
 | []=>λX S a6 a7 h hX hz=>⟨a6,a7,S,X,uj,h,hX,by simpa using hz⟩
 | d::ds=>λX S a6 a7 h hX hz=>by
  rw[aar] at hz;obtain⟨c7,S1,Y0,e1,h1,hY,hl1⟩:=Yv (r:=r) (a6:=Y d) (a7:=a7) (a8:=a8) (a9:=a9) (b0:=b0) (b1:=b1) (b2:=b2) (b3:=b3) (b4:=b4) (b5:=b5) (b6:=b6) n1 n5 hl hm h hX 0.0;obtain⟨d6,d7,S2,Z,e2,h2⟩:=JV (a8:=a8) (a9:=a9) (b0:=b0) (b1:=b1) (b2:=b2) (b3:=b3) (b4:=b4) (b5:=b5) (b6:=b6) n1 n5 hl hm ds Y0 S1 (Y d) c7 h1 hY 0.0;refine⟨d6,d7,S2,Z,?_,h2⟩;rw[eH];simp only[aN,ob,dM,dP,nQ,e1,lP];exact e2
end
section
variable{r:Rl}{n q:Nat}{S:ac}
theorem uu:KK S S:=λz z=>rfl
theorem vG(x:Option Int):cy 39 (oD x)=true/\nr (oD x)=true/\kR (oD x)=x.isSome:=by cases x<;>exact⟨rfl,rfl,rfl⟩
theorem no_o:lh S .non (ow t)=Y (.bl (t.1.isSome&&t.2.isSome)):=by
 rw[ow,ux (ys:=[oD t.1,oD t.2]) rfl rfl (by show(cy 39 (oD _)&&(cy 39 (oD _)&&true))=true;rw[(vG _).1,(vG _).1];rfl)];cases t.1<;>cases t.2<;>rfl
theorem nv_o{p:Option Int×Option Int}:WT r n (.str "never") (oD p.1) (oD p.2)=(decide (p=yZ r n)&&((yZ r n).1.isSome&&(yZ r n).2.isSome)):=by
 have h:=Xv (S:=[]) (p:=p) (q:=yZ r n);have ok2:∀ p:Option Int×Option Int,cy 40 (ow p)=true:=λp=>by show(cy 39 (oD p.1)&&(cy 39 (oD p.2)&&true))=true;rw[(vG _).1,(vG _).1];rfl
 rw[jD (ok2 _) (ok2 _)] at h;injection h with h;injection h with h;unfold WT;rw[show wB [.str "never"] (.str "never")=true by decide +kernel,abh,(vG _).2.2,(vG _).2.2,show gJ (.tup [oD p.1,oD p.2]) 1.25=_ from h];by_cases z:p=yZ r n
 ·rw[z];cases(yZ r n).1.isSome<;>cases(yZ r n).2.isSome<;>simp
 ·rw[aan z,aaI,aaI,aaK]
theorem Ys{a0 a3 a4 a5 a6 a7 a8 a9 a10 a11 a13 a15 a16:Option D}(n5:n<=5):∃ b11,riN [a0,Y r.d,Y 0.4,a3,a4,a5,a6,a7,a8,a9,a10,a11,Y 1.25,a13,Y (ow p),a15,a16] S=Y (.nx [a0,Y r.d,Y 0.4,a3,a4,a5,a6,a7,a8,a9,a10,b11,Y 1.25,a13,Y (ow p),a15,a16] S):=by
 have sh:=WL (r:=r) (S:=S) n5 (w:=.str "never") (x:=oD p.1) (y:=oD p.2) rfl (vG _).2.1 (vG _).2.1;rw[nv_o] at sh;have ad:aK S (.tup [.str "never"]) (ow p)=Y (.tup [.str "never",oD p.1,oD p.2]):=eN 0.3;refine⟨Y (.bl (decide (p=yZ r n)&&((yZ r n).1.isSome&&(yZ r n).2.isSome))),?_⟩;have ib:∀ b,zK "bool" S (.bl b)=Y 5.6:=λb=>rfl;have ne:∀ b,kf S (.bl b) (.bl b)=Y 1.5:=λb=>Gn rfl;simp![riN,k1,ad,bK,sh,fG,du,cU,pf,pg,ib,dm,dC,aaz,jv,eI,Xv];cases decide (p=yZ r n) with
 | false=>simp only[mj,aaK,ob,ar,ne,ah,aH,bP,bA]
 | true=>simp![jw,abh,no_o,ne]
theorem SD(n5:n<=5)(hw:el w=true)(hx:nr x=true)(hy:nr y=true)(h:(wB [.str "never"] w&&kR x)=false):bD [r.d,.int (n:Int),.tup [w,x,y]] S=Y (.bl false,S):=by
 rw[WL n5 hw hx hy,show WT r n w x y=false by unfold WT;rw[<- adH,h];rfl]
theorem GO(hw:el w=true)(hg:nr g=true)(ha:nr a=true)(hb:nr b=true)(h:(wB [.str "starves"] w&&(qC 0 2.1 g&&(iK a&&iK b)))=false):bD [r.d,.int (n:Int),.tup [w,g,a,b]] S=Y (.bl false,S):=
 OD hw hg ha hb (λh1 h2 h3 h4=>by rw[h1,h2,h3,h4] at h;cases h) λz=>⟨rfl,rfl⟩
theorem Yh{m:List Dd}(n5:n<=5)(hm:m.length<=60):∃ S',ir [r.d,.int (n:Int),.int g,.tup [.non],cI m] S=Y (.bl false,S')/\KK S S':=by
 obtain⟨i,S1,e,K⟩:=XS (r:=r) (n:=n) (S:=S) (xs:=m.map Dd.d) n5;refine⟨S1,?_,K⟩;rw[WH,bL (show [r.d,.int (n:Int),.int g,.tup [.non],cI m].length=5 from rfl),show ba kO [r.d,.int (n:Int),.int g,.tup [.non],cI m]=[Y r.d,Y 0.4,Y (.int g),Y (.tup [.non]),Y (cI m),L,L,L] from rfl];have ad:aK S (.tup [.non]) (cI m)=Y (.tup (.non::m.map Dd.d)):=eN 0.9;simp![svP,Aw,ad,aar,List.length_nil,acn,e]
noncomputable abbrev Dt(n:Nat)(l m:List Dd)(t:Option Int×Option Int):List D:=[.lst [.str "starves",.int 2.1,cI l,cI m],.tup [.str "starves",.int 2.1,cI l],.tup [.str "starves",.int 2.1,cI l,cI m,.tup []],.tup [.int 2.1,cI l,cI m],
 .tup [.str "starves",.int (n:Int),cI l,cI m],.tup [.str "starves",.int (-1),cI l,cI m],.tup [.str "starves",.non,cI l,cI m],.tup [.str "starves",.int 2.1,.lst 1.6,cI m],.tup [.str "starves",.int 2.1,cI l,.lst 3.8],
 .tup [.str "starves",.int 2.1,cI l,.non],.tup [.str "starves",.int 2.1,.tup [.non],cI m],.tup [.str "never"],.tup [.str "never",.int 0],.tup [.str "never",oD t.1,oD t.2,.int 0],.tup [.str "never",.bl false,.bl false],.tup [.str "Never",oD t.1,oD t.2],.non,.int 0,.bl true,.str "",
 .str "never",.tup [],.lst [],.dct [] [],.tup [.tup []],.tup [.non,.int 0,.int 0]]
theorem badOk{m:List Dd}{d:D}(n5:n<=5)(hm:m.length<=60)(hd:d∈Dt n l m t):∃ S',bD [r.d,.int (n:Int),d] S=Y (.bl false,S')/\KK S S':=by
 have w1:wB [.str "never"] (.str "starves")=false:=by decide +kernel
 have w2:wB [.str "never"] (.str "Never")=false:=by decide +kernel
 have w3:wB [.str "starves"] (.str "never")=false:=by decide +kernel
 have b1:qC 0 2.1 0.4=false:=by simp only[qC,aeq,adU];omega
 have b2:qC 0 2.1 (.int (-1))=false:=by simp only[qC,aeq,adU];omega
 simp only[Dt,aaC,abr,acE] at hd;rcases hd with rfl | rfl | rfl | rfl | rfl | rfl | rfl | rfl | rfl | rfl | rfl | rfl | rfl | rfl | rfl | rfl | rfl | rfl | rfl | rfl | rfl | rfl | rfl | rfl | rfl | rfl
 ·exact⟨S,mE rfl rfl rfl,uu⟩
 ·exact⟨S,SD n5 rfl rfl rfl (by rw[w1];rfl),uu⟩
 ·exact⟨S,mE rfl rfl rfl,uu⟩
 ·exact⟨S,SD n5 rfl rfl rfl rfl,uu⟩
 ·exact⟨S,GO rfl rfl rfl rfl (by rw[b1,aaK,aaI]),uu⟩
 ·exact⟨S,GO rfl rfl rfl rfl (by rw[b2,aaK,aaI]),uu⟩
 ·exact⟨S,GO rfl rfl rfl rfl (by show(_&&(false&&_))=_;rw[aaK,aaI]),uu⟩
 ·exact⟨S,GO rfl rfl rfl rfl (by show(_&&(_&&(false&&_)))=_;rw[aaK,aaI,aaI]),uu⟩
 ·exact⟨S,GO rfl rfl rfl rfl (by show(_&&(_&&(_&&false)))=_;rw[aaI,aaI,aaI]),uu⟩
 ·exact⟨S,GO rfl rfl rfl rfl (by show(_&&(_&&(_&&false)))=_;rw[aaI,aaI,aaI]),uu⟩
 ·obtain⟨S1,e,K⟩:=Yh (r:=r) (n:=n) (S:=S) (g:=(n:Int) - 1) (m:=m) n5 hm;by_cases hb:qC 0 2.1 (.int 2.1)=true
  ·exact⟨S1,OD rfl rfl rfl rfl (λw w w w=>e) (λz=>by rw[hb,show wB [.str "starves"] (.str "starves")=true by decide +kernel] at z;cases z),K⟩
  ·exact⟨S,GO rfl rfl rfl rfl (by rw[show qC 0 2.1 (.int 2.1)=false by simpa using hb,aaK,aaI]),uu⟩
 ·exact⟨S,mE rfl rfl rfl,uu⟩
 ·exact⟨S,mE rfl rfl rfl,uu⟩
 ·exact⟨S,GO rfl (vG _).2.1 (vG _).2.1 rfl (by rw[w3,aaK]),uu⟩
 ·exact⟨S,SD n5 rfl rfl rfl (by show(_&&false)=_;rw[aaI]),uu⟩
 ·exact⟨S,SD n5 rfl (vG _).2.1 (vG _).2.1 (by rw[w2];rfl),uu⟩
 ·exact⟨S,mE rfl rfl rfl,uu⟩
 ·exact⟨S,mE rfl rfl rfl,uu⟩
 ·exact⟨S,mE rfl rfl rfl,uu⟩
 ·exact⟨S,mE rfl rfl rfl,uu⟩
 ·exact⟨S,mE rfl rfl rfl,uu⟩
 ·exact⟨S,mE rfl rfl rfl,uu⟩
 ·exact⟨S,mE rfl rfl rfl,uu⟩
 ·exact⟨S,mE rfl rfl rfl,uu⟩
 ·exact⟨S,mE rfl rfl rfl,uu⟩
 ·exact⟨S,SD n5 rfl rfl rfl rfl,uu⟩
def riE:ME:=ay mr (ax 3 bD (aa '2' (aa '1' (aa '0' ao)))) (mC 1.5)
theorem badC:∀ (ds:List D) (S:ac) (a:Option D),(∀ d∈ds,∀ S,∃ S',bD [r.d,.int (n:Int),d] S=Y (.bl false,S')/\KK S S')->∃ S',ej '`' bX riE ds [a,Y 0.4,Y r.d] S=Y (ds.map λz=>.bl false,S')/\KK S S'
 | []=>λS a z=>⟨S,nP,uu⟩
 | d::ds=>λS a h=>by
  obtain⟨S1,e1,K1⟩:=h d aad S;obtain⟨S2,e2,K2⟩:=badC ds S1 (Y d) λd hd=>h d (aah _ hd);refine⟨S2,?_,K1.trans K2⟩;have nt:mr S1 1.5 1.5=Y 1.5:=rfl;rw[dR,aN,ob];simp only[dM,pq,gR,ob,po];rw[show riE [Y d,Y 0.4,Y r.d] S=Y (.bl false,S1) by simp![riE,bK,e1,nt]];simp only[ob,pj,e2,pi,aak]
theorem Yr{m:List Dd}{a5 a6 a7 a8 a9 a10 a11 a13 a14 a15 a16:Option D}(n5:n<=5)(hm:m.length<=60) :
  ∃ S',riT [Y (.ref q),Y r.d,Y 0.4,Y (cI l),Y (cI m),a5,a6,a7,a8,a9,a10,a11,Y (ow t),a13,a14,a15,a16] S=Y (.rt 5.6 S')/\KK S S':=by
 have s3:∀ S (a b c d:D),iy (.tup [a,b,c,d]) L (Y 3,S)=Y (.tup [a,b,c],S):=λS a b c d=>rfl;have s1:∀ S (a b c d:D),iy (.tup [a,b,c,d]) (Y 1) (L,S)=Y (.tup [b,c,d],S):=λS a b c d=>rfl;have s2:∀ S (a b c d:D),iy (.tup [a,b,c,d]) (Y 2) (L,S)=Y (.tup [c,d],S):=λS a b c d=>rfl;have s2':∀ S (a b c d:D),iy (.tup [a,b,c,d]) L (Y 2,S)=Y (.tup [a,b],S):=λS a b c d=>rfl
 have pre:∀ X:MS,riX X [Y (.ref q),Y r.d,Y 0.4,Y (cI l),Y (cI m),a5,a6,a7,a8,a9,a10,a11,Y (ow t),a13,a14,a15,a16] S=X [Y (.ref q),Y r.d,Y 0.4,Y (cI l),Y (cI m),a5,a6,a7,a8,a9,a10,a11,Y (ow t),a13,a14,Y (.tup [.str "starves",.int 2.1,cI l,cI m]),Y 2.04] S:=λX=>by
  simp![riX,ow,mq,fH,bZ,ca,Vn,cM,fz,cZ,fv,dq,dB,PP,Qn,IZ,s3,s1,s2,s2',db,aV,eN,yH,aar,List.length_nil,Nat.reduceAdd,Nat.reduceLeDiff,List.cons_append,acS]
 obtain⟨S1,e1,K1⟩:=badC (r:=r) (n:=n) (Dt n l m t) S L λd hd S=>badOk n5 hm hd;have fa:bb Da [.lst ((Dt n l m t).map λz=>D.bl false)] S1=Y (.bl false,S1):=by rw[QY (qv (λz=>false) _)];rfl
 have hA:∀ a15,riA [Y (.ref q),Y r.d,Y 0.4,Y (cI l),Y (cI m),a5,a6,a7,a8,a9,a10,a11,Y (ow t),a13,a14,a15,Y 2.04] S=Y (.lst ((Dt n l m t).map λz=>D.bl false),S1):=λa15=>by
  show(bY (cR '@') '`' bX riE [L,Y 2,Y 1]) _ S=_;simp only[ci,cV,ai,bG,bM,bO,oj,ob,ah,rH];rw[iH (by simp[Dt]),show oB [L,Y 2,Y 1] [Y (.ref q),Y r.d,Y 0.4,Y (cI l),Y (cI m),a5,a6,a7,a8,a9,a10,a11,Y (ow t),a13,a14,a15,Y 2.04]=[L,Y 0.4,Y r.d] from rfl,e1,ob,iI]
 refine⟨S1,?_,K1⟩;rw[riT,pre];simp only[riF,aP,CA,bZ,aq,hA,ob,ak,av,am,ca,fa,UP,aaH,bg]
end
def zc:Option Int->Int
 | none=>1
 | some i=>i+1
section
variable{r:Rl}{n q p:Nat}{S:ac}
def nuE:ME:=oi (aF (ay yE '0' 1.9)) 1e0 (ay aK '0' 1e0)
theorem Zh:nuE [Y (oD x)] S=Y (.int (zc x),S):=by
 cases x with
 | none=>
  have z:yE S .non .non=Y 5.6:=rfl;simp![nuE,oD,zc,lM,z,xW]
 | some i=>
  have z:yE S (.int i) .non=Y 1.5:=rfl;simp![nuE,oD,zc,lM,z,AF,gB]
theorem Yt{m:List Dd}{a5 a6 a7 a8 a9 a10 a11 a12 a13 a14 a15 a16:Option D}(n5:n<=5)(hm:m.length<=60):∃ S',riM [Y (.ref q),Y r.d,Y 0.4,Y (cI l),Y (cI m),a5,a6,a7,a8,a9,a10,a11,a12,a13,a14,a15,a16] S=Y (.rt 5.6 S')/\KK S S':=by
 have td:=told (r:=r) (S:=S) n5;generalize ht:yZ r n=t at td;let L4:List (Option Int×Option Int):=[t,(Y 0,Y 0),(t.1,Y (zc t.2)),(Y (zc t.1),t.2)]
 have it:CM (ow t,S)=Y ([oD t.1,oD t.2],S):=rfl
 have co:∀ {a5 a6 a7 a8 a9 a10 a11 a13 a14 a15 a16:Option D},ph '`' bX (oi (aF (ay yE '0' 1.9)) 1e0 (ay aK '0' 1e0)) [L] [Y (.ref q),Y r.d,Y 0.4,Y (cI l),Y (cI m),a5,a6,a7,a8,a9,a10,a11,Y (ow t),a13,a14,a15,a16] ([oD t.1,oD t.2],S)=Y (.lst [.int (zc t.1),.int (zc t.2)],S):=λ{a5 a6 a7 a8 a9 a10 a11 a13 a14 a15 a16}=>by
  show ph '`' bX nuE [L] _ _=_;rw[iH 0.3,show oB [L] [Y (.ref q),Y r.d,Y 0.4,Y (cI l),Y (cI m),a5,a6,a7,a8,a9,a10,a11,Y (ow t),a13,a14,a15,a16]=[L] from rfl,dR,aN,ob];simp only[dM,pq,gR,ob,po,Zh,pj,dR,aN,nP,pi,iI]
 have kl:∀ x y z u:D,lH ([x,y,z,u],S)=Y (.lst [x,y,z,u],S):=λx y z u=>db 0.3;have i0:aB S (ow t) (.int 0)=Y (oD t.1):=rfl;have i1:aB S (ow t) (.int 1)=Y (oD t.2):=rfl
 obtain⟨env',S',e,b11,b14,rfl,rfl⟩:=tE (tg:=aj 14) (p:=riN) (λenv S'=>∃ b11 b14,env=[Y (.ref q),Y r.d,Y 0.4,Y (cI l),Y (cI m),a5,a6,a7,Y (.int (zc t.1)),Y (.int (zc t.2)),a10,b11,Y (ow t),Y 1.45,b14,a15,a16]/\S'=S) (L4.map ow) (λd hd env S' hI=>by
  obtain⟨b11,b14,rfl,rfl⟩:=hI;obtain⟨p,w,rfl⟩:=aaB.mp hd;rw[<- ht];obtain⟨c11,e⟩:=Ys (S:=S') (r:=r) (n:=n) (p:=p) (a0:=Y (.ref q)) (a3:=Y (cI l)) (a4:=Y (cI m)) (a5:=a5) (a6:=a6) (a7:=a7) (a8:=Y (.int (zc (yZ r n).1))) (a9:=Y (.int (zc (yZ r n).2))) (a10:=a10) (a11:=b11) (a13:=Y 1.45) (a15:=a15) (a16:=a16) n5
  exact⟨_,_,_,_,aN,e,_,_,rfl,rfl⟩) [Y (.ref q),Y r.d,Y 0.4,Y (cI l),Y (cI m),a5,a6,a7,Y (.int (zc t.1)),Y (.int (zc t.2)),a10,a11,Y (ow t),Y 1.45,a14,a15,a16] S ⟨_,_,rfl,rfl⟩
 obtain⟨S2,e2,K2⟩:=Yr (r:=r) (n:=n) (q:=q) (S:=S') (l:=l) (m:=m) (t:=t) (a5:=a5) (a6:=a6) (a7:=a7) (a8:=Y (.int (zc t.1))) (a9:=Y (.int (zc t.2))) (a10:=a10) (a11:=b11) (a13:=Y 1.45) (a14:=b14) (a15:=a15) (a16:=a16) n5 hm;refine⟨S2,?_,K2⟩;have e':cF 'n' riN [ow t,.tup [.int 0,.int 0],.tup [oD t.1,.int (zc t.2)],.tup [.int (zc t.1),oD t.2]] [Y (.ref q),Y r.d,Y 0.4,Y (cI l),Y (cI m),a5,a6,a7,Y (.int (zc t.1)),Y (.int (zc t.2)),a10,a11,Y (ow t),Y (.lst [ow t,.tup [.int 0,.int 0],.tup [oD t.1,.int (zc t.2)],.tup [.int (zc t.1),oD t.2]]),a14,a15,a16] S'=_:=e;simp![riM,td,ci,cV,it,co,KH,bx,cE,bN,fH,ga,i0,i1,kl,iE,KC,e'];exact e2
theorem right(P:Pk S q)(hb:0<=r.b)(n2:2<=n)(n5:n<=5):∃ S',eK [.ref q,r.d,.int (n:Int)] S=Y (.bl true,S')/\Pk S' q:=by
 rw[ri_me,bL (show [D.ref q,r.d,D.int (n:Int)].length=3 from rfl),show ba iX [D.ref q,r.d,D.int (n:Int)]=[Y (.ref q),Y r.d,Y 0.4,L,L,L,L,L,L,L,L,L,L,L,L,L,L] from rfl];obtain⟨l,m,S1,e1,ol,om,P1,K1⟩:=Yq (r:=r) P n2 n5;obtain⟨l0,R,S2,e2,hl0,ll0,P2,G2⟩:=row (rl:=r) (m:=12) P1 (by omega:1<=n) n5 0.1;have e2':jA [.ref q,r.d,.int (n:Int),.int 12] S1=_:=e2;have a1:=ol.2;have a2:=om.2;let X:List Pr:=[(l,m),(l,[]),([],m),(l0,m)]
 have hX:GT n X:=λx hx=>by
  simp only[X,aaC,abr,acE] at hx;rcases hx with rfl | rfl | rfl | rfl
  ·exact⟨λd hd=>(aap.mp hd).elim (ol.1 d) (om.1 d),by dsimp only;omega⟩
  ·exact⟨λd hd=>(aap.mp hd).elim (ol.1 d) (λz=>(by cases z)),by dsimp only[List.length_nil];omega⟩
  ·exact⟨λd hd=>(aap.mp hd).elim (λz=>by cases z) (om.1 d),by dsimp only[List.length_nil];omega⟩
  ·exact⟨λd hd=>(aap.mp hd).elim (hl0.ws.2 d) (om.1 d),by dsimp only;omega⟩
 have s3:St (S2++[.lst (X.map OY)]) q S2.length X:=⟨(KK.app _).pk P2,jG,λz=>by have:=P2.lt;omega⟩
 have k2:∀ (S:ac) (x y:D),cz ([x,y],S)=Y (.tup [x,y],S):=λS x y=>aV 0.3;have k0:∀ S:ac,cz ([],S)=Y (.tup [],S):=λS=>aV 0.3;have kr:sS ([.tup [cI l,cI m],.tup [cI l,.tup []],.tup [.tup [],cI m],.tup [cI l0,cI m]],S2)=Y (.ref S2.length,S2++[.lst (X.map OY)]):=lb 0.3;have ix:aB S2 (.tup [cI l0,aZ R]) (.int 0)=Y (cI l0):=rfl;have k6:∀ S,UN ([.int 6],S)=Y (cT 0 6,S):=λS=>rE 0.1 0.1;obtain⟨c6,c7,S4,Y0,e4,s4,hY,lY⟩:=JV (r:=r) (a8:=L) (a9:=L) (b0:=L) (b1:=L) (b2:=L) (b3:=L) (b4:=L) (b5:=L) (b6:=L) 0.0 n5 ol om (cT 0 6) X _ L L s3 hX (by simp[X,cT])
 obtain⟨env',S5,e5,c8,c9,c10,c11,rfl,s5⟩:=Ge (c:=S2.length) (tg:=je 2 1.21) (b:=riC) (xs:=Y0.map OY) (λenv S=>∃ c8 c9 c10 c11,env=[Y (.ref q),Y r.d,Y 0.4,Y (cI l),Y (cI m),Y 1.69,c6,c7,c8,c9,c10,c11,L,L,L,L,L]/\St S q S2.length Y0) (λenv S hI=>by obtain⟨w,w,w,w,w,h⟩:=hI;exact h.at') (λd hd env S hI=>by
  obtain⟨c8,c9,c10,c11,rfl,hs⟩:=hI;obtain⟨x,hx,rfl⟩:=aaB.mp hd;obtain⟨d10,d11,S6,e6,s6⟩:=Yu (r:=r) (S:=S) (l:=x.1) (m:=x.2) (a3:=Y (cI l)) (a4:=Y (cI m)) (a5:=Y 1.69) (a6:=c6) (a7:=c7) (a10:=c10) (a11:=c11) (a12:=L) (a13:=L) (a14:=L) (a15:=L) (a16:=L) hb 0.0 n5 (hY x hx) hs
  exact⟨_,_,_,_,by rw[OY,KG];simp only[bx,aN,ob,dM,dP,cE,bN],e6,_,_,_,_,rfl,s6⟩) Y0.length 0 2000 [Y (.ref q),Y r.d,Y 0.4,Y (cI l),Y (cI m),Y 1.69,c6,c7,L,L,L,L,L,L,L,L,L] S4 0.3 0.0 ⟨_,_,_,_,rfl,s4⟩
 obtain⟨S6,e6,K6⟩:=Yt (r:=r) (n:=n) (q:=q) (S:=S5) (l:=l) (m:=m) (a5:=Y 1.69) (a6:=c6) (a7:=c7) (a8:=c8) (a9:=c9) (a10:=c10) (a11:=c11) (a12:=L) (a13:=L) (a14:=L) (a15:=L) (a16:=L) n5 0.0;refine⟨S6,?_,K6.pk s5.pk⟩;simp![riP,bK,e1,KG,bx,cE,bN,nN,k2,k0,Qv,e2',ix,kr,xO,jt,k6,xX,e4,iE,US,e5,e6]
end
def turn:MS:=aI (aT (ax 2 jN 3.9) 'b') (aI (aT (ax 1 jK 3.0) 'c') (aI (aT (ay aK 2e0 (ax 2 cb (aa '2' (aa 4e0 ao)))) 'd') (aI (cj (dJ (dQ (ax 3 eK (aa '2' (aa '3' 2.5))))) (bw (mC 1.5)) bv) (cj (dJ (dQ (ax 3 eK (aa '2' (aa (aR (aa (ay aB (dw (aa (!"readers") (aa (!"writers") ao))) (ax 2 cb (aa '2' 1.65))) (aa (ay aB '3' 1e0) (aa 0e0 (aa (ay aB '3' 3e0) ao))))) (aa (bF (bb on) (aa 3e0 2.5)) ao)))))) (bw (mC 1.5)) bv))))
def lwP:MS:=aI (kY (cD (aa (bF (bb on) (aa 2e0 (aa (bF (bb KP) (aa 1.06 (aa 4e0 ao))) ao))) ao)) 'a' turn) (bw (mC 5.6))
theorem lw_me:Gm=aU GU lwP 1:=jd rfl
theorem SZ{ns:List Int}{k:Int}{a2 a3 a4:Option D}(h0:0<=k)(h1:k<=100000):∃ b2 b3 b4 S',turn [Y (.rol 2.6),Y (.int k),a2,a3,a4] S=Y (.nx [Y (.rol 2.6),Y (.int k),b2,b3,b4] S'):=by
 obtain⟨p,q,e1,p0,q0,q1⟩:=left (S:=S) (ns:=ns) h0 h1;have P1:=qbs (S:=S) (c:=0) p0 q0 q1;obtain⟨r,S2,e2,Rk,P2,K2⟩:=rule P1;obtain⟨i,S3,e3,i0,i4,P3,K3⟩:=nH _ _ 4 P2 0.1 0.1;obtain⟨n,hn⟩:∃ n:Nat,2+i=(n:Int):=⟨(2+i).toNat,by omega⟩
 obtain⟨S4,e4,P4⟩:=right (r:=r) (n:=n) P3 Rk.b0 0.0 0.0;obtain⟨j,S5,e5,j0,j2,P5,K5⟩:=nH _ _ 2 P4 0.1 0.1;obtain⟨w,o,hw⟩:=JH (f:=λw:Rw=>D.str w.s) (xs:=[Rw.readers,.writers]) j0 j2;have hw':∀ S,aB S (.lst [.str "readers",.str "writers"]) (.int j)=Y 1.31:=λS=>by rw[Gp];exact hw
 obtain⟨m,hm⟩:∃ m:Nat,(if (n:Int)>3 then(n:Int) else 3)=(m:Int):=⟨(if (n:Int)>3 then(n:Int) else 3).toNat,by split<;>omega⟩
 have m5:2<=m/\m<=5:=by split at hm<;>omega
 obtain⟨S6,e6,P6⟩:=right (r:=⟨w,r.a,0,r.c⟩) (n:=m) P5 (Int.le_refl 0) m5.1 m5.2;have e6':eK [.ref S.length,.tup [.str w.s,.int r.a,.int 0,.int r.c],.int (m:Int)] S5=Y (.bl true,S6):=e6;have r1:∀ S,aB S r.d (.int 1)=Y (.int r.a):=λS=>rfl;have r3:∀ S,aB S r.d (.int 3)=Y (.int r.c):=λS=>rfl;have k4:∀ x y z u:D,cz ([x,y,z,u],S5)=Y (.tup [x,y,z,u],S5):=λx y z u=>aV 0.3;have kl:∀ x y:D,lH ([x,y],S4)=Y (.lst [x,y],S4):=λx y=>db 0.3;refine⟨Y 0.7,Y r.d,Y 0.4,S6,?_⟩;simp![turn,e1,iJ,e2,e3,gB,hn,du,cU,bK,e4,dm,dC,aaz,fH,kl,e5,hw',r1,r3,k4,bZ,ca,KQ,hm,e6']
theorem Qk:∀ ns:List Int,ns.length<=63->∃ S',Gm [.rol 2.6] []=Y (.bl true,S'):=λns hl=>by
 rw[lw_me,bL (show [D.rol 2.6].length=1 from rfl),show ba GU [D.rol 2.6]=[Y (.rol 2.6),L,L,L,L] from rfl];generalize hk:(if (if (4:Int)<(ns.length:Int) then 4 else(ns.length:Int))>2 then(if (4:Int)<(ns.length:Int) then 4 else(ns.length:Int)) else 2)=k;have hk':0<=k/\k<=26:=by rw[<- hk];split<;>(try split)<;>omega
 have k1:UN ([.int k],[])=Y (cT 0 k.toNat,[]):=rE 0.0 0.0
 obtain⟨env',S',e,a1,a2,a3,a4,rfl⟩:=tE (tg:=aj 1) (p:=turn) (λenv z=>∃ a1 a2 a3 a4,env=[Y (.rol 2.6),a1,a2,a3,a4]) (cT 0 k.toNat) (λd hd env S hI=>by
  obtain⟨a1,a2,a3,a4,rfl⟩:=hI;obtain⟨i,hi,rfl⟩:=Ia hd;obtain⟨b2,b3,b4,S2,e⟩:=SZ (S:=S) (ns:=ns) (k:=0+(i:Int)) (a2:=a2) (a3:=a3) (a4:=a4) 0.0 0.0
  exact⟨_,_,_,_,aN,e,_,_,_,_,rfl⟩) [Y (.rol 2.6),L,L,L,L] [] ⟨_,_,_,_,rfl⟩
 refine⟨S',?_⟩;simp![lwP,xO,jt,bZ,ca,qaz,Vo,KQ,aaj,hk,k1,xX,e]
end K29
end
end
namespace PySem.W.Fast
def tw3133034385752744533:=0
def tw3035526646535887059:=0
def tw16561180327084573690:=0
def tw6868403381965317869:=0
def tw14892812750883613517:=0
def tw8357989288096141571:=0
def tw5373501409930627610:=0
def tw5535825376105917981:=0
def tw14779708654082571522:=0
def tw17587536350227171691:=0
def tw9705018932398404329:=0
def tw3871956975046308199:=0
def tw3604953761814000938:=0
def tw9695791384462095161:=0
def tw8722253818010014726:=0
def tw1930618875865703027:=0
def tw831846429203096766:=0
def tw9293556697139584761:=0
def tw5829915251317260002:=0
def tw3812941880707928862:=0
def tw3103019460197062066:=0
def tw11479548460787289308:=0
def tw603516077064779332:=0
def tw12334064960246022115:=0
def tw18165034424291682769:=0
def tw2888384709270764566:=0
def tw9815050061711546247:=0
def tw13262602984945387657:=0
def tw10376390081339901924:=0
def tw6585053433385291493:=0
def tw69144412210250980:=0
def tw4166054518542054350:=0
def tw10537288748031296157:=0
def tw11038996810837290808:=0
def tw4080526447902339936:=0
def tw4507023772145200635:=0
def tw5386699826421104636:=0
def tw11197406175025520582:=0
def tw16629727957757951287:=0
def tw3803752211129785255:=0
def tw10390279287938897684:=0
def tw10032298992169778984:=0
def tw17319132995246966617:=0
def tw7532658568620365177:=0
def tw1789247654607006099:=0
def tw3494057428587002213:=0
def tw6962629423406008595:=0
def tw14164758370423052182:=0
def tw4994084898931359546:=0
def tw3791255424461688231:=0
def tw4473554564952207849:=0
def tw3619800124202801237:=0
def tw13174668491596318960:=0
def tw9476086465929400415:=0
def tw8831467927616914330:=0
def tw5065586311760201487:=0
def tw5754533381852977867:=0
def tw6572460257971859253:=0
def tw6809491755323543300:=0
def tw3079384239465456556:=0
def tw261701005156273946:=0
def tw17173959053127240476:=0
def tw11296598517489376264:=0
def tw1728895733592173288:=0
def tw15904345173637596057:=0
def tw12098121356795911972:=0
def tw12077117267869574200:=0
def tw14225159898265424006:=0
def tw12975881462595652853:=0
def tw12734714296357769753:=0
def tw15592724382430803035:=0
def tw17457167787986037720:=0
def tw6210558694901283153:=0
def tw4912792666035963725:=0
def tw4131173846955851843:=0
def tw3259093128289278025:=0
def tw12692665945832902988:=0
def tw1357077989584457343:=0
def tw9805852156704535916:=0
def tw17708035169676557602:=0
def tw11777994422541798574:=0
def tw2543892078824902335:=0
def tw7326381215672000048:=0
def tw9873103205814544235:=0
def tw2389482118356648296:=0
def tw6649111029793583195:=0
def tw11835541841962738236:=0
def tw17025998141662871499:=0
def tw1035701679373209177:=0
def tw8762967007251781657:=0
def tw16367669669827561926:=0
def tw2771721214816796026:=0
def tw15039642815669903496:=0
def tw18111582553852254636:=0
def tw9299462848417166596:=0
def tw17268237490271929278:=0
def tw10626081292688672033:=0
def tw15187368640382416720:=0
def tw4998876924941754951:=0
def tw12510689471391417274:=0
def tw468480896794473251:=0
def tw16673158907146110023:=0
def tw17836470544895077555:=0
def tw16418347432753144640:=0
def tw3784458520600461781:=0
def tw7851887031370118448:=0
def tw14032798672335686451:=0
def tw16073903272705110497:=0
def tw13167698124935133830:=0
def tw17400694483863622961:=0
def tw11243845575555720915:=0
def tw12108952875302293444:=0
def tw14833058855354815053:=0
def tw6861852201631739610:=0
def tw15888692842556087520:=0
def tw12987075605276391828:=0
def tw12032327489932940667:=0
def tw1860321974880970100:=0
def tw6402359553909993128:=0
def tw12903954836236752319:=0
def tw6456593483056392720:=0
def tw14819316127582251385:=0
def tw9198609163658757231:=0
def tw882633007268587768:=0
def tw16536515061952706162:=0
def tw1660924827752418147:=0
end PySem.W.Fast
namespace PySem.W.Fast
def tw13788376329329577094:=0
def tw8207392065699317317:=0
def tw10068842968713600017:=0
def tw12240624166722676367:=0
def tw13797672108702091339:=0
def tw17478695485691650394:=0
def tw7195715554527571839:=0
def tw9936174066220059948:=0
def tw16021064689379731320:=0
def tw5949662104885524672:=0
def tw7551675797839703241:=0
def tw18190018965128226138:=0
def tw18073995027255797950:=0
def tw252044588664489728:=0
def tw9835442329297785772:=0
def tw14059822684412638712:=0
def tw5790025482129573970:=0
def tw13060479466498053094:=0
def tw11983237538917760249:=0
def tw14090831101155558896:=0
def tw10251988478817693755:=0
def tw11525165006575788513:=0
def tw13930248818241474091:=0
def tw7225518867627415284:=0
def tw2850184199930665616:=0
def tw3050784213385199727:=0
def tw7652317006975993865:=0
def tw1811512746013736128:=0
def tw17987999465152884036:=0
def tw3168611597359991508:=0
def tw5100181596016489401:=0
def tw15045676437014264292:=0
def tw4563499299875504666:=0
def tw3447638043522779946:=0
def tw9029275371342659241:=0
def tw1159130381384369295:=0
def tw14932586847102420426:=0
def tw8642153571073537760:=0
def tw16820097616754346328:=0
def tw5283319775137995107:=0
def tw7860779911293571962:=0
def tw3931714541527618623:=0
def tw13578753488217467798:=0
def tw9082824952289866196:=0
def tw3542781336785717144:=0
def tw9266104353512937106:=0
def tw3591994357217229376:=0
def tw9382420942600370305:=0
def tw7717939670906591895:=0
def tw17197055245219849278:=0
def tw2609413976633259751:=0
def tw13615590059667133704:=0
def tw7186465913782619851:=0
def tw877803168964000032:=0
def tw8711771117609312421:=0
def tw10588276030805342750:=0
def tw10830648358773283058:=0
def tw7283529773958715926:=0
def tw428543838890323952:=0
def tw18061524262241978024:=0
def tw1874693890121281689:=0
def tw4400825349224289323:=0
def tw12041290429592808048:=0
def tw10386191763194035864:=0
def tw6046292459761941754:=0
def tw12598719232384875191:=0
def tw17310278942224509037:=0
def tw16554696536419458559:=0
def tw12831571183624384064:=0
def tw2030082231550483472:=0
def tw14786738997865874226:=0
def tw4487328805259432628:=0
def tw17803475012711294589:=0
def tw278136197834602104:=0
def tw4445511026298832222:=0
def tw15567487110958654281:=0
def tw1288015107960599288:=0
def tw17884213398358485517:=0
def tw14403518442800352268:=0
def tw16253520899003382970:=0
def tw4109628238271184873:=0
def tw3043293971257755464:=0
def tw7974212812779481925:=0
def tw8344615931132383385:=0
def tw2189608129006515630:=0
def tw1818723501250296824:=0
def tw7656822788111236416:=0
def tw3214173706921000864:=0
def tw15852529288939490169:=0
def tw5921861627380105180:=0
def tw4082387356328793127:=0
def tw3819338981922215420:=0
def tw8635880177879523564:=0
def tw3037393396356714132:=0
def tw1751641981527907738:=0
def tw8130604732697011493:=0
def tw15942387489069617293:=0
def tw15372834303333375858:=0
def tw2978298441175722215:=0
def tw3229436983018511862:=0
def tw12880409844677828924:=0
def tw2614075843646985642:=0
def tw8039785192638726692:=0
def tw33400991922744665:=0
def tw16803058839232819973:=0
def tw11178879442033234745:=0
def tw16544534121114133958:=0
def tw13171815498621961945:=0
def tw6743612168371148443:=0
def tw8006427811950624820:=0
def tw5104217374753167032:=0
def tw12713522668474892541:=0
def tw10130228431708820723:=0
def tw9106167431675480378:=0
def tw6574197664442127183:=0
def tw3997098272152498039:=0
def tw14212502107822690971:=0
def tw8553181194778030102:=0
def tw5439609441331455394:=0
def tw9572844547791160491:=0
def tw11403339161897689370:=0
def tw11713451561879006491:=0
def tw3831169510871250505:=0
def tw7427992947793858714:=0
def tw4900637034419458633:=0
def tw5930093912034511893:=0
def tw8769785617256234629:=0
def tw8046928562072171991:=0
def tw4599167426985643224:=0
def tw12592798382547066492:=0
def tw6584883287811908325:=0
def tw17064478359453755861:=0
def tw10214102909461652347:=0
def tw9197015835920846645:=0
def tw295657856868101110:=0
def tw4353700266404237103:=0
def tw12933236117515731857:=0
def tw14883574430496311402:=0
def tw1762486152137406156:=0
def tw12013591132370406741:=0
def tw2307458784312559697:=0
def tw5995847888203972004:=0
def tw2345105058152989678:=0
def tw151117901431074916:=0
def tw2401712013021362286:=0
def tw7432892536125254527:=0
def tw3362685852577304765:=0
def tw11290445877156761311:=0
def tw2119743008941234552:=0
def tw1483565323396220513:=0
def tw2004479653152103871:=0
def tw1503974602895805314:=0
def tw12861054032859882537:=0
def tw13407402959690717538:=0
def tw5871116274284642847:=0
def tw8212334455068431734:=0
def tw13011189698171382281:=0
def tw10874927677429151639:=0
def tw14939260992157738125:=0
def tw3596679231107384469:=0
def tw5471283181071198014:=0
def tw2104954091189631573:=0
def tw13297708959827960446:=0
def tw6443575006467359660:=0
def tw5966945050419385840:=0
def tw13822803945317862988:=0
def tw8095090740581247894:=0
def tw17195530176632164870:=0
def tw8267776638255259137:=0
def tw16741474022316378929:=0
def tw38485460187186484:=0
def tw9292755306236250774:=0
def tw3839463378708916699:=0
def tw6202721648984814532:=0
def tw10216439105720130814:=0
def tw11322561307551126:=0
def tw2640820195534128178:=0
def tw9689089989699841668:=0
def tw139693471641689340:=0
def tw13874882299292467373:=0
def tw4254496696384813634:=0
def tw16944181399033761371:=0
def tw9681369108955473797:=0
def tw3281287009415156217:=0
def tw6086203884022104703:=0
def tw14187476731343066530:=0
def tw11547116875296356944:=0
def tw9553387251604105121:=0
def tw7501932105684826700:=0
def tw17869390374518572599:=0
def tw13034869006265883376:=0
def tw4163470457824982271:=0
def tw8844580623167031344:=0
def tw16712889731751228801:=0
def tw2129803425860871995:=0
def tw10001655653475362192:=0
def tw1085691210254272901:=0
def tw17652163151393591298:=0
def tw1410073920245612122:=0
def tw11419747785689454466:=0
def tw15200643868811457086:=0
def tw1807946580483087323:=0
def tw343161274878311304:=0
def tw16805450958606603073:=0
def tw3300474619503627854:=0
def tw14914292110295044995:=0
def tw3665703061716763364:=0
def tw11101084651253411022:=0
def tw8413962985435646760:=0
def tw1213564221912765937:=0
def tw7773515181783831465:=0
def tw17398469200117232728:=0
def tw7673922952741306760:=0
def tw6459102641753287334:=0
def tw6559660795623763521:=0
def tw13657454932565207634:=0
def tw1810791107317702694:=0
def tw7136314024426329957:=0
def tw4690814362801728506:=0
def tw6581975784270732007:=0
def tw13123237145855381156:=0
def tw15979985913152922480:=0
def tw16130483712019833041:=0
def tw12691644893142966463:=0
def tw17969274781566574949:=0
def tw13479302604375415059:=0
def tw14083591305361576442:=0
def tw2726125595059888725:=0
def tw1056754121037556958:=0
def tw4681510531837684499:=0
def tw7427297399660626961:=0
def tw15162900059364387073:=0
def tw7802308509645981112:=0
def tw3775043966053004666:=0
def tw3476809226494134331:=0
def tw3100897873944942799:=0
def tw18318948108020561765:=0
def tw4361442074813924677:=0
def tw15899480832933251892:=0
def tw8710269542905297288:=0
def tw10843199629504551857:=0
def tw11632169405132408028:=0
def tw8060349687760152561:=0
def tw4324315310236174575:=0
def tw4763215610571577084:=0
def tw1000554361368667798:=0
def tw8612026851472039811:=0
def tw1456507182528516140:=0
def tw5386647311558764287:=0
def tw16448066755532133681:=0
def tw6346433200731052537:=0
def tw12176740671636842863:=0
def tw15389161568090990522:=0
def tw8731000961375574730:=0
def tw16635041575361876899:=0
def tw2878037678666560916:=0
def tw3418869454499482600:=0
def tw2305498437526757325:=0
def tw1534783839717313663:=0
def tw1257997288060323869:=0
def tw9293310950247092682:=0
def tw1440260316494069268:=0
def tw9341194509879063385:=0
def tw14835002730469844423:=0
def tw14520573687360621499:=0
def tw8723128783451644229:=0
def tw18186822076056485579:=0
def tw17597367536512339495:=0
def tw14597936310023460618:=0
def tw17499374536544599087:=0
def tw16143463439095293942:=0
end PySem.W.Fast
noncomputable def PySem.W.Fast.tw3081923410168442533:PySem.Program:=PySem.Challenge.pw_manyreaders_k29_starving_shown
theorem PySem.W.Fast.te3081923410168442533:PySem.Challenge.pw_manyreaders_k29_starving_shown=W.Fast.tw3081923410168442533:=rfl
namespace K29
def c0:QO:=eR 0
def c1:QO:=eR 1
def c2:QO:=eR 2
def c3:QO:=eR 3
def c5:QO:=eR 5
def c10:QO:=eR 10
def c11:QO:=eR 11
def c12:QO:=eR 12
def c13:QO:=eR 13
def c20:QO:=eR 20
def c21:QO:=eR 21
def c22:QO:=eR 22
def c31:QO:=eR 31
def c32:QO:=eR 32
def c45:QO:=eR 45
def c46:QO:=eR 46
def c48:QO:=eR 48
def c54:QO:=eR 54
def pw2:Op:={ PySem.Challenge.pw_manyreaders_k29_starving_shown with main:={ PySem.Challenge.pw_manyreaders_k29_starving_shown.main with body:=[c0,c1,c2,c3,hU,c5,jh,gd,kL,eU,c10,c11,c12,c13,pX,eV,hJ,dY,kD,jf,c20,c21,c22,mJ,kJ,ji,hV,kH,mI,ge,mH,c31,c32,kM,mK,ua,hZ,jj,gi,eW,gh,gf,jg,mF,dG,c45,c46,jH,c48,dF,eS,gc,kG,kK,c54,eh,ij,jn,ig,ia,il,eY,ii,jm,ee,jo,eX,ik,gk,jk,dZ,ic,eg,gj,Ag] } }
def lw:W.OpenLaw:={ PySem.Challenge.rw_manyreaders_k29_starving_shown with prog:=pw2 }
theorem lw_eq:PySem.Challenge.rw_manyreaders_k29_starving_shown=lw:=by kernel_rfl
end K29
namespace K29
open L2 MI M
noncomputable def nw:Str:="law_manyreaders_k29_starving_shown"
noncomputable def md1:Str:="manyreaders.fair"
noncomputable def WU:Str:="manyreaders.kinds"
noncomputable def SO:Str:="manyreaders.starving"
noncomputable def NS:Str:="manyreaders.rooms"
noncomputable def GY:Str:="manyreaders.doors"
noncomputable def wn:Str:="manyreaders.deeds"
noncomputable def md7:Str:="manyreaders.runs"
noncomputable def md8:Str:="manyreaders.errors"
noncomputable def kf0(P:Params):aeO:=[(3,⟨.type "dict",L,.dict #[kE P "__name__" 165 (.str "law_manyreaders_k29_starving_shown" 634),kE P "__doc__" 166 .none,kE P "__package__" 167 .none,kE P "__loader__" 168 (.builtin "__main__.__loader__#opaque"),kE P "__spec__" 169 .none,kE P "__annotations__" 170 (.ref 6),kE P "__builtins__" 171 (.ref 4),kE P "__file__" 173 (.str "/claim/cut.py" 172),kE P "__cached__" 174 .none,kE P "GuestError" 206 (.ref 24),kE P "NoDeed" 231 (.ref 44),kE P "told_most" 246 (.ref 53),kE P "is_whole" 255 (.ref 60),kE P "is_between" 264 (.ref 67),kE P "is_word" 272 (.ref 74),kE P "is_tuple_of" 280 (.ref 81),kE P "WRITING_WORDS" 285 (.ref 82),kE P "WANTS" 288 (.ref 83),kE P "GREATEST_LEFT" 290 (.int 9 289),kE P "empty" 297 (.ref 90),kE P "guests_with" 303 (.ref 95),kE P "with_word" 314 (.ref 102),kE P "without_wait" 320 (.ref 107),kE P "waiting" 329 (.ref 114),kE P "waits_in" 337 (.ref 121),kE P "FAVOURED" 351 (.ref 122),kE P "WORD_WITHIN" 358 (.ref 123),kE P "can_go" 364 (.ref 128),kE P "next_in" 373 (.ref 135),kE P "foremost" 379 (.ref 140),kE P "next_past" 391 (.ref 147),kE P "settled" 401 (.ref 154),kE P "coming" 410 (.ref 161),kE P "brought_by" 421 (.ref 168),kE P "let_in" 427 (.ref 173),kE P "GUEST_WORDS" 434 (.ref 174),kE P "is_deed" 445 (.ref 181),kE P "can_do" 456 (.ref 188),kE P "done" 466 (.ref 195),kE P "bring_ask" 482 (.ref 202),kE P "bring_up" 493 (.ref 209),kE P "bring_down" 503 (.ref 216),kE P "bring_leave" 513 (.ref 223),kE P "bring_stop" 524 (.ref 230),kE P "bring_tick" 530 (.ref 235),kE P "one_less" 537 (.ref 242),kE P "turned" 543 (.ref 247),kE P "settled_behind" 553 (.ref 254),kE P "BRINGS" 568 (.ref 255),kE P "walked" 585 (.ref 262),kE P "shows_starving" 596 (.ref 269),kE P "shows_never" 608 (.ref 276),kE P "shows_ring" 621 (.ref 283),kE P "starves" 627 (.ref 288),kE P "lets_in" 633 (.ref 293),kE P "_law_cell_at" 643 (.ref 300),kE P "_law_left" 653 (.ref 307),kE P "_law_far" 661 (.ref 314),kE P "_law_pick" 670 (.ref 321),kE P "_law_rule" 680 (.ref 328),kE P "_law_deed" 690 (.ref 335),kE P "_law_fronts" 696 (.ref 340),kE P "_law_lets" 706 (.ref 347),kE P "_law_put" 715 (.ref 354),kE P "_law_settled" 721 (.ref 359),kE P "_law_can" 727 (.ref 364),kE P "_law_marked" 733 (.ref 369),kE P "_law_done" 739 (.ref 374),kE P "_law_asked" 745 (.ref 379),kE P "_law_row" 760 (.ref 386),kE P "_law_starves" 766 (.ref 391),kE P "_law_rows" 779 (.ref 398),kE P "_law_changed" 791 (.ref 405),kE P "_law_right" 797 (.ref 410),kE P "law" 808 (.ref 417)] 75,#[]⟩),(23,⟨.type "dict",L,.dict #[kE P "__module__" 196 (.str "manyreaders.errors" 187),kE P "__firstlineno__" 200 (.int 2 199),kE P "__static_attributes__" 201 (.ref 22),kE P "__weakref__" 203 (.ref 25),kE P "__doc__" 204 .none] 3,#[]⟩),(24,kX "GuestError" 24 23 [.type "ValueError"] HT.oG [.ref 44] 15 189 197),(40,⟨.type "code",L,.fields #[.str "__init__" 219,.str "NoDeed.__init__" 220,.str "/claim/cut.py" 221,.int 6 0,.int 2 0,.int 0 0,.int 0 0,.int 3 0,.ref 35,.bool true,.int 181 0,.ref 36,.none,.ref 37,.ref 38,.ref 39,.int 224 0,.int 6 0,.str "/claim/cut.py" 225],#[]⟩),(41,kI "NoDeed.__init__" OJ md8 187 40),(43,⟨.type "dict",L,.dict #[kE P "__module__" 214 (.str "manyreaders.errors" 187),kE P "__firstlineno__" 218 (.int 4 217),kE P "__init__" 226 (.ref 41),kE P "__static_attributes__" 228 (.ref 42),kE P "__doc__" 229 .none] 2,#[]⟩),(44,kX "NoDeed" 44 43 [.ref 24] (.ref 24::HT.oG) [] 28 207 215),(52,kC "told_most" 234 9 2 47 48 (.ref 49) (.ref 50) 51 244)]
noncomputable def kf1(P:Params):aeO:=[(53,kF "told_most" hU md1 232 52),(59,kC "is_whole" 249 24 1 54 55 (.ref 56) (.ref 57) 58 253),(60,kF "is_whole" jh WU 247 59),(66,kC "is_between" 256 26 3 61 62 (.ref 63) (.ref 64) 65 262),(67,kF "is_between" gd WU 247 66),(73,kC "is_word" 265 28 2 68 69 (.ref 70) (.ref 71) 72 270),(74,kF "is_word" kL WU 247 73),(80,kC "is_tuple_of" 273 30 2 75 76 (.ref 77) (.ref 78) 79 278)]
noncomputable def kf2(P:Params):aeO:=[(81,kF "is_tuple_of" eU WU 247 80),(82,⟨.type "tuple",L,.seq #[.str "writes" 283,.str "raised" 284] 0,#[]⟩),(83,⟨.type "tuple",L,.seq #[.str "read" 286,.str "write" 287] 0,#[]⟩),(89,kC "empty" 291 36 1 84 85 (.ref 86) (.ref 87) 88 295),(90,kF "empty" pX NS 281 89),(94,kC "guests_with" 298 38 2 91 92 .none .none 93 301),(95,kF "guests_with" eV NS 281 94),(101,kC "with_word" 304 40 3 96 97 (.ref 98) (.ref 99) 100 312)]
noncomputable def kf3(P:Params):aeO:=[(102,kF "with_word" hJ NS 281 101),(106,kC "without_wait" 315 43 2 103 104 .none .none 105 318),(107,kF "without_wait" dY NS 281 106),(113,kC "waiting" 321 46 2 108 109 (.ref 110) (.ref 111) 112 327),(114,kF "waiting" kD NS 281 113),(120,kC "waits_in" 330 53 2 115 116 (.ref 117) (.ref 118) 119 335),(121,kF "waits_in" jf NS 281 120),(122,⟨.type "dict",L,.dict #[kE P "rows" 340 .none,kE P "readers" 341 (.str "read" 342),kE P "writers" 343 (.str "write" 344),kE P "turns" 345 (.str "write" 346)] 4,#[]⟩)]
noncomputable def kf4(P:Params):aeO:=[(123,⟨.type "dict",L,.dict #[kE P "read" 352 (.str "reads" 353),kE P "write" 354 (.str "writes" 355)] 2,#[]⟩),(127,kC "can_go" 359 58 3 124 125 .none .none 126 362),(128,kF "can_go" mJ GY 338 127),(134,kC "next_in" 365 67 2 129 130 (.ref 131) (.ref 132) 133 371),(135,kF "next_in" kJ GY 338 134),(139,kC "foremost" 374 72 2 136 137 .none .none 138 377),(140,kF "foremost" ji GY 338 139),(146,kC "next_past" 380 77 2 141 142 (.ref 143) (.ref 144) 145 389)]
noncomputable def kf5(P:Params):aeO:=[(147,kF "next_past" hV GY 338 146),(153,kC "settled" 392 84 2 148 149 (.ref 150) (.ref 151) 152 399),(154,kF "settled" kH GY 338 153),(160,kC "coming" 402 92 2 155 156 (.ref 157) (.ref 158) 159 408),(161,kF "coming" mI GY 338 160),(167,kC "brought_by" 411 98 3 162 163 (.ref 164) (.ref 165) 166 419),(168,kF "brought_by" ge GY 338 167),(172,kC "let_in" 422 103 3 169 170 .none .none 171 425)]
noncomputable def kf6(P:Params):aeO:=[(173,kF "let_in" mH GY 338 172),(174,⟨.type "tuple",L,.seq #[.str "up" 430,.str "down" 431,.str "leave" 432,.str "stop" 433] 0,#[]⟩),(180,kC "is_deed" 435 112 2 175 176 (.ref 177) (.ref 178) 179 443),(181,kF "is_deed" kM wn 428 180),(187,kC "can_do" 446 121 2 182 183 (.ref 184) (.ref 185) 186 454),(188,kF "can_do" mK wn 428 187),(194,kC "done" 457 135 3 189 190 (.ref 191) (.ref 192) 193 464),(195,kF "done" ua wn 428 194)]
noncomputable def kf7(P:Params):aeO:=[(201,kC "bring_ask" 467 138 3 196 197 (.ref 198) (.ref 199) 200 480),(202,kF "bring_ask" hZ wn 428 201),(208,kC "bring_up" 483 148 3 203 204 (.ref 205) (.ref 206) 207 491),(209,kF "bring_up" jj wn 428 208),(215,kC "bring_down" 494 156 3 210 211 (.ref 212) (.ref 213) 214 501),(216,kF "bring_down" gi wn 428 215),(222,kC "bring_leave" 504 159 3 217 218 (.ref 219) (.ref 220) 221 511),(223,kF "bring_leave" eW wn 428 222)]
noncomputable def kf8(P:Params):aeO:=[(229,kC "bring_stop" 514 162 3 224 225 (.ref 226) (.ref 227) 228 522),(230,kF "bring_stop" gh wn 428 229),(234,kC "bring_tick" 525 169 3 231 232 .none .none 233 528),(235,kF "bring_tick" gf wn 428 234),(241,kC "one_less" 531 175 1 236 237 (.ref 238) (.ref 239) 240 535),(242,kF "one_less" jg wn 428 241),(246,kC "turned" 538 177 3 243 244 .none .none 245 541),(247,kF "turned" mF wn 428 246)]
noncomputable def kf9(P:Params):aeO:=[(253,kC "settled_behind" 544 182 3 248 249 (.ref 250) (.ref 251) 252 551),(254,kF "settled_behind" dG wn 428 253),(255,⟨.type "dict",L,.dict #[kE P "read" 554 (.ref 202),kE P "write" 555 (.ref 202),kE P "up" 556 (.ref 209),kE P "down" 557 (.ref 216),kE P "leave" 558 (.ref 223),kE P "stop" 559 (.ref 230),kE P "tick" 560 (.ref 235)] 7,#[]⟩),(261,kC "walked" 571 187 3 256 257 (.ref 258) (.ref 259) 260 583),(262,kF "walked" jH md7 569 261),(268,kC "shows_starving" 588 198 3 263 264 (.ref 265) (.ref 266) 267 594),(269,kF "shows_starving" dF SO 586 268),(275,kC "shows_never" 597 200 3 270 271 (.ref 272) (.ref 273) 274 606)]
noncomputable def kf10(P:Params):aeO:=[(276,kF "shows_never" eS SO 586 275),(282,kC "shows_ring" 609 205 3 277 278 (.ref 279) (.ref 280) 281 619),(283,kF "shows_ring" gc SO 586 282),(287,kC "starves" 622 212 5 284 285 .none .none 286 625),(288,kF "starves" kG SO 586 287),(292,kC "lets_in" 628 222 1 289 290 .none .none 291 631),(293,kF "lets_in" kK SO 586 292),(299,kC "_law_cell_at" 636 225 2 294 295 (.ref 296) (.ref 297) 298 641)]
noncomputable def kf11(P:Params):aeO:=[(300,kF "_law_cell_at" eh nw 634 299),(306,kC "_law_left" 644 229 2 301 302 (.ref 303) (.ref 304) 305 651),(307,kF "_law_left" ij nw 634 306),(313,kC "_law_far" 654 236 0 308 309 (.ref 310) (.ref 311) 312 659),(314,kF "_law_far" jn nw 634 313),(320,kC "_law_pick" 662 241 2 315 316 (.ref 317) (.ref 318) 319 668),(321,kF "_law_pick" ig nw 634 320),(327,kC "_law_rule" 671 249 1 322 323 (.ref 324) (.ref 325) 326 678)]
noncomputable def kf12(P:Params):aeO:=[(328,kF "_law_rule" ia nw 634 327),(334,kC "_law_deed" 681 254 2 329 330 (.ref 331) (.ref 332) 333 688),(335,kF "_law_deed" il nw 634 334),(339,kC "_law_fronts" 691 262 2 336 337 .none .none 338 694),(340,kF "_law_fronts" eY nw 634 339),(346,kC "_law_lets" 697 273 3 341 342 (.ref 343) (.ref 344) 345 704),(347,kF "_law_lets" ii nw 634 346),(353,kC "_law_put" 707 280 3 348 349 (.ref 350) (.ref 351) 352 713)]
noncomputable def kf13(P:Params):aeO:=[(354,kF "_law_put" jm nw 634 353),(358,kC "_law_settled" 716 282 2 355 356 .none .none 357 719),(359,kF "_law_settled" ee nw 634 358),(363,kC "_law_can" 722 298 2 360 361 .none .none 362 725),(364,kF "_law_can" jo nw 634 363),(368,kC "_law_marked" 728 307 3 365 366 .none .none 367 731),(369,kF "_law_marked" eX nw 634 368),(373,kC "_law_done" 734 311 3 370 371 .none .none 372 737)]
noncomputable def kf14(P:Params):aeO:=[(374,kF "_law_done" ik nw 634 373),(378,kC "_law_asked" 740 334 3 375 376 .none .none 377 743),(379,kF "_law_asked" gk nw 634 378),(385,kC "_law_row" 746 343 4 380 381 (.ref 382) (.ref 383) 384 758),(386,kF "_law_row" jk nw 634 385),(390,kC "_law_starves" 761 353 5 387 388 .none .none 389 764),(391,kF "_law_starves" dZ nw 634 390),(397,kC "_law_rows" 767 370 3 392 393 (.ref 394) (.ref 395) 396 777)]
noncomputable def kf15(P:Params):aeO:=[(398,kF "_law_rows" ic nw 634 397),(404,kC "_law_changed" 780 375 3 399 400 (.ref 401) (.ref 402) 403 789),(405,kF "_law_changed" eg nw 634 404),(409,kC "_law_right" 792 381 3 406 407 .none .none 408 795),(410,kF "_law_right" gj nw 634 409),(416,kC "law" 798 407 1 411 412 (.ref 413) (.ref 414) 415 806),(417,kF "law" Ag nw 634 416)]
noncomputable def fJ(P:Params):aeO:=((((kf0 P)++(kf1 P))++((kf2 P)++(kf3 P)))++(((kf4 P)++(kf5 P))++((kf6 P)++(kf7 P))))++((((kf8 P)++(kf9 P))++((kf10 P)++(kf11 P)))++(((kf12 P)++(kf13 P))++((kf14 P)++(kf15 P))))
noncomputable def kads:List tx:=[3,23,24,40,41,43,44,52,53,59,60,66,67,73,74,80,81,82,83,89,90,94,95,101,102,106,107,113,114,120,121,122,123,127,128,134,135,139,140,146,147,153,154,160,161,167,168,172,173,174,180,181,187,188,194,195,201,202,208,209,215,216,222,223,229,230,234,235,241,242,246,247,253,254,255,261,262,268,269,275,276,282,283,287,288,292,293,299,300,306,307,313,314,320,321,327,328,334,335,339,340,346,347,353,354,358,359,363,364,368,369,373,374,378,379,385,386,390,391,397,398,404,405,409,410,416,417]
theorem txt{w:Qa}(X:(fJ w.params).In h)(G:h.Ns Zs mg):Txt w (fJ w.params) mg:=
 ⟨cW X G nw 300 634 299 (by kernel_rfl),cW X G nw 314 634 313 (by kernel_rfl),cW X G nw 307 634 306 (by kernel_rfl),cW X G nw 321 634 320 (by kernel_rfl),cW X G nw 328 634 327 (by kernel_rfl),cW X G nw 398 634 397 (by kernel_rfl),cW X G md1 53 232 52 (by kernel_rfl),cW X G WU 81 247 80 (by kernel_rfl),cW X G WU 74 247 73 (by kernel_rfl),cW X G WU 60 247 59 (by kernel_rfl),cW X G SO 276 586 275 (by kernel_rfl),cW X G NS 90 281 89 (by kernel_rfl),cW X G NS 95 281 94 (by kernel_rfl),cW X G GY 140 338 139 (by kernel_rfl),cW X G NS 114 281 113 (by kernel_rfl),cW X G GY 128 338 127 (by kernel_rfl),cW X G GY 147 338 146 (by kernel_rfl),cW X G GY 135 338 134 (by kernel_rfl),cW X G GY 161 338 160 (by kernel_rfl),cW X G NS 102 281 101 (by kernel_rfl),cW X G GY 173 338 172 (by kernel_rfl),cW X G GY 168 338 167 (by kernel_rfl),cW X G GY 154 338 153 (by kernel_rfl),cW X G NS 107 281 106 (by kernel_rfl),cW X G wn 202 428 201 (by kernel_rfl),cW X G wn 209 428 208 (by kernel_rfl),cW X G wn 254 428 253 (by kernel_rfl),cW X G wn 247 428 246 (by kernel_rfl),cW X G wn 216 428 215 (by kernel_rfl),cW X G wn 223 428 222 (by kernel_rfl),cW X G wn 230 428 229 (by kernel_rfl),cW X G wn 242 428 241 (by kernel_rfl),cW X G wn 235 428 234 (by kernel_rfl),cW X G wn 195 428 194 (by kernel_rfl),cW X G WU 67 247 66 (by kernel_rfl),cW X G wn 181 428 180 (by kernel_rfl),cW X G wn 188 428 187 (by kernel_rfl),cW X G md7 262 569 261 (by kernel_rfl),cW X G SO 293 586 292 (by kernel_rfl),cW X G NS 121 281 120 (by kernel_rfl),cW X G SO 288 586 287 (by kernel_rfl),cW X G SO 283 586 282 (by kernel_rfl),cW X G SO 269 586 268 (by kernel_rfl),cW X G nw 335 634 334 (by kernel_rfl),cW X G nw 354 634 353 (by kernel_rfl),cW X G nw 340 634 339 (by kernel_rfl),cW X G nw 347 634 346 (by kernel_rfl),cW X G nw 359 634 358 (by kernel_rfl),cW X G nw 364 634 363 (by kernel_rfl),cW X G nw 379 634 378 (by kernel_rfl),cW X G nw 369 634 368 (by kernel_rfl),cW X G nw 374 634 373 (by kernel_rfl),cW X G nw 386 634 385 (by kernel_rfl),cW X G nw 405 634 404 (by kernel_rfl),cW X G nw 391 634 390 (by kernel_rfl),cW X G nw 410 634 409 (by kernel_rfl),cW X G nw 417 634 416 (by kernel_rfl),abq X G (by kernel_rfl),abq X G (by kernel_rfl),abq X G (by kernel_rfl),abq X G (by kernel_rfl),abq X G (by kernel_rfl),abq X G (by kernel_rfl),abq X G (by kernel_rfl),abq X G (by kernel_rfl),abq X G (by kernel_rfl),abq X G (by kernel_rfl),abq X G (by kernel_rfl),abq X G (by kernel_rfl),abq X G (by kernel_rfl),qat (acf X G (show W.nsIn (fJ w.params) Zs "BRINGS" = Y (Y (.ref 255)) by kernel_rfl)) (show(fJ w.params).lookup 255=Y ⟨.type "dict",L,.dict #[⟨PyData.keyHash w.params "read",.str "read" 554,.ref 202⟩,⟨PyData.keyHash w.params "write",.str "write" 555,.ref 202⟩,⟨PyData.keyHash w.params "up",.str "up" 556,.ref 209⟩,⟨PyData.keyHash w.params "down",.str "down" 557,.ref 216⟩,⟨PyData.keyHash w.params "leave",.str "leave" 558,.ref 223⟩,⟨PyData.keyHash w.params "stop",.str "stop" 559,.ref 230⟩,⟨PyData.keyHash w.params "tick",.str "tick" 560,.ref 235⟩] 7,#[]⟩ by kernel_rfl) (.cons (.cons (.cons (.cons (.cons (.cons (.cons (.nil)))))))) (show List.Nodup ([.inr "read",.inr "write",.inr "up",.inr "down",.inr "leave",.inr "stop",.inr "tick"]:List cf) by decide +kernel) (.cons (acf X G (show W.nsIn (fJ w.params) Zs "bring_ask" = Y (Y (.ref 202)) by kernel_rfl)) (.cons (acf X G (show W.nsIn (fJ w.params) Zs "bring_ask" = Y (Y (.ref 202)) by kernel_rfl)) (.cons (acf X G (show W.nsIn (fJ w.params) Zs "bring_up" = Y (Y (.ref 209)) by kernel_rfl)) (.cons (acf X G (show W.nsIn (fJ w.params) Zs "bring_down" = Y (Y (.ref 216)) by kernel_rfl)) (.cons (acf X G (show W.nsIn (fJ w.params) Zs "bring_leave" = Y (Y (.ref 223)) by kernel_rfl)) (.cons (acf X G (show W.nsIn (fJ w.params) Zs "bring_stop" = Y (Y (.ref 230)) by kernel_rfl)) (.cons (acf X G (show W.nsIn (fJ w.params) Zs "bring_tick" = Y (Y (.ref 235)) by kernel_rfl)) (.nil)))))))),Og (acf X G (show W.nsIn (fJ w.params) Zs "FAVOURED" = Y (Y (.ref 122)) by kernel_rfl)) (show(fJ w.params).lookup 122=Y ⟨.type "dict",L,.dict #[⟨PyData.keyHash w.params "rows",.str "rows" 340,.none⟩,⟨PyData.keyHash w.params "readers",.str "readers" 341,.str "read" 342⟩,⟨PyData.keyHash w.params "writers",.str "writers" 343,.str "write" 344⟩,⟨PyData.keyHash w.params "turns",.str "turns" 345,.str "write" 346⟩] 4,#[]⟩ by kernel_rfl) (.cons (.cons (.cons (.cons (.nil))))) (show List.Nodup ([.inr "rows",.inr "readers",.inr "writers",.inr "turns"]:List cf) by decide +kernel) (.cons .non rfl (λz z z=>.non) (.cons (V.str "read") ⟨_,rfl⟩ (λz z z=>.str _) (.cons (V.str "write") ⟨_,rfl⟩ (λz z z=>.str _) (.cons (V.str "write") ⟨_,rfl⟩ (λz z z=>.str _) (.nil))))),⟨_,V.int 9,acf X G (show W.nsIn (fJ w.params) Zs "GREATEST_LEFT" = Y (Y (.int 9 289)) by kernel_rfl),⟨_,rfl⟩,λμ H=>.int _⟩,⟨_,.ref 174,acf X G (show W.nsIn (fJ w.params) Zs "GUEST_WORDS" = Y (Y (.ref 174)) by kernel_rfl),rfl,λμ H=>.ktup (vs:=[V.str "up",V.str "down",V.str "leave",V.str "stop"]) ⟨_,_,_,(show(fJ w.params).lookup 174=Y ⟨.type "tuple",L,.seq #[.str "up" 430,.str "down" 431,.str "leave" 432,.str "stop" 433] 0,#[]⟩ by kernel_rfl),rfl,rfl,rfl,(show 4<=Vj by decide),.cons ⟨_,rfl⟩ (.cons ⟨_,rfl⟩ (.cons ⟨_,rfl⟩ (.cons ⟨_,rfl⟩ (.nil))))⟩ (.cons (.str _) (.cons (.str _) (.cons (.str _) (.cons (.str _) (.nil)))))⟩,⟨_,.ref 83,acf X G (show W.nsIn (fJ w.params) Zs "WANTS" = Y (Y (.ref 83)) by kernel_rfl),rfl,λμ H=>.ktup (vs:=[V.str "read",V.str "write"]) ⟨_,_,_,(show(fJ w.params).lookup 83=Y ⟨.type "tuple",L,.seq #[.str "read" 286,.str "write" 287] 0,#[]⟩ by kernel_rfl),rfl,rfl,rfl,(show 2<=Vj by decide),.cons ⟨_,rfl⟩ (.cons ⟨_,rfl⟩ (.nil))⟩ (.cons (.str _) (.cons (.str _) (.nil)))⟩,Og (acf X G (show W.nsIn (fJ w.params) Zs "WORD_WITHIN" = Y (Y (.ref 123)) by kernel_rfl)) (show(fJ w.params).lookup 123=Y ⟨.type "dict",L,.dict #[⟨PyData.keyHash w.params "read",.str "read" 352,.str "reads" 353⟩,⟨PyData.keyHash w.params "write",.str "write" 354,.str "writes" 355⟩] 2,#[]⟩ by kernel_rfl) (.cons (.cons (.nil))) (show List.Nodup ([.inr "read",.inr "write"]:List cf) by decide +kernel) (.cons (V.str "reads") ⟨_,rfl⟩ (λz z z=>.str _) (.cons (V.str "writes") ⟨_,rfl⟩ (λz z z=>.str _) (.nil))),⟨_,.ref 82,acf X G (show W.nsIn (fJ w.params) Zs "WRITING_WORDS" = Y (Y (.ref 82)) by kernel_rfl),rfl,λμ H=>.ktup (vs:=[V.str "writes",V.str "raised"]) ⟨_,_,_,(show(fJ w.params).lookup 82=Y ⟨.type "tuple",L,.seq #[.str "writes" 283,.str "raised" 284] 0,#[]⟩ by kernel_rfl),rfl,rfl,rfl,(show 2<=Vj by decide),.cons ⟨_,rfl⟩ (.cons ⟨_,rfl⟩ (.nil))⟩ (.cons (.str _) (.cons (.str _) (.nil)))⟩,rseK X G (q:="NoDeed.__init__") (g:="GuestError") (a:="self") (b:="place") (st:=OJ) md8 44 43 24 23 41 40 187 28 207 215 15 189 197 [] [.ref 44] rfl ⟨rfl,rfl,rfl,by decide +kernel,rfl,by decide +kernel,by decide +kernel⟩ (cw λz=>cw λz=>iZ rfl) (by decide) (by decide) (by decide) (by decide) (by kernel_rfl) (by kernel_rfl),hndK X G (x:="NoDeed") 44 43 44 43 28 207 215 28 207 215 [.ref 24] (.ref 24::HT.oG) [.ref 24] (.ref 24::HT.oG) [] [] (by kernel_rfl)⟩
end K29
open PySem.W
set_option maxRecDepth 100000 in
set_option maxHeartbeats 0 in
theorem PySem.Challenge.cw_manyreaders_k29_starving_shown_holds : PySem.Challenge.rw_manyreaders_k29_starving_shown.Holds := by
 rw[K29.lw_eq];w_on;o_law;o_head (kHook K29.fJ K29.kads (λz=>by kernel_rfl));(case hw=>w_witness2);exact K29.walk (l:=K29.lw) rfl rfl rfl (λw h Y0=>PySem.W.kIn_of Y0) K29.Qk λw mg h KX G=>K29.txt KX G

end
