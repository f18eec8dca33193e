import PyProof.Rows.All
import Wide.All
import OpenK.AllK
import Wide.FinOn
import Lean
import PyProof.EqAt
import PyProof.EqKinds
import PyProof.TupleCall
import PySem.Challenge.RW_manyreaders_k27_rows_within_the_numbers
set_option genSizeOf false
set_option genSizeOfSpec false
set_option compiler.extract_closed false
set_option bootstrap.genMatcherCode false
open Option renaming some -> Y,none -> J
local macro_rules|`(tactic|ac_rfl)=>`(tactic|exact⟨rfl,rfl,rfl,by decide +kernel,rfl,by decide +kernel,by decide +kernel⟩)
noncomputable section
set_option Elab.async false
set_option linter.all false
set_option maxRecDepth 100000
open PySem renaming Value -> ab,Shared -> ce,Addr -> gV,Expr -> sn,Program -> td,World -> tx,Stmt -> Kw,Around -> NF,Heap -> NY,sizeLine -> Ph,starEach -> Pi,foldedSetIterable -> Qf,mainGlobals -> Tx,compareOp -> Uv,binaryOp -> VR,wpAny -> Xr
open PySem.W renaming Frag -> Ym
open List renaming replicate -> ZB
open Bool renaming false_ne_true -> aeI
open PySem PySem.Spec PyProof.Rows
section
def litT(t:String):Lean.Term:=
 let i(c:String):Lean.Term:=Lean.mkIdent c.toName
 let p(x:List Lean.Term):Lean.Term:=match x.reverse with|[]=>i "x"|[f]=>f|f::as=>Lean.Syntax.mkApp f as.toArray
 let n(k:Lean.Name)(x:Array Lean.Syntax):Lean.Term:=⟨.node .none k x⟩
 let m:=Lean.mkAtom
 let a(c:String):Lean.Term:=if c.front='.' then n ``Lean.Parser.Term.dotIdent #[m ".",Lean.mkIdent (.str .anonymous (String.ofList (c.toList.drop 1)))] else if c="_" then n ``Lean.Parser.Term.hole #[m "_"] else if c.front='\'' then ⟨Lean.Syntax.mkCharLit (c.toList.getD 1 ' ')⟩ else if c.front.isDigit then (if c.toList.any (!·.isDigit) then ⟨Lean.Syntax.mkScientificLit c⟩ else ⟨Lean.Syntax.mkNumLit c⟩) else match c.toList.reverse with|d::'.'::r=>if d.isDigit then n ``Lean.Parser.Term.proj #[i (String.ofList r.reverse),m ".",Lean.Syntax.mkLit Lean.fieldIdxKind (String.singleton d)] else i c|_=>i c
 let g(k:Char)(l:List Lean.Term):Lean.Term:=if k='[' then l.foldr (λx y=>p [y,x,i "List.cons"]) (i "List.nil") else if k='⟨' then n ``Lean.Parser.Term.anonymousCtor #[m "⟨",Lean.Syntax.mkSep (l.map (·.raw)).toArray (m ","),m "⟩"] else if k=':' then n ``Lean.Parser.Term.typeAscription #[n ``Lean.Parser.Term.hygienicLParen #[m "(",.node .none `hygieneInfo #[Lean.mkIdent .anonymous]],l.headD (i "x"),m ":",Lean.mkNullNode #[l.getLastD (i "x")],m ")"] else match l.reverse with|[]=>i "x"|x::r=>r.foldl (λy x=>p [y,x,i "Prod.mk"]) x
 let f(s:String×List (Char×List Lean.Term×List Lean.Term)):=if s.1="" then s.2 else match s.2 with|(k,d,x)::r=>(k,d,a s.1::x)::r|_=>[]
 let s:=t.foldl (λs c=>if c=' ' then ("",f s) else if "([⟨".toList.contains c then ("",(c,[],[])::f s) else if c=','||c=':' then ("",match f s with|(k,d,x)::r=>(if c=':' then ':' else k,p x::d,[])::r|_=>[]) else if ")]⟩".toList.contains c then ("",match f s with|(k,d,x)::(h,e,y)::r=>(h,e,g k (if x.isEmpty then d else p x::d).reverse::y)::r|_=>[]) else (s.1.push c,s.2)) ("",[('(',[],[])])
 match f s with|(_,_,x)::_=>p x|_=>i "x"
local macro_rules|`(command|def $x:declId $y:optDeclSig $v:declVal)=>if y.raw[1].getNumArgs>0&&(match x.raw[0].getId with|.str _ s=>s.front.isLower||s.front='_'|_=>false) then `(command|theorem $x:declId $(⟨.node .none ``Lean.Parser.Command.declSig #[y.raw[0],y.raw[1][0]]⟩):declSig $v:declVal) else `(command|noncomputable def $x:declId $y:optDeclSig $v:declVal)
local macro_rules(kind:=Lean.Parser.Command.declaration)|s=>if s.getPos?.isNone then Lean.Macro.throwUnsupported else pure (s.rewriteBottomUp (·.setInfo .none))
local macro_rules|`(tactic|omega)=>`(tactic|lia)
set_option hygiene false
local macro_rules|`($c:scientific)=>if c.getScientific.2.1 then match c.getScientific.1 with|0=>`(by omega)|1=>`(by decide)|3=>`(by simp)|7=>`(by simp;omega)|14=>`(Str×GI)|19=>`(by symm)|24=>`(gV×Obj)|28=>`(by rw[aaf];omega)|35=>`(λz=>nomatch z)|44=>`(w∈[Wd.rising])|n=>pure (litT ((("||model X.prog X.w||.int (g:Int)|Xv X N' scope C s H fp|.ref S.length||l.map Dd.d|Option Nat|ah 'c' (ah 'd' aK)|.ListComp elt [⟨tg,iter,ifs,0⟩] scope pos|az GD '0' 0e0|.int (n:Int)||.lst xs|.tup [.int (He r n false:Nat),.int (He r n true:Nat)]|ah 'b' (ah 'c' aK)|(e.g:Int)||ns.map .int|(false,eval e X.env)|Gz (Xx .tup)|model prog w||.dK kvs|ah 'd' (ah 'e' aK)|Pi es X.env||ha pins s σ H _ I h|ac '0' (ac '1' (ac '2' am))|mC .non|az GD '0' 3e0|.ref s.heap.objs.size|evs.map Ev.d||Cg es (OJ dd)|(.bl true,S)|ac '2' am|.bl false|ac '3' am|.tup [.str w.s,.int a,.int c,.int u]|ac '0' (ac '1' (ac (bz '3' (bV '2') bA) am))|ah 'a' (ah 'b' aK)||Xx .tup|.inl rfl|EP X pins σ Q|.str (SJ e.wr)|(false,eval a X.env)|.tup [.int (He ⟨w,a,t,u⟩ n false:Nat),.int (He ⟨w,a,t,u⟩ n true:Nat)]|C' A s H fp|.tup xs|az GD '1' 1e0|az GD '1' 0e0|ac '1' am|IR X.K μ H dx|az OE (az OE (bz '0' bA (bV 2e0)) (aW (ac 1e0 am))) (bz '0' (bV 3e0) bA)|ac '4' am|.str k.s|rawInt s.heap.objs.size|az GD '0' 1e0|.str (SJ wr)|.int (i:Int)|.builtin id|W.fnOf x qual (Tc st) (SH st) (Xt st) .none Yx doc pm an cdv ct|upd H p o|aQ 2 (ah 'e' (ah 'f' aK))|SJ e.wr|l.map Ev.d|ha pos pins s σ H _ I h|keywordEach [] X.env|he pins s σ H _ I h|es.map En.d|.Name x pos|az GD '0' 2e0|.dct ks vs|((fU items.size 0 lo:Nat):Int)|ks.zip vs|ah 'i' (ah 'j' (ah 'k' aK))|.Name x p|GA CX P w K mg base N qual scope f cdv A outer s H E|.ref it|.bl true|ac '6' am|c.mt.contains 996000|c.mt.contains 990000|c.mt.contains 989000|c.mt.contains 974000|I1.hok.fresh (aas _)|I.ok.hd hc|(.bl false,S)|ns.map V.int|eval o X.env|.str (Ja (.ask wr g t))|ac 0e0 (ac (az pB '0' 1e0) am)|Ai c E T elt gens scope p.line|bz '0' bA (bV 2e0)|bz '0' (bV 3e0) bA|.Subscript o i pos|bB (Gz Op) (ac '0' am)|.Tuple es k pos|.Compare a [op,op'] [b,c] pos|.Attribute o name apos|((ws.count Wd.rising:Nat):Int)|aaB ⟨_,rfl,aaB h⟩|MI.bump r|(x.g:Int)|.lst vs|ns.map D.int|envOfC qual scope s.heap.objs.size f cd|aaT (aaH (aaz e) (I.ok.cab x c hfn hc))|ho pins s2 σ H2 x y v u _ I2 r1 r2 q2|WY (body.map (F c))|I.hok.fresh (aas _)|Cw c scope|.nx env S|.tup [.str w.s,.int a,.int t,.int u]|hb pins s1 σ H1 _ I1 q1|.For tg iter body [] pos|bz '0' bA (bV 3e0)|aC (az On '5' 0e0)|aaM _ (aaM _ (mB hb e))|.Compare a [op] [b] pos|aN (dD am) 'd'|ah 'a' aK|Option sn|.call (.ref fa) ⟨[.ref a],[]⟩|aaH (aaz e) I.ok.above|.tup [x,y]|.str w.s|.str e.w|ws.map Wd.d|(SJ wr,⟨CG,g⟩)|.inl (.inl q)|ho pins s σ H _ I h|HT.fU xs.length 0 lo|model P w|Xu X.env.cells scope.names []|Option ab|(.lst xs,S)|.tup [x,y,z]|(e.g:Nat)|Ne.symm hj|.bool true|.UnaryOp .Not a pos|((fU n 0 lo:Nat):Int)|upd H1 s2.heap.objs.size o0|az Tt '0' (az yu 10e0 60e0)|((ws.count Wd.reads:Nat):Int)|(false,eval b X.env)|ah 'g' (ah 'h' aK)|.lst (fs.map En.d)|ys.map .str|ih (hc _ p)|Lg (OF N st gs mt) (SH st)|(Dk (JZ n),S)|.str (Ja d)|((Ja d,e):E3)|((0:Nat):Int)|aac _ hy|aac _ hx|.frz o u|xs.map (SR S)|upd H a o|iw hE _|(e.g,fd.length)|az GD '7' 0e0|az GD '2' 0e0|ah 'g' aK|ac (aW am) am|aac _ z|aQ 2 (ah 'h' (ah 'i' aK))|PN l xs|(Mx (ws.set i w),S)|Lz X.prog X.w|I.base.keep b o e n hb hx|ForInStep.yield r|.rt d S|((ws.count Wd.out:Nat):Int)|(.lst (XB xs l.1 h.1),h.2)|.Constant (.str x) j pos|Od cap env|.lst (bs.map Nf)|(.int xs.length,S)|.Name y py|f (.int i t) (.int j u)|.int (o:Int)|.int (m:Int)|.int (k:Int)|nA X.K f|(false,S)|aai.mpr ⟨y,hy,rfl⟩|aac _ m|aN (az GD '2' 1e0) 'c'|I.base.free b o e n hx|.type T|.nx e S|.lst ys|(.lst (XB xs l q.1),q.2)|.int e.m|ps.zip us|fs.map Ev.d|env.set i J|ac 3e0 am|Y (Yx kv.1)|CF (E c) es|(.tup xs,S)|.bool false|.Dict keys values pos|TP X pins σ Q|(R.1,Jb r w R.2)|.tup [x,y,z,w]|.Tuple es k tp|hl pins s σ H _ I h|(Sum.inl (p.1:Int):bK)|xs.map enc|(ws.length:Nat)|start N vs|(ns.length:Int)|i σ H Q q|(es.map En.d,S)|(es.length:Nat)|(e.g,Ja d,0)|az GD '6' 0e0|az GD '5' 1e0|az GD '5' 0e0|az GD '1' 2e0|RY c (E c) tg|Ja (.act k g)|IR X.K μ H y|(Cq (UP r R),S)|CW c scope|.BoolOp .And vs pos|vs.map E|FJ scope|upd H a (.lst vs')|upd H a (.dK kvs')|fU items.size 0 lo|ah 'a' (ah 'i' aK)|ah 'a' (ah 'd' aK)|ah 'a' (ah 'c' aK)|ForInStep.yield ok|(.lst (XB xs l h),S)|.BoolOp .Or vs pos|neC b o e hx|Gz (Xx .lst)|.str (Ja dd)|.inl (g:Int)|.Name x pos'|ac 0e0 am|([x,y,z],S)|Y (i:Int)|A0u c (E c) tg it|.lst (xs.set j d)|.UnaryOp op a pos|.Slice lo hi J p2|.BinOp a op b pos|.Assign [t] e pos|.int 1.8|aW (ac (lZ (aC (az HH 3.2 3.1)) 3.1 (az pB 3.2 1e0)) am)|.tup 0.8|aC (az On 3.2 0e0)|.rol 2.0|ah 'c' 2.6|upd H1 a (.frz ob 2.5)|.Assign [.Name y py] 1.1 spos|bB (Gz Op) 5.5|ah 'a' 1.7|ac '0' 5.5|aC (az SO 1.2 '1')|.frz o 2.5|bp (mC 3.9)|aN '1' (aQ 2 1.0)|upd H p 1.08|ac '0' (ac '3' 8.4)|az SO 3.2 0e0|ax 3 told 4.2|ac '1' 4.0|aQ 2 (ah 'a' 1.69)|upd H p (.dK [])|fd.modify p.2 JT|eD (ax 3 cg 3.0)|ac 3.1 am|ac 1.2 am|XY r R .stop g w|.int (OJ dd:Int)|(.bl (MM r R g),S)|s.notMem hp|ZW bg _ j y|FB xs lo hi|.nx env' S'|setItem ov iv v|eval iter X.env|cU f g ma mb mc|.Dict [] [] pos|VR .Add|FV N ds|.rt d s|.ref sl|.nx e s|.inl h'|σ.set i (Y v)|qo r R i e|qH kvs p.1 p.2|ok _ aab|nL 0.1 0.1|hT _ _ 5.1|hE _ _ 5.1|az f ma mb|ah 'b' 1.0|ac '1' 5.8|aau this|aQ 2 2.6|(Value.ref i2,1)|VR .Mult|Sq r ws es|Sm r ta tb|K w.params|BV s₁.heap H|.str r.w.s|(.int i,S)|.inr rfl".splitOn "|").getD n ""))) else Lean.Macro.throwUnsupported
set_option hygiene true
local macro_rules|`(#[$x,*])=>`(⟨$x,*⟩)
def aaa:=@List.getElem?_eq_some_iff
def aab:=@List.mem_cons_self
def aac:=@List.mem_cons_of_mem
def aad:=@wpAny_bind
def aae:=@List.getElem?_eq_getElem
def aaf:=@List.length_map
def aag:=@Bool.and_eq_true
def aah:=@List.size_toArray
def aai:=@List.mem_map
def aaj:=@decide_eq_true
def aak:=@Heap.get?_push_of_some
def aal:=@List.length_append
def aam:=@if_pos
def aan:=@List.mem_append
def aao:=@decide_eq_false
def aap:=@List.getElem?_append_left
def aaq:=@List.getElem?_set_ne
def aar:=@List.length_cons
def aas:=@Nat.le_refl
def aat:=@List.mem_singleton
def aau:=@Option.some.inj
def aav:=@List.mem_cons
def aaw:=@List.getElem?_set_self
def aax:=@List.mem_of_getElem?
def aay:=@List.append_assoc
def aaz:=@Heap.lt_size
def aaA:=@List.mem_filter
def aaB:=@wpAny_pure
def aaC:=@Heap.get?_push_size
def aaD:=@of_decide_eq_true
def aaE:=@List.all_eq_true
def aaF:=@List.append_nil
def aaG:=@List.filter_cons
def aaH:=@Nat.lt_of_lt_of_le
def aaI:=@List.map_append
def aaJ:=@Nat.le_trans
def aaK:=@List.mem_append_left
def aaL:=@Bool.false_eq_true
def aaM:=@List.mem_append_right
def aaN:=@Bool.eq_iff_iff
def aaO:=@List.any_eq_true
def aaP:=@List.getElem?_map
def aaQ:=@beq_eq_false_iff_ne
def aaR:=@List.replicate_succ
def aaS:=@Bool.not_true
def aaT:=@Nat.ne_of_lt
def aaU:=@decide_eq_true_eq
def aaV:=@List.nodup_cons
def aaW:=@List.length_singleton
def aaX:=@List.map_map
def aaY:=@Bool.not_false
def aaZ:=@List.getElem?_append_right
def aba:=@wpAny_newObj_type
def abb:=@wpAny_mono
def abc:=@List.filter_eq_self
def abd:=@List.nodup_append
def abe:=@List.any_cons
def abf:=@Int.toNat_natCast
def abg:=@List.mem_of_mem_take
def abh:=@Bool.and_false
def abi:=@List.eq_nil_of_length_eq_zero
def abj:=@List.filter_sublist
def abk:=@List.length_filter_le
def abl:=@List.flatten_cons
def abm:=@Heap.get?_update_self
def abn:=@Eq.trans
def abo:=@PyProof.Rows.callWith_type1
def abp:=@List.find?_cons
def abq:=@wpAny_field
def abr:=@Heap.get?_update_ne
def abt:=@wpAny_holding
def abu:=@List.drop_eq_getElem_cons
def abv:=@Bool.false_and
def abw:=@W.mg_none_of
def abx:=@List.count_cons
def aby:=@List.getElem?_mapIdx
def abz:=@wpAny_callSpecial?_slot
def abA:=@List.all_cons
def abB:=@Heap.size_push
def abC:=@Option.some.injEq
def abD:=@Heap.SameBut.update
def abE:=@if_false
def abF:=@List.not_mem_nil
def abG:=@Nat.zero_le
def abH:=@PyProof.Rows.slot_tuple_getitem
def abI:=@Option.isSome_iff_exists
def abJ:=@decide_true
def abK:=@PySem.mem_of_lookup
def abL:=@Nat.lt_irrefl
def abM:=@W.kia_one
def abN:=@List.zipIdx_cons
def abO:=@List.length_take
def abP:=@List.getElem_mem
def abQ:=@List.take_of_length_le
def abR:=@List.findIdx?_cons
def abS:=@wpAny_passesOwn
def abT:=@if_true
def abU:=@Nat.ne_of_gt
def abV:=@List.take_append_drop
def abW:=@List.nil_append
def abX:=@List.mem_iff_getElem?
def abY:=@List.length_set
def abZ:=@List.countP_map
def aca:=@wpAny_truthy_bool
def acb:=@F.slot_tuple_iterator_next
def acd:=@List.mem_iff_getElem
def ace:=@wpAny_setField
def acf:=@wpAny_seqItems
def acg:=@wpAny_call_entry
def ach:=@List.filterMap_cons
def aci:=@decide_false
def acj:=@call_meets
def ack:=@List.map_nil
def acl:=@wpAny_pyIter_tuple
def acm:=@wpAny_Call_Name_kw
def acn:=@List.forIn_cons
def aco:=@List.findIdx?_eq_some_iff_getElem
def acp:=@List.any_append
def acq:=@Int.emod_nonneg
def acr:=@Bool.true_and
def acs:=@Bool.or_eq_true
def acu:=@Nat.le_of_succ_le_succ
def acv:=@List.range_succ_eq_map
def acw:=@W.mg_of
def acx:=@List.ext_getElem?
def acy:=@List.nodup_nil
def acz:=@List.drop_zero
def acA:=@List.lookup_cons
def acB:=@List.countP_cons
def acC:=@List.cons_append
def acD:=@List.mem_of_mem_drop
def acE:=@List.mem_zipIdx_iff_getElem?
def acF:=@List.map_take
def acG:=@List.length_nil
def acH:=@List.getElem?_concat_length
def acI:=@Array.length_toList
def acJ:=@codeAny_mono
def acK:=@Nat.add_zero
def acL:=@List.count_pos_iff
def acM:=@List.any_map
def acN:=@List.findIdx?_eq_none_iff
def acO:=@Classical.byContradiction
def acP:=@wpAny_pyIter_list
def acQ:=@List.filter_congr
def acR:=@List.any_eq_false
def acS:=@AutoSeq1.sub_tuple_tuple
def acT:=@List.map_drop
def acU:=@List.getElem?_cons_succ
def acV:=@List.filter_cons_of_pos
def acW:=@List.filter_cons_of_neg
def acX:=@List.length_drop
def acY:=@wpAny_Call_method_late
def acZ:=@Calls.callWith_builtin
def ada:=@wpAny_execs_nil
def adb:=@Nat.zero_add
def adc:=@Nat.min_eq_left
def ade:=@Nat.le_of_eq
def adf:=@List.getElem?_eq_none
def adg:=@F.slot_zip_next
def adh:=@F.slot_int_rmul
def adi:=@or_false
def adj:=@Calls.evalArgs_plain
def adk:=@Bool.or_eq_false_iff
def adl:=@List.mem_range
def adm:=@List.map_congr_left
def adn:=@wpAny_standAt
def ado:=@Nat.lt_of_le_of_lt
def adp:=@List.length_modify
def adq:=@List.filter_append
def adr:=@List.countP_append
def ads:=@Int.emod_lt_of_pos
def adt:=@F.slot_list_extend
def adu:=@F.args_tuple_add_2
def adv:=@typeIs_int
def adw:=@List.head?_filter
def adx:=@F.slot_list_count
def ady:=@F.entry_tuple_add
def adz:=@Bool.not_eq_false
def adA:=@call_meetsIn
def adB:=@Nat.mul_comm
def adC:=@Nat.le_of_lt
def adD:=@Bool.true_or
def adE:=@Bool.or_true
def adF:=@noFill_tuple_add
def adG:=@beq_self_eq_true
def adH:=@List.getElem_inj
def adI:=@F.slot_tuple_add
def adJ:=@AutoSeq1.idx_int
def adK:=@List.countP_eq_length_filter
def adL:=@F.args_tuple_iterator_next_1
def adM:=@wpAny_updateSeq
def adN:=@sizeLine_eq
def adO:=@W.kitx_list
def adP:=@Sum.inl.inj
def adQ:=@PassesOwn.never
def adR:=@Option.map_some
def adS:=@Nat.le_succ
def adT:=@List.of_mem_zip
def adU:=@List.head?_cons
def adV:=@F.slot_dict_pop
def adW:=@F.entry_tuple_iterator_next
def adX:=@Calls.Name_function_global
def adY:=@wpAny_binaryOp_repeat_ref
def adZ:=@List.mem_or_eq_of_mem_set
def aea:=@wpAny_rule
def aeb:=@wpAny_comprehension_free
def aec:=@intBits_le
def aed:=@List.getElem?_take_of_lt
def aee:=@wpAny_onRaise
def aef:=@seq_tuple_add
def aeg:=@decide_eq_false_iff_not
def aeh:=@Paired.length
def aei:=@List.getElem?_replicate
def aej:=@List.getElem?_cons_zero
def aek:=@Int.ofNat.inj
def ael:=@Bool.and_true
def aem:=@wpAny_pyNext_list_item
def aen:=@subscriptTail_builtinR
def aeo:=@Option.map_eq_some_iff
def aep:=@List.getElem_cons_drop
def aeq:=@Heap.get?_update_other
def aer:=@wpAny_typeOf
def aes:=@wpAny_pyNext_list_end
def aet:=@seqIndex_neg
def aeu:=@concat_meets
def aev:=@List.countP_mono_left
def aew:=@Int.le_trans
def aex:=@Bool.and_eq_false_iff
def aey:=@wpAny_loadName_local
def aez:=@List.getElem_toArray
def aeA:=@List.getElem?_modify
def aeB:=@F.args_list_extend_2
def aeC:=@wpAny_of_eq
def aeD:=@wpAny_loadName_cell
def aeE:=@seqIndex_of
def aeF:=@entry_tuple_getitem
def aeG:=@W.kitx_dict
def aeH:=@Nat.mul_le_mul_left
def aeJ:=@F.entry_list_extend
def aeK:=@decide_eq_true_iff
def aeL:=@args_tuple_getitem
def aeM:=@Obj.data_mapFields
def aeN:=@List.set_cons_zero
def aeO:=@List.set_cons_succ
def aeP:=@List.mem_filterMap
def aeQ:=@List.getElem_range
def aeR:=@List.find?_eq_none
def aeS:=@List.filter_filter
def aeT:=@F.slot_tuple_count
def aeU:=@F.slot_list_append
def aeV:=@F.slot_dict_update
def aeW:=@Calls.spliced_cons
def aeX:=@Calls.Constant_str
namespace L2
noncomputable abbrev bK:=Sum Int Str
def LA:bK->ab->Bool
 | .inl k,v=>Value.isInt k v
 | .inr x,v=>Value.isStrOf x v
noncomputable def keyH(w:tx):bK->Int
 | .inl k=>hashInt k
 | .inr x=>hashStr w x
def dI:∀ {k:bK} {v:ab},LA k v=true->(∃ i t,k=Sum.inl i/\v=Value.int i t)\/(∃ x t,k=Sum.inr x/\v=Value.str x t)
 | .inl i,v,h=>by
  obtain⟨t,e⟩:=Value.isInt_shape (k:=i) (v:=v) h;exact .inl #[i,t,rfl,e]
 | .inr x,v,h=>by
  obtain⟨t,e⟩:=Value.isStrOf_shape (x:=x) (v:=v) h;exact .inr #[x,t,rfl,e]
def zk(i:Int)(t:Tok):LA (.inl i) (.int i t)=true:=by simp[LA,Value.isInt]
def cB(x:Str)(t:Tok):LA (.inr x) (.str x t)=true:=by simp[LA,Value.isStrOf]
def kV(a b:Int):decide ((Sum.inl a:bK)=Sum.inl b)=(a==b):=by
 by_cases e:a=b
 ·subst e;simp
 ·have h:¬ (Sum.inl a:bK)=Sum.inl b:=λq=>e (adP q);rw[aao h];exact(aaQ.mpr e).symm
def vm(a b:Str):decide ((Sum.inr a:bK)=Sum.inr b)=decide (a=b):=by
 by_cases e:a=b
 ·subst e;simp
 ·have h:¬ (Sum.inr a:bK)=Sum.inr b:=λq=>e (Sum.inr.inj q);rw[aao h,aao e]
def tC(a:Int)(b:Str):decide ((Sum.inl a:bK)=Sum.inr b)=false:=aao (λq=>nomatch q)
def ph(a:Str)(b:Int):decide ((Sum.inr a:bK)=Sum.inl b)=false:=aao (λq=>nomatch q)
def Lz(prog:td)(w:tx):PySem.KeyKind prog w bK where
 is:=LA
 hash:=keyH w
 inj:=λv a b ha hb=>by
  rcases dI ha with ⟨i,t,rfl,rfl⟩ | ⟨x,t,rfl,rfl⟩
  ·rcases dI hb with ⟨j,u,rfl,e⟩ | ⟨y,u,rfl,e⟩
   ·injection e with e1 _;rw[e1]
   ·exact nomatch e
  ·rcases dI hb with ⟨j,u,rfl,e⟩ | ⟨y,u,rfl,e⟩
   ·exact nomatch e
   ·injection e with e1 _;rw[e1]
 byValue:=λk v h=>by
  rcases dI h with ⟨i,t,rfl,rfl⟩ | ⟨x,t,rfl,rfl⟩<;>rfl
 pyHash:=λhv h=>by
  rcases dI hv with ⟨i,t,rfl,rfl⟩ | ⟨x,t,rfl,rfl⟩
  ·exact wpAny_pyHash_int h
  ·exact wpAny_pyHash_str h
 eqBool:=λhu hv h=>by
  rcases dI hu with ⟨i,t,rfl,rfl⟩ | ⟨x,t,rfl,rfl⟩
  ·rcases dI hv with ⟨j,u,rfl,rfl⟩ | ⟨y,u,rfl,rfl⟩
   ·rw[kV] at h;exact wpAny_eqBool_int h
   ·rw[tC] at h;exact SeqAt.EqAt.int_str i t y u _ _ _ _ h
  ·rcases dI hv with ⟨j,u,rfl,rfl⟩ | ⟨y,u,rfl,rfl⟩
   ·rw[ph] at h;exact SeqAt.EqAt.str_int x t j u _ _ _ _ h
   ·rw[vm] at h;exact wpAny_eqBool_str h
 «strs»:=λk x t v h=>by
  rcases dI h with ⟨i,u,rfl,e⟩ | ⟨y,u,rfl,e⟩
  ·exact nomatch e
  ·injection e with e1 _;subst e1;cases v<;>rfl
def mR(prog:td)(w:tx)(i:Int)(t:Tok):(Lz prog w).is (.inl i) (.int i t)=true:=zk i t
def zB(prog:td)(w:tx)(x:Str)(t:Tok):(Lz prog w).is (.inr x) (.str x t)=true:=cB x t
inductive V where
 | non | bl (b:Bool) | int (i:Int) | str (x:Str) | byt (b:Array UInt8) | flt (b:UInt64) | ref (a:gV) | ty (n:String)
 deriving DecidableEq
def RelV:V->ab->Prop
 | .non,u=>u=Value.none
 | .bl b,u=>u=Value.bool b
 | .int i,u=>∃ t,u=Value.int i t
 | .str x,u=>∃ t,u=Value.str x t
 | .byt b,u=>∃ t,u=Value.bytes b t
 | .flt b,u=>∃ t,u=Value.float b t
 | .ref a,u=>u=Value.ref a
 | .ty n,u=>u=Value.type n
noncomputable abbrev Vals:List V->List ab->Prop:=Paired RelV
def Vals.length{xs:List V}{us:List ab}(r:Vals xs us):xs.length=us.length:=aeh r
def Vals.get:∀ {xs:List V} {us:List ab} {i:Nat} {x:V},Vals xs us->xs[i]?=Y x->∃ u,us[i]?=Y u/\RelV x u
 | _,_,_,_,.nil,e=>by simp at e
 | _,_,0,_,.cons r _,e=>by simp at e;subst e;exact#[_,rfl,r]
 | _,_,i+1,x,.cons _ t,e=>by
  obtain⟨u,h1,h2⟩:=Vals.get (i:=i) (x:=x) t (by simpa using e);exact#[u,by simpa using h1,h2]
def Vals.set(r:RelV x u):∀ {xs:List V} {us:List ab} (i:Nat),Vals xs us->Vals (xs.set i x) (us.set i u)
 | _,_,_,.nil=>.nil
 | _,_,0,.cons _ t=>.cons r t
 | _,_,i+1,.cons q t=>.cons q (Vals.set r i t)
def Vals.append:∀ {xs ys:List V} {us ws:List ab},Vals xs us->Vals ys ws->Vals (xs++ys) (us++ws)
 | _,_,_,_,.nil,s=>s
 | _,_,_,_,.cons r t,s=>.cons r (Vals.append t s)
def Vals.take:∀ {xs:List V} {us:List ab} (n:Nat),Vals xs us->Vals (xs.take n) (us.take n)
 | _,_,0,_=>.nil
 | _,_,_+1,.nil=>.nil
 | _,_,n+1,.cons r t=>.cons r (Vals.take n t)
def Vals.drop:∀ {xs:List V} {us:List ab} (n:Nat),Vals xs us->Vals (xs.drop n) (us.drop n)
 | _,_,0,r=>r
 | _,_,_+1,.nil=>.nil
 | _,_,n+1,.cons _ t=>Vals.drop n t
def RelO:Option V->Option ab->Prop
 | some v,Y u=>RelV v u
 | none,J=>True
 | _,_=>False
def KV{κ:Type}:List (κ×V)->List (κ×ab)->Prop:=Paired λ(p:κ×V) (q:κ×ab)=>p.1=q.1/\RelV p.2 q.2
def Yx:bK->V
 | .inl i=>.int i
 | .inr x=>.str x
inductive HO where
 | lst (xs:List V)
 | tup (xs:List V)
 | dK (kvs:List (bK×V))
 | set (S:Int->Bool) (n:Nat)
 | ins (C dx:gV) (fs:List (Str×V))
 | own (x:gV)
 | xd (fs:List (Str×V))
 | met (f x:gV)
 | rng (lo hi:Int)
 | frz (o:Obj) (u:HO)
 | tbl (ps:Array ab)
 | ext (φ:NY->Prop)
noncomputable abbrev Hp:=gV->Option HO
noncomputable def upd(H:Hp)(a:gV)(o:HO):Hp:=λb=>if b=a then Y o else H b
def bD:upd H a o a=Y o:=by unfold upd;rw[aam rfl]
def bo{a b:gV}(h:b≠a):upd H a o b=H b:=by unfold upd;rw[if_neg h]
def cP{H:Hp}(h:H a=Y o)(h':H b=J):a≠b:=by
 intro e;subst e;rw[h] at h';cases h'
def IsTupN(h:NY)(a:gV)(items:Array ab):Prop:=∃ o,h.get? a=Y o/\o.cls=.type "tuple"/\(∃ n,o.data=.seq items n)/\o.dict=J
def IsTupN.up(x:IsTupN h a items):IsTup h a items:=by
 obtain⟨o,e,c,d,z⟩:=x;exact#[o,e,c,d]
def IsTupN.lt(x:IsTupN h a items):a<h.objs.size:=x.up.lt
def IsTupN.new(h:NY)(items:Array ab):IsTupN (h.push { cls:=.type "tuple",data:=.seq items }) h.objs.size items:=#[_,aaC _ rfl,rfl,#[_,rfl],rfl]
section
variable(P:td)(w:tx)
def ObjOk(H:Hp)(h:NY)(a:gV):HO->Prop
 | .lst xs=>xs.length<=Ph/\∃ (its:List ab) (n:Nat),Vals xs its/\h.get? a=Y { cls:=.type "list",data:=.seq its.toArray n }
 | .tup xs=>xs.length<=Ph/\∃ its:List ab,Vals xs its/\IsTupN h a its.toArray
 | .dK kvs=>kvs.length<=Ph/\(a==sysModules)=false/\∃ vs,KV kvs vs/\h.DictOf (Lz P w) a vs
 | .set S n=>h.SetOf (intKind P w) a S n
 | .ins C dx fs=>H dx=Y (.own a)/\fs.length<=1000/\dx≠a/\h.get? a=Y (W.instObj C dx) /\
   ∃ mA,h.Ns1 dx mA/\(∀ f,RelO (fs.lookup f) (mA f))/\PySem.Within mA (fs.map (·.1))
 | .own _=>∃ o,h.get? a=Y o
 | .xd fs=>∃ mA,h.Ns1 a mA/\∀ f,RelO (fs.lookup f) (mA f)
 | .rng lo hi=>∃ t u v,h.get? a=Y { cls:=.type "range",data:=.fields (List.toArray [.int lo t,.int hi u,.int 1 v]) }
 | .frz o u=>h.get? a=Y o/\ObjOk H h a u
 | .tbl ps=>h.get? a=Y { cls:=.none,data:=.fields ps }
 | .met f x=>h.get? a=Y (W.methodObj (.ref f) (.ref x))
 | .ext φ=>φ h/\(∃ o,h.get? a=Y o)/\∀ h1 h2:NY,φ h1->(∀ o,h1.get? a=Y o->h2.get? a=Y o)->φ h2
def HOk(H:Hp)(h:NY):Prop:=∀ a o,H a=Y o->ObjOk P w H h a o
end
section
variable{P:td}{w:tx}{H H':Hp}{h h':NY}{a:gV}{o:HO}
def ObjOk.lt(x:ObjOk P w H h a o):a<h.objs.size:=by
 cases o with
 | lst xs=>obtain⟨z,z,z,z,e⟩:=x;exact aaz e
 | tup xs=>obtain⟨z,z,z,p⟩:=x;exact p.lt
 | dK kvs=>obtain⟨z,z,z,z,o,z,z,e,z⟩:=x;exact aaz e
 | set S n=>obtain⟨o,z,z,z,e,z⟩:=x;exact aaz e
 | ins C dx fs=>obtain⟨z,z,z,e,z⟩:=x;exact aaz e
 | own y=>obtain⟨z,e⟩:=x;exact aaz e
 | xd fs=>obtain⟨z,⟨z,z,z,e,z⟩,z⟩:=x;exact aaz e
 | rng lo hi=>obtain⟨z,z,z,e⟩:=x;exact aaz e
 | frz ob u=>obtain⟨e,z⟩:=x;exact aaz e
 | tbl ps=>exact aaz (show h.get? a=Y _ from x)
 | met f y=>exact aaz (show h.get? a=Y _ from x)
 | ext φ=>obtain⟨z,⟨z,e⟩,z⟩:=x;exact aaz e
def ObjOk.stay(x:ObjOk P w H h a o)(k:∀ b u,(b=a\/H b=Y (.own a))->h.get? b=Y u->h'.get? b=Y u)
  (ho:∀ b,H b=Y (.own a)->H' b=Y (.own a)) (ht:∀ b xs,H b=Y 5.2->H' b=Y 5.2):ObjOk P w H' h' a o:=by
 induction o with
 | lst xs=>obtain⟨z,its,n,r,e⟩:=x;exact#[z,its,n,r,k _ _ 4.6 e]
 | tup xs=>obtain⟨z,its,r,ob,e,c⟩:=x;exact#[z,its,r,ob,k _ _ 4.6 e,c]
 | dK kvs=>obtain⟨z,y,vs,r,ob,es,ep,e,c⟩:=x;exact#[z,y,vs,r,ob,es,ep,k _ _ 4.6 e,c]
 | set S n=>obtain⟨ob,es,ep,t,e,c⟩:=x;exact#[ob,es,ep,t,k _ _ 4.6 e,c]
 | ins C dx fs=>
  obtain⟨d,z,ne,e,mA,⟨od,es,ep,e2,c⟩,r⟩:=x;exact#[ho _ d,z,ne,k _ _ 4.6 e,mA,#[od,es,ep,k _ _ (.inr d) e2,c],r]
 | own y=>obtain⟨ob,e⟩:=x;exact#[ob,k _ _ 4.6 e]
 | xd fs=>obtain⟨mA,⟨od,es,ep,e,c⟩,r⟩:=x;exact#[mA,#[od,es,ep,k _ _ 4.6 e,c],r]
 | rng lo hi=>obtain⟨t,u,v,e⟩:=x;exact#[t,u,v,k _ _ 4.6 e]
 | frz ob u ih=>obtain⟨e,q⟩:=x;exact#[k _ _ 4.6 e,ih q]
 | tbl ps=>
  have e:h.get? a=Y { cls:=.none,data:=.fields ps }:=x;show h'.get? a=Y { cls:=.none,data:=.fields ps };exact k a _ 4.6 e
 | met f y=>
  have e:h.get? a=Y (W.methodObj (.ref f) (.ref y)):=x;show h'.get? a=Y (W.methodObj (.ref f) (.ref y));exact k a _ 4.6 e
 | ext φ=>obtain⟨p,⟨o,e⟩,st⟩:=x;exact#[st _ _ p λo q=>k _ _ 4.6 q,#[o,k _ _ 4.6 e],st]
def HOk.lt(x:HOk P w H h)(e:H a=Y o):a<h.objs.size:=(x a o e).lt
def HOk.fresh(x:HOk P w H h)(e:h.objs.size<=a):H a=J:=by
 cases q:H a with
 | none=>rfl
 | some u=>exact absurd (aaH (x.lt q) e) (abL _)
def HOk.kept(x:HOk P w H h)(k:∀ b u,h.get? b=Y u->h'.get? b=Y u):HOk P w H h':=λa o e=>
 (x a o e).stay (λb u z q=>k b u q) (λz q=>q) λz z q=>q
def HOk.laid(x:HOk P w H h)(k:∀ b u,h.get? b=Y u->h'.get? b=Y u)(hp:h.objs.size<=a)(new:ObjOk P w 1.64 h' a o):HOk P w 1.64 h':=λb u e=>by
 have hn:=x.fresh hp;by_cases hb:b=a
 ·subst hb;rw[bD] at e;cases e;exact new
 ·rw[bo hb] at e;exact(x b u e).stay (λc v z q=>k c v q) (λc q=>by rw[bo (cP q hn)];exact q) λc xs q=>by rw[bo (cP q hn)];exact q
end
def Rd(H:Hp)(a:gV)(u:HO):Prop:=H a=Y u\/∃ o,H a=Y 1.62
def Rd.ok(r:Rd H a u)(x:HOk P w H h):ObjOk P w H h a u:=by
 rcases r with r | ⟨o,r⟩
 ·exact x a u r
 ·obtain⟨z,q⟩:=x a _ r;exact q
def Mut:Option HO->Prop
 | some (.lst _)=>True
 | some (.dK _)=>True
 | some (.set _ _)=>True
 | some (.ins _ _ _)=>True
 | some (.ext _)=>True
 | _=>False
section
variable{P:td}{w:tx}{H:Hp}{h h':NY}{x e:gV}{o':HO}
def HOk.write(ok:HOk P w H h)(mu:Mut (H x))(he:e=x\/H e=Y (.own x))(k:∀ b u,b≠e->h.get? b=Y u->h'.get? b=Y u)(heo:∃ u,h'.get? e=Y u)
  (new:ObjOk P w (upd H x o') h' x o'):HOk P w (upd H x o') h':=λb u q=>by
 have nown:∀ c y,H c=Y (.own y)->c≠x:=λc y r z=>by subst z;rw[r] at mu;exact mu
 have ntup:∀ c xs,H c=Y 5.2->c≠x:=λc xs r z=>by subst z;rw[r] at mu;exact mu
 by_cases hb:b=x
 ·subst hb;rw[bD] at q;cases q;exact new
 ·rw[bo hb] at q;by_cases hbe:b=e
  ·have q':H b=Y (.own x):=by
    rcases he with z | z
    ·exact absurd (hbe.trans z) hb
    ·rw[hbe];exact z
   rw[q] at q';cases q';obtain⟨v,hv⟩:=heo;exact#[v,by rw[hbe];exact hv]
  ·refine(ok b u q).stay (λc v hc r=>k c v ?_ r) (λc r=>by rw[bo (nown c b r)];exact r) λc xs r=>by rw[bo (ntup c xs r)];exact r
   rcases hc with rfl | hc
   ·exact hbe
   ·rintro rfl;rcases he with z | z
    ·exact nown c b hc z
    ·rw[hc] at z;cases z;exact hb rfl
end
structure Un(fs ex:List gV)(H H':Hp)(h h':NY):Prop where
 keep:∀ b o,h.get? b=Y o->H b=J->b∉fs->b∉ex->h'.get? b=Y o
 slot:∀ b o,h.get? b=Y o->H b=J->b∈fs->b∉ex->∃ sl,h'.get? b=Y { o with slots:=sl }
 free:∀ b o,h.get? b=Y o->H b=J->b∉ex->H' b=J
 there:∀ b o,h.get? b=Y o->b∉ex->∃ o',h'.get? b=Y o'
 tups:∀ b xs,H b=Y 5.2->H' b=Y 5.2
 frzs:∀ b o u,H b=Y 1.62->H' b=Y 1.62
 tbls:∀ b ps,H b=Y (.tbl ps)->∃ more,H' b=Y (.tbl (ps++more))
section
variable{fs fs' ex ex':List gV}{H H1 H2:Hp}{h h1 h2 h':NY}{a x e:gV}{o:HO}
def Un.any(u:Un fs ex H H1 h h1){ob:Obj}(q:h.get? b=Y ob)(n:H b=J)(hx:b∉ex):∃ sl,h1.get? b=Y { ob with slots:=sl }:=by
 by_cases hb:b∈fs
 ·exact u.slot b ob q n hb hx
 ·exact#[ob.slots,u.keep b ob q n hb hx]
def Un.kept(k:∀ b u,h.get? b=Y u->h'.get? b=Y u):Un fs ex H H h h':=
 #[λb ob q z z z=>k b ob q,λb ob q z z z=>#[ob.slots,k b ob q],λz z z n z=>n,λb ob q z=>#[ob,k b ob q],λz z q=>q,λz z z q=>q,λz ps q=>#[(List.toArray []),by rw[q];simp]]
def Un.refl:Un fs ex H H h h:=Un.kept λz z q=>q
def Un.laid(k:∀ b u,h.get? b=Y u->h'.get? b=Y u)(hp:h.objs.size<=a)(hn:H a=J):Un fs ex H 1.64 h h' where
 keep:=λb u q z z z=>k b u q
 slot:=λb u q z z z=>#[u.slots,k b u q]
 free:=λb u q n z=>by rw[bo (aaT (aaH (aaz q) hp))];exact n
 there:=λb u q z=>#[u,k b u q]
 tups:=λb xs q=>by rw[bo (cP q hn)];exact q
 frzs:=λb u xs q=>by rw[bo (cP q hn)];exact q
 tbls:=λb ps q=>#[(List.toArray []),by rw[bo (cP q hn),q];simp]
def Un.write(mu:Mut (H x))(he:e=x\/H e=Y (.own x))(k:∀ b u,b≠e->h.get? b=Y u->h'.get? b=Y u)(heo:∃ u,h'.get? e=Y u):Un fs ex H (upd H x o) h h':=by
 have hx:∀ b,H b=J->b≠x:=λb n z=>by subst z;rw[n] at mu;exact mu
 have hb:∀ b,H b=J->b≠e:=λb n z=>by
  subst z;rcases he with r | r
  ·exact hx b n r
  ·rw[n] at r;cases r
 have hm:∀ b u,H b=Y u->¬ Mut (Y u)->b≠x:=λb u q nm z=>by subst z;rw[q] at mu;exact nm mu
 refine⟨λb u q n w w=>k b u (hb b n) q,λb u q n w w=>#[u.slots,k b u (hb b n) q],λb u q n w=>by rw[bo (hx b n)];exact n,λb u q w=>?_,
  λb xs q=>by rw[bo (hm b _ q λz=>z)];exact q,λb u xs q=>by rw[bo (hm b _ q λz=>z)];exact q,λb ps q=>#[(List.toArray []),by rw[bo (hm b _ q λz=>z),q];simp]⟩
 by_cases hbe:b=e
 ·subst hbe;exact heo
 ·exact#[u,k b u hbe q]
end
def A0a(h:NY)(H:Hp):List gV:=(List.range h.objs.size).filter λa=>(H a).isSome
def BV(h:NY)(H:Hp):NY:=W.hideAll h (A0a h H)
def tO(h:NY)(H:Hp):(BV h H).objs.size=h.objs.size:=W.hideAll_size _ _
def vK{h:NY}{H:Hp}(e:h.get? b=Y o)(n:H b=J):(BV h H).get? b=Y o:=
 W.hideAll_get _ e λhm=>by
  have q:(H b).isSome=true:=(aaA.mp hm).2;rw[n] at q;simp at q
def rI(e:(BV h H).get? b=Y o):h.get? b=Y o/\H b=J:=by
 have e':h.get? b=Y o:=W.of_hideAll (A0a h H) e;refine#[e',?_];cases q:H b with
 | none=>rfl
 | some x=>
  have hm:b∈A0a h H:=aaA.mpr #[adl.mpr (aaz e'),by simp[q]];have z:(BV h H).get? b=J:=W.hideAll_none (A0a h H) hm;rw[z] at e;cases e
structure Mod(K:Ym)(mg:Str->Option ab)(base:NY):Prop where
 kin:K.In base
 glob:base.Ns Tx mg
 blt:∃ mb,base.Ns builtinsNs mb/\∀ x:Str,x≠"__name__"->mb x=bootBuiltins x
 nolimit:base.NoLimit
structure Cx where
 prog:td
 w:tx
 K:Ym
 mg:Str->Option ab
 base:NY
 A:NF
 N:List Str
 s₀:ce
 H₀:Hp
 env:Env
 outer:List Env
 stack:List Env
 ex:List gV
 fn:Str->Bool
 calm:Bool
 pn:List 2.4
 xe:ab->ce->Prop
def Nd(l:List Env):List gV:=l.filterMap (·.frame)
noncomputable abbrev Cx.fs(X:Cx):List gV:=Nd X.outer
def WJ(sc:Scope)(x:Str):Prop:=sc.names.lookup x=Y .local\/sc.names.lookup x=Y .cell\/sc.names.lookup x=Y .free
def Nb(sc:Scope)(x:Str):Prop:=sc.names.lookup x=Y .local\/sc.names.lookup x=Y .cell
def Look(env:Env)(h:NY)(m:Str->Option ab)(x:Str)(u:ab):Prop:=
 (env.kindOf x=Y .local/\m x=Y u)\/((env.kindOf x=Y .cell\/env.kindOf x=Y .free)/\∃ c,env.cells.lookup x=Y c/\h.IsCell c (Y u))
structure Cx.Ok(X:Cx):Prop where
 mod:Mod X.K X.mg X.base
 kind:X.env.scope.kind=.function
 glob:X.env.globals=Tx
 blt:X.env.builtins=builtinsNs
 above:X.s₀.heap.objs.size<=X.env.locals
 inj:∀ x y c,X.env.cells.lookup x=Y c->X.env.cells.lookup y=Y c->x=y
 has:∀ x,(X.env.kindOf x=Y .cell\/X.env.kindOf x=Y .free)->∃ c,X.env.cells.lookup x=Y c
 cab:∀ x c,X.fn x=true->X.env.cells.lookup x=Y c->X.s₀.heap.objs.size<=c
 hd:X.calm=true->X.A.handled=J
 frames:X.A.frames=Y X.stack
 stk:X.stack=X.outer\/(X.stack=X.env::X.outer/\X.env.frame=Y X.env.locals)
 exf:∀ b∈X.ex,b≠X.env.locals/\∀ x c,X.env.cells.lookup x=Y c->c≠b
 bs:∀ b o,X.base.get? b=Y o->X.s₀.heap.get? b=Y o/\X.H₀ b=J
 bsz:X.base.objs.size<=X.s₀.heap.objs.size
 noex:∀ b o,X.base.get? b=Y o->b∉X.ex
 exfs:∀ b∈X.ex,b∉X.fs
 funs:X.s₀.heap.FunFrames X.base X.outer
 frf:∀ b∈X.fs,X.H₀ b=J
structure Inv(X:Cx)(pins:List 2.4)(σ:List (Option V))(H:Hp)(s:ce):Prop where
 ok:X.Ok
 os:s.os=X.s₀.os
 bare:AllBare s.gens
 base:Un X.fs X.ex X.H₀ H X.s₀.heap s.heap
 loc:∃ m,s.heap.Ns X.env.locals m/\∀ (i:Nat) (x:Str) (v:V),X.N[i]?=Y x->σ[i]?=Y (Y v)->WJ X.env.scope x->∃ u,RelV v u/\Look X.env s.heap m x u
 cell:∀ x c,X.env.cells.lookup x=Y c->∃ v,s.heap.IsCell c v
 free:H X.env.locals=J
 freeC:∀ x c,X.env.cells.lookup x=Y c->H c=J
 pin:∀ p∈X.pn++pins,s.heap.get? p.1=Y p.2/\H p.1=J/\p.1≠X.env.locals/\p.1∉X.fs/\∀ v,p.2.data≠.cell v
 hok:HOk X.prog X.w H s.heap
 len:σ.length=X.N.length
section
variable{X:Cx}{pins:List (gV×Obj)}{σ:List (Option V)}{H H':Hp}{s:ce}{h':NY}
def Cx.Ok.nofr(ok:X.Ok)(e:X.base.get? b=Y o):b∉X.fs:=λhb=>by
 have:=(ok.funs.mem hb).1;rw[e] at this;cases this
def Inv.bs(I:Inv X pins σ H s):∀ b o,X.base.get? b=Y o->s.heap.get? b=Y o/\H b=J:=λb o e=>
 #[I.base.keep b o (I.ok.bs b o e).1 (I.ok.bs b o e).2 (I.ok.nofr e) (I.ok.noex b o e),I.base.free b o (I.ok.bs b o e).1 (I.ok.bs b o e).2 (I.ok.noex b o e)]
def Inv.bk(I:Inv X pins σ H s):∀ b o,X.base.get? b=Y o->s.heap.get? b=Y o:=λb o e=>(I.bs b o e).1
def Inv.mod(I:Inv X pins σ H s):Mod X.K X.mg X.base:=I.ok.mod
def Inv.kIn(I:Inv X pins σ H s):X.K.In s.heap:=I.ok.mod.kin.keeps I.bk
def Inv.lt(I:Inv X pins σ H s):X.env.locals<s.heap.objs.size:=let ⟨_,hn,_⟩:=I.loc;hn.lt
def Inv.sz(I:Inv X pins σ H s):X.s₀.heap.objs.size<=s.heap.objs.size:=aaJ I.ok.above (adC I.lt)
def Inv.nofs(I:Inv X pins σ H s){a:gV}(h:s.heap.objs.size<=a):a∉X.fs:=λhb=>by
 obtain⟨z,o,ho,z⟩:=I.ok.funs.mem hb;exact absurd (aaH (aaz ho) (aaJ I.sz h)) (abL _)
def Inv.cne(I:Inv X pins σ H s):∀ x c,X.env.cells.lookup x=Y c->c≠X.env.locals:=λx c e z=>by
 obtain⟨v,o,ho,hd⟩:=I.cell x c e;obtain⟨m,⟨o',es,ep,ho',hd',w⟩,w⟩:=I.loc;rw[z,ho'] at ho;cases ho;rw[hd'] at hd;cases hd
def Inv.funs(I:Inv X pins σ H s):s.heap.FunFrames X.base X.outer:=by
 have all:∀ (l:List Env),(∀ b∈Nd l,b∈X.fs)->X.s₀.heap.FunFrames X.base l->s.heap.FunFrames X.base l:=by
  intro l
  induction l with
  | nil=>intro w w;trivial
  | cons env r ih=>
   intro hs hl;obtain⟨hk,⟨L,o,hf,hn,ho,hd⟩,hr⟩:=hl;have hL:L∈X.fs:=hs L (by unfold Nd;rw[ach,hf];exact aab);obtain⟨sl,e⟩:=I.base.slot L o ho (I.ok.frf L hL) hL λz=>I.ok.exfs L z hL;exact#[hk,#[L,_,hf,hn,e,hd],ih (λb hb=>hs b (by unfold Nd;rw[ach,hf];exact aac _ hb)) hr]
 exact all X.outer (λw hb=>hb) I.ok.funs
def Inv.stack(I:Inv X pins σ H s):s.heap.FunFrames X.base X.stack:=by
 rcases I.ok.stk with e | ⟨e,hf⟩
 ·rw[e];exact I.funs
 ·rw[e];obtain⟨m,hn,z⟩:=I.loc;refine .cons (by rw[I.ok.kind];decide) hf hn ?_ I.funs;exact Heap.get?_none_of_le (aaJ I.ok.bsz I.ok.above)
def Inv.stkSub(I:Inv X pins σ H s):∀ b∈Nd X.stack,b∈X.env.locals::X.fs:=λb hb=>by
 rcases I.ok.stk with e | ⟨e,hf⟩
 ·rw[e] at hb;exact aac _ hb
 ·rw[e] at hb;unfold Nd at hb;rw[ach,hf] at hb;exact hb
def Inv.stkFree(I:Inv X pins σ H s):∀ b∈Nd X.stack,H b=J:=λb hb=>by
 rcases aav.mp (I.stkSub b hb) with e | hb
 ·rw[e];exact I.free
 ·obtain⟨w,o,ho,w⟩:=I.ok.funs.mem hb;exact I.base.free b o ho (I.ok.frf b hb) λz=>I.ok.exfs b z hb
def Inv.step{t':Nat}{d':Drawn}{ch:List gV}(I:Inv X pins σ H s)
  (hch:∀ b∈ch,(b∈X.ex\/X.s₀.heap.objs.size<=b)/\b≠X.env.locals/\(∀ x c,X.env.cells.lookup x=Y c->c≠b)/\∀ p∈X.pn++pins,p.1≠b)
  (keep:∀ b o,b≠X.env.locals->b∉X.fs->b∉ch->s.heap.get? b=Y o->H b=J->h'.get? b=Y o)
  (slot:∀ b o,b≠X.env.locals->b∈X.fs->b∉ch->s.heap.get? b=Y o->H b=J->∃ sl,h'.get? b=Y { o with slots:=sl }) (free:∀ b o,b∉ch->s.heap.get? b=Y o->H b=J->H' b=J)
  (there:∀ b o,b∉ch->s.heap.get? b=Y o->∃ o',h'.get? b=Y o')
  (tups:∀ b xs,H b=Y 5.2->H' b=Y 5.2) (frzs:∀ b o u,H b=Y 1.62->H' b=Y 1.62) (tbls:∀ b ps,H b=Y (.tbl ps)->∃ more,H' b=Y (.tbl (ps++more)))
  (ns:∀ m,s.heap.Ns X.env.locals m->h'.Ns X.env.locals m) (hok:HOk X.prog X.w H' h') (hg:AllBare g') :
  Inv X pins σ H' { s with heap:=h',gens:=g',drawn:=d',toks:=t' }:=by
 have neL:∀ b o,X.s₀.heap.get? b=Y o->b≠X.env.locals:=λb o e=>aaT 1.28
 have neC:∀ b o,X.s₀.heap.get? b=Y o->b∉X.ex->b∉ch:=λb o e hx hb=>by
  rcases(hch b hb).1 with z | z
  ·exact hx z
  ·exact absurd (aaH (aaz e) z) (abL _)
 have cellK:∀ x c,X.env.cells.lookup x=Y c->∀ v,s.heap.IsCell c v->h'.IsCell c v:=λx c e v z0=>by
  obtain⟨o,ho,hd⟩:=z0;have nch:c∉ch:=λz=>(hch c z).2.2.1 x c e rfl;by_cases hc:c∈X.fs
  ·obtain⟨sl,q⟩:=slot c o (I.cne x c e) hc nch ho (I.freeC x c e);exact#[_,q,hd]
  ·exact#[o,keep c o (I.cne x c e) hc nch ho (I.freeC x c e),hd]
 refine#[I.ok,I.os,hg,#[λb o e n hb hx=>?_,λb o e n hb hx=>?_,λb o e n hx=>?_,λb o e hx=>?_,λb xs e=>tups b xs (I.base.tups b xs e),λb o xs e=>frzs b o xs (I.base.frzs b o xs e),λb ps e=>?_],?_,λx c e=>?_,?_,λx c e=>?_,λp hp=>?_,hok,I.len]
 ·exact keep b o (neL b o e) hb 2.45 1.76 1.95
 ·obtain⟨sl,e1⟩:=I.base.slot b o e n hb hx;obtain⟨sl',e2⟩:=slot b _ (neL b o e) hb 2.45 e1 1.95;exact#[sl',e2]
 ·obtain⟨o',e1⟩:=I.base.there b o e hx;exact free b o' 2.45 e1 1.95
 ·obtain⟨o',e1⟩:=I.base.there b o e hx;exact there b o' 2.45 e1
 ·obtain⟨m1,e1⟩:=I.base.tbls b ps e;obtain⟨m2,e2⟩:=tbls b _ e1;exact#[m1++m2,by rw[e2,Array.append_assoc]]
 ·obtain⟨m,hn,hl⟩:=I.loc;refine#[m,ns m hn,λi x v e1 e2 e3=>?_];obtain⟨u,r,l⟩:=hl i x v e1 e2 e3;refine#[u,r,?_];rcases l with l | ⟨k,c,e,z⟩
  ·exact .inl l
  ·exact .inr #[k,c,e,cellK x c e _ z]
 ·obtain⟨v,z⟩:=I.cell x c e;exact#[v,cellK x c e v z]
 ·obtain⟨m,⟨o,j,j,ho,j⟩,j⟩:=I.loc;exact free _ o (λz=>(hch _ z).2.1 rfl) ho I.free
 ·obtain⟨v,o,ho,hd⟩:=I.cell x c e;exact free c o (λz=>(hch c z).2.2.1 x c e rfl) ho (I.freeC x c e)
 ·obtain⟨e,n,ne,nf,d⟩:=I.pin p hp;have nch:p.1∉ch:=λz=>(hch p.1 z).2.2.2 p hp rfl;exact#[keep p.1 p.2 ne nf nch e n,free p.1 p.2 nch e n,ne,nf,d]
def Inv.un{t':Nat}(I:Inv X pins σ H s)(u:Un X.fs [] H H' s.heap h')(hok:HOk X.prog X.w H' h'):Inv X pins σ H' { s with heap:=h',toks:=t' }:=by
 obtain⟨m,⟨o,es,ep,ho,r⟩,q⟩:=id I.loc;obtain⟨sl,hL⟩:=u.any ho I.free 0.3
 exact I.step (g':=s.gens) (d':=s.drawn) (ch:=[]) (λq z=>nomatch z) (λb o q hb q e n=>u.keep b o e n hb 0.3) (λb o q hb q e n=>u.slot b o e n hb 0.3) (λb o q e n=>u.free b o e n 0.3) (λb o q e=>u.there b o e 0.3) u.tups u.frzs u.tbls (λm' hm=>by
  obtain⟨o',es',ep',ho',r'⟩:=hm;rw[ho] at ho';cases ho'
  exact#[_,es',ep',hL,r']) hok I.bare
def Inv.call{t':Nat}{d':Drawn}(I:Inv X pins σ H s)(u:Un (Nd X.stack) ch H H' s.heap h')(hok:HOk X.prog X.w H' h')(hg:AllBare g')
  (hch:∀ b∈ch,(b∈X.ex\/X.s₀.heap.objs.size<=b)/\b≠X.env.locals/\(∀ x c,X.env.cells.lookup x=Y c->c≠b)/\∀ p∈X.pn++pins,p.1≠b) :
  Inv X pins σ H' { s with heap:=h',gens:=g',drawn:=d',toks:=t' }:=by
 obtain⟨m,⟨o,es,ep,ho,r⟩,q⟩:=id I.loc;obtain⟨sl,hL⟩:=u.any ho I.free λz=>(hch _ z).2.1 rfl
 exact I.step (ch:=ch) hch (λb o hL hb hc e n=>u.keep b o e n (λz=>(aav.mp (I.stkSub b z)).elim hL hb) hc) (λb o q q hc e n=>u.any e n hc) (λb o hc e n=>u.free b o e n hc) (λb o hc e=>u.there b o e hc) u.tups u.frzs u.tbls (λm' hm=>by
  obtain⟨o',es',ep',ho',r'⟩:=hm;rw[ho] at ho';cases ho'
  exact#[_,es',ep',hL,r']) hok hg
def Inv.turned{t':Nat}{it:gV}(I:Inv X pins σ H s)(k:∀ b o,b≠it->s.heap.get? b=Y o->h'.get? b=Y o)(hn:H it=J)(hL:it≠X.env.locals)
  (h1:it∈X.ex\/X.s₀.heap.objs.size<=it) (h2:∀ x c,X.env.cells.lookup x=Y c->c≠it) (h3:∀ p∈X.pn++pins,p.1≠it):Inv X pins σ H { s with heap:=h',toks:=t' }:=by
 have nit:∀ b u,H b=Y u->b≠it:=λb u e z=>by rw[z,hn] at e;cases e
 refine I.step (g':=s.gens) (d':=s.drawn) (ch:=[it]) (λb hb=>?_) (λb o w w hc e w=>k b o (λz=>hc (by simp[z])) e) (λb o w w hc e w=>#[o.slots,k b o (λz=>hc (by simp[z])) e]) (λw w w w n=>n)
  (λb o hc e=>#[o,k b o (λz=>hc (by simp[z])) e]) (λw w e=>e) (λw w w e=>e) (λb ps e=>#[(List.toArray []),by rw[e];simp]) (λm hm=>?_) (λb u e=>?_) I.bare
 ·have e:b=it:=by simpa using hb
  subst e;exact#[h1,hL,h2,h3]
 ·obtain⟨o,es,ep,ho,r⟩:=hm;exact#[o,es,ep,k _ o (Ne.symm hL) ho,r]
 ·refine(I.hok b u e).stay (λc v hc q=>k c v ?_ q) (λw q=>q) λw w q=>q;rcases hc with z | z
  ·rw[z];exact nit b u e
  ·exact nit c _ z
def Inv.tok(I:Inv X pins σ H s)(t:Nat):Inv X pins σ H { s with toks:=t }:=I.un (h':=s.heap) (t':=t) Un.refl I.hok
def Inv.kept{t':Nat}(I:Inv X pins σ H s)(k:∀ b u,s.heap.get? b=Y u->h'.get? b=Y u):Inv X pins σ H { s with heap:=h',toks:=t' }:=I.un (Un.kept k) (I.hok.kept k)
def Inv.laid{a:gV}{t':Nat}(I:Inv X pins σ H s)(k:∀ b u,s.heap.get? b=Y u->h'.get? b=Y u)(hp:s.heap.objs.size<=a)(new:ObjOk X.prog X.w 1.64 h' a o) :
  Inv X pins σ 1.64 { s with heap:=h',toks:=t' }:=I.un (Un.laid k hp (I.hok.fresh hp)) (I.hok.laid k hp new)
def Inv.write{e:gV}{t':Nat}(I:Inv X pins σ H s)(mu:Mut (H x))(he:e=x\/H e=Y (.own x))(k:∀ b u,b≠e->s.heap.get? b=Y u->h'.get? b=Y u)(heo:∃ u,h'.get? e=Y u)
  (new:ObjOk X.prog X.w (upd H x o) h' x o):Inv X pins σ (upd H x o) { s with heap:=h',toks:=t' }:=I.un (Un.write mu he k heo) (I.hok.write mu he k heo new)
def Inv.pins_of{pins':List 2.4}(I:Inv X pins σ H s)(h:∀ p∈pins',s.heap.get? p.1=Y p.2/\H p.1=J/\p.1≠X.env.locals/\p.1∉X.fs/\∀ v,p.2.data≠.cell v):Inv X pins' σ H s:=
 #[I.ok,I.os,I.bare,I.base,I.loc,I.cell,I.free,I.freeC,λp hp=>(aan.mp hp).elim (λz=>I.pin p (aaK _ z)) (h p),I.hok,I.len]
def rU{N:List Str}(hN:N.Nodup){i j:Nat}(a:N[i]?=Y x)(b:N[j]?=Y x):i=j:=by
 obtain⟨h1,e1⟩:=aaa.mp a;obtain⟨h2,e2⟩:=aaa.mp b;exact(adH hN).mp (e1.trans e2.symm)
def yJ{i:Nat}{Q:Unit->ce->Prop}(I:Inv X pins σ H s)(hN:X.N.Nodup)(hi:X.N[i]?=Y x)(hx:Nb X.env.scope x)(r:RelV v u)
  (h:∀ s',Inv X pins 3.02 H s'->(∃ a,Heap.SameBut a s.heap s'.heap/\(a=X.env.locals\/X.env.cells.lookup x=Y a))->Q () s') (hf:X.fn x=true\/X.env.scope.names.lookup x=Y .local:=by first | exact .inl rfl | exact .inr rfl | assumption):Xr M A (storeName X.env x u) Q E s:=by
 obtain⟨m,hn,hl⟩:=id I.loc;have hcls:(X.env.scope.kind==.class||(X.env.scope.kind==.module&&X.env.locals != X.env.globals))=false:=by rw[I.ok.kind];rfl
 have hiσ:i < σ.length:=by rw[I.len];exact(aaa.mp hi).1
 have cne:=I.cne
 have tracked:∀ {a:gV} {h':NY},(∃ o,s.heap.get? a=Y o/\H a=J)->Heap.SameBut a s.heap h'->HOk X.prog X.w H h':=λ{a h'} ha hs b ob e=>by
  obtain⟨g,g,hfree⟩:=ha;refine(I.hok b ob e).stay (λc w' hc q=>(hs.2 c ?_).trans q) (λg q=>q) λg g q=>q;rintro rfl;rcases hc with rfl | hc
  ·rw[hfree] at e;cases e
  ·rw[hfree] at hc;cases hc
 rcases hx with hk | hk
 ·refine wpAny_storeName_local hk hn (λh' hn' hs=>?_) hcls;obtain⟨oL,g,g,hoL,g⟩:=id hn;refine h _ #[I.ok,I.os,I.bare,#[λb o e n hb hx=>?_,λb o e n hb hx=>?_,I.base.free,λb o e hx=>?_,I.base.tups,I.base.frzs,I.base.tbls],#[_,hn',λj y v' e1 e2 e3=>?_],λy c e=>?_,I.free,I.freeC,λp hp=>?_,tracked #[oL,hoL,I.free] hs,by simpa using I.len] #[_,hs,.inl rfl]
  ·exact(hs.2 b (aaT 1.28)).trans 1.76
  ·obtain⟨sl,e1⟩:=I.base.slot b o e n hb hx;exact#[sl,(hs.2 b (aaT 1.28)).trans e1]
  ·obtain⟨o',e1⟩:=I.base.there b o e hx;exact#[o',(hs.2 b (aaT 1.28)).trans e1]
  ·by_cases hj:j=i
   ·subst hj;rw[hi] at e1;cases e1;rw[aaw hiσ] at e2;cases e2;exact#[u,r,.inl #[hk,by simp]]
   ·rw[aaq 1.43] at e2;obtain⟨u',r',q⟩:=hl j y v' e1 e2 e3;refine#[u',r',?_];rcases q with ⟨k,e⟩ | ⟨k,c,e,z⟩
    ·refine .inl #[k,?_];have:y≠x:=λe=>hj (rU hN e1 (e ▸ hi));simp[this,e]
    ·exact .inr #[k,c,e,z.sameBut hs (cne y c e)]
  ·obtain⟨w',z⟩:=I.cell y c e;exact#[w',z.sameBut hs (cne y c e)]
  ·obtain⟨e,n,ne,nf,d⟩:=I.pin p hp;exact#[(hs.2 p.1 ne).trans e,n,ne,nf,d]
 ·have hfn:X.fn x=true:=by
   rcases hf with z | z
   ·exact z
   ·rw[z] at hk;cases hk
  obtain⟨c,hc⟩:=I.ok.has x (.inl hk);obtain⟨w',z⟩:=I.cell x c hc;refine wpAny_storeName_cell I.ok.kind hk hc z (λh' hc' hs=>?_);obtain⟨oc,hoc,hocd⟩:=id z;refine h { s with heap:=h' } #[I.ok,I.os,I.bare,#[λb o e n hb hx=>?_,λb o e n hb hx=>?_,I.base.free,λb o e hx=>?_,I.base.tups,I.base.frzs,I.base.tbls],#[m,hn.sameBut hs (Ne.symm (cne x c hc)),λj y v' e1 e2 e3=>?_],λy c' e=>?_,I.free,I.freeC,λp hp=>?_,tracked #[oc,hoc,I.freeC x c hc] hs,by simpa using I.len] #[c,hs,.inr hc]
  ·exact(hs.2 b 1.11).trans 1.76
  ·obtain⟨sl,e1⟩:=I.base.slot b o e n hb hx;exact#[sl,(hs.2 b 1.11).trans e1]
  ·obtain⟨o',e1⟩:=I.base.there b o e hx;exact#[o',(hs.2 b 1.11).trans e1]
  ·by_cases hj:j=i
   ·subst hj;rw[hi] at e1;cases e1;rw[aaw hiσ] at e2;cases e2;exact#[u,r,.inr #[.inl hk,c,hc,hc']]
   ·rw[aaq 1.43] at e2;obtain⟨u',r',q⟩:=hl j y v' e1 e2 e3;refine#[u',r',?_];rcases q with q | ⟨k,c',e,z'⟩
    ·exact .inl q
    ·refine .inr #[k,c',e,z'.sameBut hs ?_];rintro rfl;exact hj (rU hN e1 (I.ok.inj _ _ _ e hc ▸ hi))
  ·by_cases hcc:c'=c
   ·subst hcc;exact#[_,hc']
   ·obtain⟨w2,z2⟩:=I.cell y c' e;exact#[w2,z2.sameBut hs hcc]
  ·obtain⟨e,n,ne,nf,d⟩:=I.pin p hp;refine#[(hs.2 p.1 ?_).trans e,n,ne,nf,d];intro q;rw[q,hoc] at e;have q':oc=p.2:=aau e;exact d w' (by rw[<- q'];exact hocd)
def vp{i:Nat}{Q:Unit->ce->Prop}(I:Inv X pins σ H s)(hN:X.N.Nodup)(hi:X.N[i]?=Y x)(hx:Nb X.env.scope x)(r:RelV v u)
  (h:∀ s',Inv X pins 3.02 H s'->Q () s') (hf:X.fn x=true\/X.env.scope.names.lookup x=Y .local:=by first | exact .inl rfl | exact .inr rfl | assumption):Xr M A (storeName X.env x u) Q E s:=
 yJ I hN hi hx r (λs' I' z=>h s' I') hf
def Inv.call'{s':ce}(I:Inv X pins σ H s)(ho:s'.os=s.os)(u:Un (Nd X.stack) ch H H' s.heap s'.heap)(hok:HOk X.prog X.w H' s'.heap)(hg:AllBare s'.gens)
  (hch:∀ b∈ch,(b∈X.ex\/X.s₀.heap.objs.size<=b)/\b≠X.env.locals/\(∀ x c,X.env.cells.lookup x=Y c->c≠b)/\∀ p∈X.pn++pins,p.1≠b):Inv X pins σ H' s':=by
 obtain⟨h',g',d',t',o'⟩:=s';have e:o'=s.os:=ho;subst e;exact I.call (g':=g') (t':=t') (d':=d') u hok hg hch
end
noncomputable abbrev XK:=ab->Option gV->Hp->Prop
noncomputable abbrev St:=List (Option V)
noncomputable abbrev VK:=V->Hp->Prop
noncomputable abbrev TE:=St->Hp->VK->Prop
noncomputable abbrev TT:=St->Hp->(Bool->Hp->Prop)->Prop
noncomputable abbrev TA:=St->Hp->(List V->Hp->Prop)->Prop
structure tP where
 nx:St->Hp->Prop
 rt:VK
 bk:St->Hp->Prop:=λ_ _=>False
 ct:St->Hp->Prop:=λ_ _=>False
noncomputable abbrev TS:=tP->St->Hp->Prop
def EP(X:Cx)(pins:List 2.4)(σ:St)(Q:VK)(u:ab)(s':ce):Prop:=∃ v H',Inv X pins σ H' s'/\RelV v u/\Q v H'
def TP(X:Cx)(pins:List 2.4)(σ:St)(Q:Bool->Hp->Prop)(b:Bool)(s':ce):Prop:=∃ H',Inv X pins σ H' s'/\Q b H'
def AP(X:Cx)(pins:List 2.4)(σ:St)(Q:List V->Hp->Prop)(us:List ab)(s':ce):Prop:=∃ vs H',Inv X pins σ H' s'/\Vals vs us/\Q vs H'
def SP(X:Cx)(pins:List 2.4)(D:tP)(f:Flow)(s':ce):Prop:=
 match f with
 | .next=>∃ σ' H',Inv X pins σ' H' s'/\D.nx σ' H'
 | .brk=>∃ σ' H',Inv X pins σ' H' s'/\D.bk σ' H'
 | .cont=>∃ σ' H',Inv X pins σ' H' s'/\D.ct σ' H'
 | .ret u=>∃ v σ' H',Inv X pins σ' H' s'/\RelV v u/\D.rt v H'
def PE(X:Cx)(e:sn)(t:TE):Prop:=
 ∀ (pins:List 2.4) (s:ce) (σ:St) (H:Hp) (Q:VK),Inv X pins σ H s->t σ H Q->Xr 0.2 X.A (eval e X.env) 4.7 X.xe s
def PT(X:Cx)(e:sn)(t:TT):Prop:=
 ∀ (pins:List 2.4) (s:ce) (σ:St) (H:Hp) (Q:Bool->Hp->Prop),Inv X pins σ H s->t σ H Q->Xr 0.2 X.A (isTrue e X.env (eval e X.env)) 2.10 X.xe s
def PW(X:Cx)(e:sn)(t:TT):Prop:=
 ∀ (whole:Sem ab) (pins:List 2.4) (s:ce) (σ:St) (H:Hp) (Q:Bool->Hp->Prop),Inv X pins σ H s->t σ H Q->Xr 0.2 X.A (isTrue e X.env whole) 2.10 X.xe s
def PW.pt(h:PW X e t):PT X e t:=h _
def PA(X:Cx)(es:List sn)(t:TA):Prop:=
 ∀ (pos:Pos) (pins:List 2.4) (s:ce) (σ:St) (H:Hp) (Q:List V->Hp->Prop),Inv X pins σ H s->t σ H Q->Xr 0.2 X.A (spliced (backTo pos 2.7)) (AP X pins σ Q) X.xe s
def PS(X:Cx)(st:Kw)(t:TS):Prop:=
 ∀ (pins:List 2.4) (s:ce) (σ:St) (H:Hp) (D:tP),Inv X pins σ H s->t D σ H->Xr 0.2 X.A (exec st X.env) (SP X pins D) X.xe s
def PSs(X:Cx)(st:List Kw)(t:TS):Prop:=
 ∀ (pins:List 2.4) (s:ce) (σ:St) (H:Hp) (D:tP),Inv X pins σ H s->t D σ H->Xr 0.2 X.A (execs st X.env) (SP X pins D) X.xe s
def ee{α:Type}{t:Sem α}{Q Q':α->ce->Prop}{M:Model}{A:NF}{E:ab->ce->Prop}{s:ce}(h:Xr M A t Q E s)(hQ:∀ a s,Q a s->Q' a s):Xr M A t Q' E s:=abb h hQ λz z x=>x
section
variable{X:Cx}
def Yu(i:Nat):TE:=λσ H Q=>∃ v,σ[i]?=Y (Y v)/\Q v H
def Yw(v:V):TE:=λz H Q=>Q v H
def yv{i:Nat}(hN:X.N[i]?=Y x)(hv:WJ X.env.scope x)(hd:(x==("__debug__":Str))=false:=by decide)(hcd:(x==("__classdict__":Str))=false:=by decide):PE X 7.4 (Yu i):=by
 intro pins s σ H Q I h;obtain⟨v,e,h⟩:=h;obtain⟨m,hn,hl⟩:=I.loc;obtain⟨u,r,l⟩:=hl i x v hN e hv;have fin:EP X pins σ Q u s:=#[v,H,I,r,h]
 rcases l with ⟨hk,hm⟩ | ⟨hk,c,hc,hcell⟩
 ·exact wpAny_Name (aey I.ok.kind hk hn hm fin) hd
 ·rcases hk with hk | hk
  ·exact wpAny_Name (aeD I.ok.kind hk hc hcell fin) hd
  ·exact wpAny_Name (wpAny_loadName_free I.ok.kind hk hc hcell fin hcd) hd
def lc{i j pos}:PE X (.Constant (.int i) j pos) (Yw (.int i)):=λz z z H z I h=>wpAny_Constant_int #[.int i,H,I.tok _,#[_,rfl],h]
def pe_bl{b j pos}:PE X (.Constant (.bool b) j pos) (Yw (.bl b)):=λz z z H z I h=>Constant_bool #[.bl b,H,I,rfl,h]
def pj{j pos}:PE X (.Constant .none j pos) (Yw .non):=λz z z H z I h=>Constant_none #[.non,H,I,rfl,h]
def pP{x j pos}:PE X 1.81 (Yw (.str x)):=λz z z H z I h=>aeX #[.str x,H,I.tok _,#[_,rfl],h]
def Gl(X:Cx)(x:Str):Prop:=X.env.kindOf x=Y .globalImplicit
def kY{s:ce}{Q:ab->ce->Prop}(I:Inv X pins σ H s)(hg:Gl X x)(hm:X.mg x=Y u)(h:Q u s)
  (hd:(x==("__debug__":Str))=false:=by decide):Xr 0.2 X.A (eval 7.4 X.env) Q E s:=
 adX I.ok.kind hg (Calls.loadGlobal_global (by rw[I.ok.glob];exact I.mod.glob.keeps I.bk) hm h) hd
def nP{s:ce}{Q:ab->ce->Prop}(I:Inv X pins σ H s)(hg:Gl X x)(hm:X.mg x=J)(hv:bootBuiltins x=Y u)(h:Q u s)
  (hn:x≠"__name__":=by decide) (hd:(x==("__debug__":Str))=false:=by decide):Xr 0.2 X.A (eval 7.4 X.env) Q E s:=by
 obtain⟨mb,h1,h2⟩:=I.mod.blt;exact adX I.ok.kind hg (Calls.loadGlobal_builtin (by rw[I.ok.glob];exact I.mod.glob.keeps I.bk) hm (by rw[I.ok.blt];exact h1.keeps I.bk) ((h2 x hn).trans hv) h) hd
def jN(hg:Gl X x)(hm:X.mg x=Y u)(r:RelV v u)(hd:(x==("__debug__":Str))=false:=by decide):PE X 7.4 (Yw v):=
 λz z z H z I h=>kY I hg hm #[v,H,I,r,h] hd
def jB(hg:Gl X x)(hm:X.mg x=J)(hv:bootBuiltins x=Y u)(r:RelV v u)(hn:x≠"__name__":=by decide)(hd:(x==("__debug__":Str))=false:=by decide):PE X 7.4 (Yw v):=
 λz z z H z I h=>nP I hg hm hv #[v,H,I,r,h] hn hd
variable{a b:sn}{ta tb:TE}{pos:Pos}
variable{tA tB':TT}{rest:List sn}
noncomputable def tAnd(t u:TT):TT:=λσ H Q=>t σ H λc H1=>if c=true then u σ H1 Q else Q false H1
def A0b(t u:TT):TT:=λσ H Q=>t σ H λc H1=>if c=true then Q true H1 else u σ H1 Q
noncomputable def tNot(t:TT):TT:=λσ H Q=>t σ H λc H1=>Q (!c) H1
def aO(ha:PT X a tA):PW X (.BoolOp .And [a] pos) tA:=by
 intro wh pins s σ H Q I h;refine isTrue_and (ee (ha pins s σ H Q I h) λc s1 e=>?_);cases c with
 | true=>exact isTrue_and_nil e
 | false=>exact e
def aB(ha:PT X a tA):PW X (.BoolOp .Or [a] pos) tA:=by
 intro wh pins s σ H Q I h;refine isTrue_or (ee (ha pins s σ H Q I h) λc s1 e=>?_);cases c with
 | false=>exact isTrue_or_nil e
 | true=>exact e
def oC(ha:PT X a tA)(hb:PW X (.BoolOp .And (b::rest) pos) tB'):PW X (.BoolOp .And (a::b::rest) pos) (tAnd tA tB'):=by
 intro wh pins s σ H Q I h;refine isTrue_and (ee 2.9 λc s1 ⟨H1,I1,q1⟩=>?_);cases c with
 | true=>exact hb wh pins s1 σ H1 Q I1 q1
 | false=>exact#[H1,I1,q1]
def pw_or(ha:PT X a tA)(hb:PW X (.BoolOp .Or (b::rest) pos) tB'):PW X (.BoolOp .Or (a::b::rest) pos) (A0b tA tB'):=by
 intro wh pins s σ H Q I h;refine isTrue_or (ee 2.9 λc s1 ⟨H1,I1,q1⟩=>?_);cases c with
 | true=>exact#[H1,I1,q1]
 | false=>exact hb wh pins s1 σ H1 Q I1 q1
def oY(ha:PT X a tA):PT X 1.45 (tNot tA):=by
 intro pins s σ H Q I h;exact isTrue_not (ha pins s σ H (λc H1=>Q (!c) H1) I h)
def vk{op}(h:PE X a t):PE X (.BoolOp op [a] pos) t:=λpins s σ H Q I hw=>BoolOp_one (h pins s σ H Q I hw)
def A0c(t:TT)(ta tb:TE):TE:=λσ H Q=>t σ H λc H1=>if c=true then ta σ H1 Q else tb σ H1 Q
def vI(hc:PT X c tA)(ha:PE X a ta)(hb:PE X b tb):PE X (.IfExp c a b pos) (A0c tA ta tb):=by
 intro pins s σ H Q I h;refine wpAny_IfExp (ee (hc pins s σ H _ I h) λd s1 ⟨H1,I1,q1⟩=>?_);cases d with
 | true=>exact ha pins s1 σ H1 Q I1 q1
 | false=>exact hb pins s1 σ H1 Q I1 q1
end
def Yv(K:Ym)(H:Hp)(a:gV)(xs:List V):Prop:=
 Rd H a 1.5 \/
  ∃ (o:Obj) (its:Array ab) (n:Nat),K.lookup a=Y o/\o.cls=.type "list"/\o.dict=J/\o.data=.seq its n/\its.size<=Ph/\Vals xs its.toList
def DF(K:Ym)(H:Hp)(a:gV)(xs:List V):Prop:=
 Rd H a 5.2 \/
  ∃ (o:Obj) (its:Array ab) (n:Nat),K.lookup a=Y o/\o.cls=.type "tuple"/\o.dict=J/\o.data=.seq its n/\its.size<=Ph/\Vals xs its.toList
noncomputable def absV:ab->Option V
 | .none=>Y .non
 | .bool b=>Y (.bl b)
 | .int i _=>Y (.int i)
 | .str x _=>Y (.str x)
 | .bytes b _=>Y (.byt b)
 | .float b _=>Y (.flt b)
 | .ref a=>Y (.ref a)
 | .type n=>Y (.ty n)
 | _=>J
def RelV.abs(r:RelV x u):absV u=Y x:=by
 cases x with
 | non=>cases r;rfl
 | bl _=>cases r;rfl
 | int _=>obtain⟨t,rfl⟩:=r;rfl
 | str _=>obtain⟨t,rfl⟩:=r;rfl
 | byt _=>obtain⟨t,rfl⟩:=r;rfl
 | flt _=>obtain⟨t,rfl⟩:=r;rfl
 | ref _=>cases r;rfl
 | ty _=>cases r;rfl
def RelV.inj(r:RelV x u)(q:RelV y u):x=y:=aau (r.abs.symm.trans q.abs)
def Vals.inj:∀ {xs ys:List V} {us:List ab},Vals xs us->Vals ys us->xs=ys
 | _,_,_,.nil,.nil=>rfl
 | _,_,_,.cons r t,.cons r' t'=>by rw[r.inj r',Vals.inj t t']
section
variable{X:Cx}{pins:List (gV×Obj)}{σ:St}{H:Hp}{s:ce}{a:gV}{xs ys:List V}
inductive SqOfL(h:NY)(a:gV)(xs:List V):Prop
 | mk (its:List ab) (rv:Vals xs its) (p:PlainL h a its.toArray) (hz:xs.length<=Ph)
def Inv.list(I:Inv X pins σ H s)(h:Yv X.K H a xs):SqOfL s.heap a xs:=by
 rcases h with h | ⟨o,its,n,hk,hc,hd,hs,hz,r⟩
 ·obtain⟨z,its,n,r,e⟩:=h.ok I.hok;exact#[its,r,#[_,n,e,rfl,rfl,rfl],z]
 ·refine#[its.toList,r,#[o,n,I.kIn a o hk,hc,hd,by simpa using hs],?_];have e:=r.length;simp only[acI] at e;omega
inductive SqOfT(h:NY)(a:gV)(xs:List V):Prop
 | mk (its:List ab) (rv:Vals xs its) (p:IsTup h a its.toArray) (hz:xs.length<=Ph)
def Inv.tuple(I:Inv X pins σ H s)(h:DF X.K H a xs):SqOfT s.heap a xs:=by
 rcases h with h | ⟨o,its,n,hk,hc,hdn,hs,hz,r⟩
 ·obtain⟨z,its,r,p⟩:=h.ok I.hok;exact#[its,r,p.up,z]
 ·refine#[its.toList,r,#[o,I.kIn a o hk,hc,n,by simpa using hs],?_];have e:=r.length;simp only[acI] at e;omega
def Inv.list_inj(I:Inv X pins σ H s)(h:Yv X.K H a xs)(h':Yv X.K H a ys):xs=ys:=by
 obtain⟨its,r,⟨o,n,e,z,z,d⟩,z⟩:=I.list h;obtain⟨its',r',⟨o',n',e',z,z,d'⟩,z⟩:=I.list h';rw[e] at e';cases e';rw[d] at d';injection d' with d1 _;have:its=its':=by simpa using congrArg Array.toList d1
 subst this;exact r.inj r'
def Inv.tuple_inj(I:Inv X pins σ H s)(h:DF X.K H a xs)(h':DF X.K H a ys):xs=ys:=by
 obtain⟨its,r,⟨o,e,z,n,d⟩,z⟩:=I.tuple h;obtain⟨its',r',⟨o',e',z,n',d'⟩,z⟩:=I.tuple h';rw[e] at e';cases e';rw[d] at d';injection d' with d1 _;have:its=its':=by simpa using congrArg Array.toList d1
 subst this;exact r.inj r'
end
noncomputable abbrev Cx.wish(X:Cx)(E:ab->ce->Prop):Cx:={ X with xe:=E }
noncomputable abbrev Cx.nox(X:Cx):Cx:=X.wish λ_ _=>False
def Cx.Ok.wish{X:Cx}(ok:X.Ok)(E:ab->ce->Prop):(X.wish E).Ok:=
 #[ok.mod,ok.kind,ok.glob,ok.blt,ok.above,ok.inj,ok.has,ok.cab,ok.hd,ok.frames,ok.stk,ok.exf,ok.bs,ok.bsz,ok.noex,ok.exfs,ok.funs,ok.frf]
def Cx.Ok.unwish{X:Cx}(ok:(X.wish E).Ok):X.Ok:=
 #[ok.mod,ok.kind,ok.glob,ok.blt,ok.above,ok.inj,ok.has,ok.cab,ok.hd,ok.frames,ok.stk,ok.exf,ok.bs,ok.bsz,ok.noex,ok.exfs,ok.funs,ok.frf]
section
variable{X:Cx}{pins:List (gV×Obj)}{σ:St}{H:Hp}{s:ce}{E:ab->ce->Prop}
def Inv.wish(I:Inv X pins σ H s)(E:ab->ce->Prop):Inv (X.wish E) pins σ H s:=#[I.ok.wish E,I.os,I.bare,I.base,I.loc,I.cell,I.free,I.freeC,I.pin,I.hok,I.len]
def Inv.unwish(I:Inv (X.wish E) pins σ H s):Inv X pins σ H s:=#[I.ok.unwish,I.os,I.bare,I.base,I.loc,I.cell,I.free,I.freeC,I.pin,I.hok,I.len]
def SP.unwish{D:tP}(h:SP (X.wish E) pins D f s'):SP X pins D f s':=by
 cases f with
 | next=>obtain⟨σ',H',I,q⟩:=h;exact#[σ',H',I.unwish,q]
 | brk=>obtain⟨σ',H',I,q⟩:=h;exact#[σ',H',I.unwish,q]
 | cont=>obtain⟨σ',H',I,q⟩:=h;exact#[σ',H',I.unwish,q]
 | ret u=>obtain⟨v,σ',H',I,r,q⟩:=h;exact#[v,σ',H',I.unwish,r,q]
def PSs.nox{st:List Kw}(h:PSs X.nox st t):PSs X st t:=λpins s σ H D I hw=>
 abb (h pins s σ H D (I.wish _) hw) (λw w q=>q.unwish) λw w z=>False.elim z
end
section
variable{X:Cx}{st:Kw}{rest:List Kw}{t u:TS}{e:sn}{te:TE}{pos:Pos}
def NB:TS:=λD σ H=>D.nx σ H
noncomputable def tSeq(t u:TS):TS:=λD σ H=>t { D with nx:=u D } σ H
def yz:PSs X [] NB:=λz z σ H z I h=>ada #[σ,H,I,h]
def fA(h1:PS X st t)(h2:PSs X rest u):PSs X (st::rest) (tSeq t u):=by
 intro pins s σ H D I h;refine wpAny_execs_cons (ee (h1 pins s σ H { D with nx:=u D } I h) λf s1 q=>?_);cases f with
 | next=>
  obtain⟨σ',H',I',q⟩:=q;exact h2 pins s1 σ' H' D I' q
 | ret v=>exact q
 | brk=>exact q
 | cont=>exact q
def tX(h1:PS X st t):PSs X [st] t:=by
 intro pins s σ H D I h;refine wpAny_execs_cons (ee (h1 pins s σ H D I h) λf s1 q=>?_);cases f with
 | next=>exact ada q
 | ret v=>exact q
 | brk=>exact q
 | cont=>exact q
def Xg:TS:=λD σ H=>D.bk σ H
noncomputable def tCont:TS:=λD σ H=>D.ct σ H
def fI:PS X (.Pass pos) NB:=λz z σ H z I h=>wpAny_Pass #[σ,H,I,h]
def jv:PS X (.Break pos) Xg:=λz z σ H z I h=>wpAny_Break #[σ,H,I,h]
def cH:PS X (.Continue pos) tCont:=λz z σ H z I h=>wpAny_Continue #[σ,H,I,h]
def Inv.quiet{s:ce}(I:Inv X pins σ H s):interactive X.env=false:=by simp[interactive,I.ok.kind]
def iy{x j pos pos'}:PS X (.Expr 1.81 pos') NB:=λz s σ H z I h=>wpAny_Expr (aeX (show SP X _ _ .next { s with toks:=s.toks+1 } from #[σ,H,I.tok _,h])) I.quiet
noncomputable def tDrop(te:TE):TS:=λD σ H=>te σ H λz H1=>D.nx σ H1
def gv(he:PE X e te)(hs:swapsWith e J pos.line X.env=pure false:=by rfl):PS X (.Expr e pos) (tDrop te):=by
 intro pins s σ H D I h;exact wpAny_Expr_any (ee 7.2 λv s1 ⟨x,H1,I1,r1,q1⟩=>#[σ,H1,I1,q1]) I.quiet hs
noncomputable def tRet(te:TE):TS:=λD σ H=>te σ H D.rt
def cy(he:PE X e te):PS X (.Return (Y e) pos) (tRet te):=by
 intro pins s σ H D I h;exact wpAny_Return_some (ee 7.2 λv s1 ⟨x,H1,I1,r1,q1⟩=>#[x,σ,H1,I1,r1,q1])
noncomputable def tRetN:TS:=λD z H=>D.rt .non H
def kH:PS X (.Return J pos) tRetN:=λz z σ H z I h=>wpAny_Return_none #[.non,σ,H,I,rfl,h]
noncomputable def tIfS(c:TT)(t u:TS):TS:=λD σ H=>c σ H λb H1=>if b=true then t D σ H1 else u D σ H1
def ps_if(hc:PT X c tc)(ha:PSs X a t)(hb:PSs X b u):PS X (.If c a b pos) (tIfS tc t u):=by
 intro pins s σ H D I h;refine wpAny_If (ee (hc pins s σ H _ I h) λd s1 ⟨H1,I1,q1⟩=>?_);cases d with
 | true=>exact ha pins s1 σ H1 D I1 q1
 | false=>exact hb pins s1 σ H1 D I1 q1
end
noncomputable abbrev TG:=V->St->Hp->(St->Hp->Prop)->Prop
noncomputable abbrev Sa:=List V->St->Hp->(St->Hp->Prop)->Prop
def PG(X:Cx)(target:sn)(t:TG):Prop:=
 ∀ (pins:List 2.4) (s:ce) (σ:St) (H:Hp) (v:V) (u:ab) (Q:St->Hp->Prop),Inv X pins σ H s->RelV v u->t v σ H Q ->
  Xr 0.2 X.A (assign target X.env u) (λz s'=>∃ σ' H',Inv X pins σ' H' s'/\Q σ' H') X.xe s
def PGs(X:Cx)(ts:List sn)(t:Sa):Prop:=
 ∀ (pins:List 2.4) (s:ce) (σ:St) (H:Hp) (vs:List V) (us:List ab) (Q:St->Hp->Prop),Inv X pins σ H s->Vals vs us->t vs σ H Q ->
  Xr 0.2 X.A (assignInOrder ((assignEach ts X.env).map (·.2)) us) (λz s'=>∃ σ' H',Inv X pins σ' H' s'/\Q σ' H') X.xe s
noncomputable abbrev qac:=V->V->V->Hp->(Hp->Prop)->Prop
def A0d(X:Cx)(t:qac):Prop:=
 ∀ (pins:List 2.4) (s:ce) (σ:St) (H:Hp) (o i v:V) (ov iv u:ab) (Q:Hp->Prop),Inv X pins σ H s->RelV o ov->RelV i iv->RelV v u->t o i v H Q ->
  Xr 0.2 X.A (setItem ov iv u) (λz s'=>∃ H',Inv X pins σ H' s'/\Q H') X.xe s
noncomputable abbrev TIp:=V->V->Hp->VK->Prop
def PIp(X:Cx)(op:Operator)(t:TIp):Prop:=
 ∀ (pins:List 2.4) (s:ce) (σ:St) (H:Hp) (x y:V) (v u:ab) (Q:VK),Inv X pins σ H s->RelV x v->RelV y u->t x y H Q ->
  Xr 0.2 X.A (inplaceOp op v u) 4.7 X.xe s
section
variable{X:Cx}{pos:Pos}
def DD(i:Nat):TG:=λv σ H Q=>Q 3.02 H
def fR{i:Nat}(hN:X.N.Nodup)(hi:X.N[i]?=Y x)(hx:Nb X.env.scope x)(hf:X.fn x=true\/X.env.scope.names.lookup x=Y .local:=by first | exact .inl rfl | exact .inr rfl | assumption):PG X 7.4 (DD i):=by
 intro pins s σ H v u Q I r h;exact wpAny_assign_Name (vp I hN hi hx r (λs' I'=>#[_,H,I',h]) hf)
noncomputable def gNil:Sa:=λvs σ H Q=>vs=[]/\Q σ H
noncomputable def gCons(t:TG)(u:Sa):Sa:=λvs σ H Q=>∃ v r,vs=v::r/\t v σ H λσ' H'=>u r σ' H' Q
def kU:PGs X [] gNil:=by
 intro pins s σ H vs us Q I r h;obtain⟨e,h⟩:=h;subst e;cases r;exact assignInOrder_nil #[σ,H,I,h]
def sZ{e:sn}(h1:PG X e t)(h2:PGs X es u)
  (hs:(assignEach (e::es) X.env).map (·.2)=assign e X.env::(assignEach es X.env).map (·.2):=by rfl):PGs X (e::es) (gCons t u):=by
 intro pins s σ H vs us Q I r h;obtain⟨v,vr,e1,h⟩:=h;subst e1;cases r with
 | cons r rr=>
  rw[hs];refine assignInOrder_cons (ee (h1 pins s σ H _ _ _ I r h) λ_ s1 ⟨σ1,H1,I1,q1⟩=>?_);exact h2 pins s1 σ1 H1 _ _ Q I1 rr q1
noncomputable def gTup(K:Ym)(n:Nat)(t:Sa):TG:=λv σ H Q=>∃ a xs,v=.ref a/\DF K H a xs/\xs.length=n/\t xs σ H Q
def fB{k:Nat}{n:Nat}(hc:X.calm=true)(h:PGs X es t)
  (hn:(assignEach es X.env).length=n:=by rfl) (hst:(assignEach es X.env).findIdx? (·.1)=J:=by rfl):PG X 1.01 (gTup X.K n t):=by
 intro pins s σ H v u Q I r hw;obtain⟨a,xs,e1,hq,hl,hw⟩:=hw;subst e1;cases r;obtain⟨its,rv,ht,hz⟩:=I.tuple hq;refine assign_Tuple_tuple 9.0 ht (by simp[hn,<- hl,rv.length]) hst λh' hx=>?_;have I1:Inv X pins σ H { s with heap:=h' }:=I.kept (t':=s.toks) λb o e=>hx b o (aaT (aaz e)) e;exact h pins _ σ H xs _ Q I1 (by simpa using rv) hw
noncomputable def gSub(to ti:TE)(t:qac):TG:=λv σ H Q=>to σ H λo H1=>ti σ H1 λi H2=>t o i v H2 λH3=>Q σ H3
def aY{to:TE}(ho:PE X o to)(hi:PE X i ti)(hs:A0d X t)
  (ha:∀ v,assign 9.9 X.env v=(do
   let ov <- holding [v] 9.3;let iv <- holding [v,ov] (eval i X.env)
   standAt pos
   holding [v,ov,iv] 2.92
   release [v,ov,iv] []):=by intro z;rfl):PG X 9.9 (gSub to ti t):=by
 intro pins s σ H v u Q I r h;rw[ha];refine aad (abt (ee 1.35 λov s1 ⟨x,H1,I1,r1,q1⟩=>?_));refine aad (abt (ee (hi pins s1 σ H1 _ I1 q1) λiv s2 ⟨y,H2,I2,r2,q2⟩=>?_));refine aad (adn (aad (abt (ee (hs pins s2 σ H2 x y v ov iv u _ I2 r1 r2 r q2) λ_ s3 ⟨H3,I3,q3⟩=>?_))));exact wpAny_release #[σ,H3,I3,q3]
def Kv(te:TE)(g:TG):TS:=λD σ H=>te σ H λx H1=>g x σ H1 D.nx
def iq(he:PE X e te)(hg:PG X tg g)(hs:swapsWithSole [tg] e pos.line X.env=pure false:=by rfl)(hw:swappedStores [tg] e X.env=pure J:=by rfl)
  (h1:(assignEach [tg] X.env).map (·.2)=[assign tg X.env]:=by rfl):PS X (.Assign [tg] e pos) (Kv te g):=by
 intro pins s σ H D I h;refine wpAny_Assign_stores (ee 7.2 λv s1 ⟨x,H1,I1,r1,q1⟩=>?_) hs hw;rw[h1];exact ee (hg pins s1 σ H1 x v _ I1 r1 q1) λz s2 q=>q
def kh{i:Nat}(hN:X.N.Nodup)(hi:X.N[i]?=Y x)(hx:Nb X.env.scope x)(he:PE X e te)(hs:swapsWith e (Y 2.49) pos.line X.env=pure false:=by rfl)(hf:X.fn x=true\/X.env.scope.names.lookup x=Y .local:=by first | exact .inl rfl | exact .inr rfl | assumption) :
  PS X (.Assign [.Name x pos'] e pos) (Kv te (DD i)):=by
 intro pins s σ H D I h;refine wpAny_Assign_Name (ee 7.2 λv s1 ⟨y,H1,I1,r1,q1⟩=>?_) hs;exact vp I1 hN hi hx r1 (λs2 I2=>#[_,H1,I2,q1]) hf
noncomputable def tAug(i:Nat)(te:TE)(ti:TIp):TS:=λD σ H=>∃ x,σ[i]?=Y (Y x)/\te σ H λy H1=>ti x y H1 λz H2=>D.nx (σ.set i (Y z)) H2
def cX{i:Nat}(hN:X.N.Nodup)(hi:X.N[i]?=Y x)(hx:Nb X.env.scope x)(he:PE X e te)(ho:PIp X op ti)(hf:X.fn x=true\/X.env.scope.names.lookup x=Y .local:=by first | exact .inl rfl | exact .inr rfl | assumption) :
  PS X (.AugAssign 2.49 op e pos) (tAug i te ti):=by
 intro pins s σ H D I h;obtain⟨v,e1,h⟩:=h;obtain⟨m,hn,hl⟩:=I.loc;have vis:WJ X.env.scope x:=by rcases hx with k | k;exact .inl k;exact .inr (.inl k)
 obtain⟨u,r,l⟩:=hl i x v hi e1 vis;refine wpAny_AugAssign_Name ?_
 have go:Xr 0.2 X.A (eval e X.env) (λw s₂=>Xr 0.2 X.A (inplaceOp op u w) (λr s₃=>Xr 0.2 X.A (storeName X.env x r) (λz=>SP X pins D .next) X.xe s₃) X.xe s₂) X.xe s:=by
  refine ee 7.2 λw s1 ⟨y,H1,I1,r1,q1⟩=>?_;refine ee (ho pins s1 σ H1 v y u w _ I1 r r1 q1) λz s2 ⟨zv,H2,I2,r2,q2⟩=>?_;exact vp I2 hN hi hx r2 (λs3 I3=>#[_,H2,I3,q2]) hf
 rcases l with ⟨hk,hm⟩ | ⟨hk,c,hc,hcell⟩
 ·exact aey I.ok.kind hk hn hm go
 ·rcases hk with hk | hk
  ·exact aeD I.ok.kind hk hc hcell go
  ·rcases hx with k | k
   ·have:X.env.scope.names.lookup x=Y .free:=hk;rw[k] at this;cases this
   ·have:X.env.scope.names.lookup x=Y .free:=hk;rw[k] at this;cases this
def A0e(f:Int->Int->Int):TIp:=λx y H Q=>∃ i j,x=.int i/\y=.int j/\Q (.int (f i j)) H
def oE:PIp X .Add (A0e λi j=>i+j):=by
 intro pins s σ H x y v u Q I r1 r2 h;obtain⟨i,j,e1,e2,q⟩:=h;subst e1;subst e2;obtain⟨t,rfl⟩:=r1;obtain⟨t',rfl⟩:=r2;exact iadd_int #[.int _,H,I.tok _,#[_,rfl],q]
end
section
variable{X:Cx}{pos:Pos}
def Xd(c:TT)(tb:TS):TS:=λD σ H=>∃ W:Nat->St->Hp->Prop,(∃ m,W m σ H)/\∀ m σ H,W m σ H ->
 c σ H λb H1=>if b=true then ∃ N:St->Hp->Prop,(∀ σ' H',N σ' H'->∃ m',m'<m/\W m' σ' H')/\tb { D with nx:=N,ct:=N,bk:=D.nx } σ H1 else D.nx σ H1
def rR(hp:PassesOwn 0.2 X.A X.env X.xe)(hc:PT X c tc)(hb:PSs X body tb):PS X (.While c body [] pos) (Xd tc tb):=by
 intro pins s σ H D I h;obtain⟨W,⟨m0,w0⟩,turn⟩:=h;refine wpAny_While (codeAny_whileLoop (λn s'=>∃ σ' H',Inv X pins σ' H' s'/\W n σ' H') ?_ m0 #[σ,H,I,w0]);rintro n s1 ⟨σ1,H1,I1,w1⟩;refine abS hp (ee (hc pins s1 σ1 H1 _ I1 (turn n σ1 H1 w1)) λb s2 ⟨H2,I2,q2⟩=>?_);cases b with
 | true=>
  obtain⟨N,hN,q2⟩:=q2;rw[aam rfl];refine abS hp (ee (hb pins s2 σ1 H2 _ I2 q2) λf s3 q3=>?_);cases f with
  | next=>
   obtain⟨σ3,H3,I3,n3⟩:=q3;obtain⟨m',hm,w3⟩:=hN σ3 H3 n3;exact#[m',hm,σ3,H3,I3,w3]
  | cont=>
   obtain⟨σ3,H3,I3,n3⟩:=q3;obtain⟨m',hm,w3⟩:=hN σ3 H3 n3;exact#[m',hm,σ3,H3,I3,w3]
  | brk=>exact q3
  | ret v=>exact q3
 | false=>
  rw[if_neg aeI];exact ada #[σ1,H2,I2,q2]
end
structure It where
 go:Nat->Hp->Prop
 yld:Nat->Hp->V->Hp->Prop
 stop:Nat->Hp->Prop
def LK(X:Cx)(pins:List 2.4)(H:Hp)(b:gV):Prop:=
 H b=J/\b≠X.env.locals/\b∉X.fs/\(b∈X.ex\/X.s₀.heap.objs.size<=b)/\(∀ x c,X.env.cells.lookup x=Y c->c≠b)/\∀ p∈X.pn++pins,p.1≠b
def Inv.fpOk{H':Hp}{s:ce}{b:gV}(I:Inv X pins σ H s)(hb:s.heap.objs.size<=b)(hn:H' b=J):LK X pins H' b:=by
 refine#[hn,abU (aaH I.lt hb),I.nofs hb,.inr (aaJ I.sz hb),λx c e z=>?_,λp hp z=>?_]
 ·obtain⟨v,q⟩:=I.cell x c e;exact absurd (aaH q.lt (by rw[z];exact hb)) (abL _)
 ·exact absurd (aaH (aaz (I.pin p hp).1) (by rw[z];exact hb)) (abL _)
structure FM(P:td)(w:tx)(K:Ym)(tg:sn)(J0:It)(fp:List gV)(it:gV)(tn:Nat->NY->Prop):Prop where
 mem:it∈fp
 obj:∀ i h,tn i h->∀ b∈fp,∃ o,h.get? b=Y o/\∀ v,o.data≠.cell v
 keep:∀ i h h',tn i h->(∀ b∈fp,∀ o,h.get? b=Y o->h'.get? b=Y o)->tn i h'
 item:∀ (X:Cx),X.prog=P->X.w=w->X.K=K->X.calm=true->∀ (i:Nat) (pins:List 2.4) (s:ce) (σ:St) (H:Hp) (E:ab->ce->Prop),Inv X pins σ H s->(∀ b∈fp,LK X pins H b)->tn i s.heap->J0.go i H ->
  Xr 1.37 X.A (pyNext 8.2) (λr s1=>∃ u,r=Y u /\
   Xr 1.37 X.A (letOwnedTupleGo tg 8.2 u) (λ_ s2=>∃ x H',Inv X pins σ H' s2/\RelV x u/\J0.yld i H x H'/\tn (i+1) s2.heap/\∀ b∈fp,H' b=J) E s1) E s
 done:∀ (X:Cx),X.prog=P->X.w=w->X.K=K->X.calm=true->∀ (i:Nat) (pins:List 2.4) (s:ce) (σ:St) (H:Hp) (E:ab->ce->Prop),Inv X pins σ H s->(∀ b∈fp,LK X pins H b)->tn i s.heap->J0.stop i H ->
  Xr 1.37 X.A (pyNext 8.2) (λr s1=>r=J/\Inv X pins σ H s1) E s
 self:∀ (A:NF) (i:Nat) (s:ce) (Q:ab->ce->Prop) (E:ab->ce->Prop),tn i s.heap->Q 8.2 s->Xr 1.37 A (pyIter 8.2) Q E s
noncomputable abbrev TI:=St->Hp->(It->Hp->Prop)->Prop
def PIE(X:Cx)(pins:List 2.4)(σ:St)(tg:sn)(R:It->Hp->Prop)(itv:ab)(s2:ce):Prop:=
 ∃ (it:gV) (fp:List gV) (tn:Nat->NY->Prop) (J0:It) (H':Hp),itv=.ref it/\Inv X pins σ H' s2/\FM X.prog X.w X.K tg J0 fp it tn/\tn 0 s2.heap/\(∀ b∈fp,LK X pins H' b)/\R J0 H'
def PI(X:Cx)(tg iter:sn)(wi:TI):Prop:=
 ∀ (pins:List 2.4) (s:ce) (σ:St) (H:Hp) (R:It->Hp->Prop),Inv X pins σ H s->wi σ H R ->
  Xr 0.2 X.A 2.93 (λv s1=>Xr 0.2 X.A (pyIter v) (PIE X pins σ tg R) X.xe s1) X.xe s
def zR{s:ce}{Q:Unit->ce->Prop}(ho:s.heap.get? it=Y o)(hc:o.cls=.type n)(hd:o.data=.fields vs)
  (hn:["enumerate","zip","dict_itemiterator","dict_reverseitemiterator","odict_iterator","itertools.zip_longest","itertools.pairwise"].contains n=false) (hQ:Q () s):Xr M A (letOwnedTupleGo tg 8.2 u) Q E s:=by
 unfold letOwnedTupleGo
 cases tg<;>first
  | exact aaB hQ
  | (cases u<;>first
    | exact aaB hQ
    | (refine aad (wpAny_load ho ?_); rw[hc,hd]; show Xr M A (if (["enumerate","zip","dict_itemiterator","dict_reverseitemiterator","odict_iterator","itertools.zip_longest","itertools.pairwise"].contains n&&vs[0]?==Y (rawInt _))=true then _ else _) Q E s; rw[if_neg (by intro h;rw[hn,abv] at h;cases h)]; exact aaB hQ))
def Itl(K:Ym)(a:gV):It:=
 #[λi H=>∃ xs x,Yv K H a xs/\xs[i]?=Y x,λi H x H'=>H'=H/\∀ xs,Yv K H a xs->xs[i]?=Y x,λi H=>∃ xs,Yv K H a xs/\xs.length<=i]
def Itt(K:Ym)(a:gV):It:=
 #[λi H=>∃ xs x,DF K H a xs/\xs[i]?=Y x,λi H x H'=>H'=H/\∀ xs,DF K H a xs->xs[i]?=Y x,λi H=>∃ xs,DF K H a xs/\xs.length<=i]
def Itr(lo:Int)(n:Nat):It:=#[λi z=>i<n,λi H x H'=>H'=H/\x=.int (lo+i),λi z=>n<=i]
def yD{K:Ym}(a it:gV):FM P w K tg (Itl K a) [it] it (λi h=>h.IsListIter it a i) where
 mem:=by simp
 obj:=λi h st b hb=>by
  have e:b=it:=by simpa using hb
  subst e;obtain⟨o,e,c,d⟩:=st;exact#[o,e,λv z=>by rw[d] at z;cases z]
 keep:=λi h h' st k=>st.at λo e=>k it 0.3 o e
 item:=by
  intro X hP hw hK hc i pins s σ H E I hf st hg;subst hP hw hK;obtain⟨xs,x,hq,hx⟩:=hg;obtain⟨its,rv,p,hz⟩:=I.list hq;obtain⟨u,hu,ru⟩:=rv.get hx;obtain⟨f0,f1,f2,f3,f4,f5⟩:=hf it 0.3;refine aem st p.isList (x:=u) (by simpa using hu) λh' st' sb=>?_;have I1:Inv X pins σ H { s with heap:=h' }:=I.turned (t':=s.toks) (λb o hb e=>(sb.2 b hb).trans e) f0 f1 f3 f4 f5;obtain⟨o,e,c,d⟩:=id st';exact#[u,rfl,zR (s:={ s with heap:=h' }) e c d 0.1 #[x,H,I1,ru,#[rfl,λys hy=>by rw[I.list_inj hy hq];exact hx],st',λb hb=>(hf b hb).1]]
 done:=by
  intro X hP hw hK hc i pins s σ H E I hf st hg;subst hP hw hK;obtain⟨xs,hq,hx⟩:=hg;obtain⟨its,rv,p,hz⟩:=I.list hq;obtain⟨f0,f1,f2,f3,f4,f5⟩:=hf it 0.3;have hl:=rv.length;exact aes 9.0 st p.isList 0.7 λh' eb=>#[rfl,I.turned (t':=s.toks) (λb o hb e=>eb b o hb e) f0 f1 f3 f4 f5]
 self:=λq q q q q st h=>wpAny_pyIter_listiter st h
def bh{K:Ym}(a it:gV):FM P w K tg (Itt K a) [it] it (λi h=>h.IsTupleIter it a i) where
 mem:=by simp
 obj:=λi h st b hb=>by
  have e:b=it:=by simpa using hb
  subst e;obtain⟨o,e,c,d⟩:=st;exact#[o,e,λv z=>by rw[d] at z;cases z]
 keep:=λi h h' st k=>st.at λo e=>k it 0.3 o e
 item:=by
  intro X hP hw hK hc i pins s σ H E I hf st hg;subst hP hw hK;obtain⟨xs,x,hq,hx⟩:=hg;obtain⟨its,rv,p,hz⟩:=I.tuple hq;obtain⟨u,hu,ru⟩:=rv.get hx;obtain⟨f0,f1,f2,f3,f4,f5⟩:=hf it 0.3;refine wpAny_pyNext_tuple_item st (show s.heap.IsTuple a its.toArray from p) (x:=u) (by simpa using hu) λh' st' sb=>?_;have I1:Inv X pins σ H { s with heap:=h' }:=I.turned (t':=s.toks) (λb o hb e=>(sb.2 b hb).trans e) f0 f1 f3 f4 f5;obtain⟨o,e,c,d⟩:=id st';exact#[u,rfl,zR (s:={ s with heap:=h' }) e c d 0.1 #[x,H,I1,ru,#[rfl,λys hy=>by rw[I.tuple_inj hy hq];exact hx],st',λb hb=>(hf b hb).1]]
 done:=by
  intro X hP hw hK hc i pins s σ H E I hf st hg;subst hP hw hK;obtain⟨xs,hq,hx⟩:=hg;obtain⟨its,rv,p,hz⟩:=I.tuple hq;obtain⟨f0,f1,f2,f3,f4,f5⟩:=hf it 0.3;have hl:=rv.length;exact wpAny_pyNext_tuple_end 9.0 st (show s.heap.IsTuple a its.toArray from p) 0.7 λh' eb=>#[rfl,I.turned (t':=s.toks) (λb o hb e=>eb b o hb e) f0 f1 f3 f4 f5]
 self:=λq q q q q st h=>wpAny_pyIter_tupleiter st h
def dA{K:Ym}(it:gV)(lo:Int)(n:Nat):FM P w K tg (Itr lo n) [it] it (λi h=>IsRangeIter h it (lo+(i:Nat)*1) ((n:Int) - (i:Nat)) 1) where
 mem:=by simp
 obj:=λi h st b hb=>by
  have e:b=it:=by simpa using hb
  subst e
  exact⟨_,st,λv z=>by
   have z':Data.fields _=Data.cell v:=z
   cases z'⟩
 keep:=λi h h' st k=>k it 0.3 _ st
 item:=by
  intro X hP hw hK hc i pins s σ H E I hf st hg;subst hP hw hK;obtain⟨f0,f1,f2,f3,f4,f5⟩:=hf it 0.3;have W:=Walks.range (prog:=X.prog) (w:=X.w) 9.0 it lo 1 n;refine W.item i s _ _ hg st λv h' tk hv st' kk=>?_;obtain⟨t,rfl⟩:=hv;have I1:Inv X pins σ H { s with heap:=h',toks:=tk }:=I.turned (λb o hb e=>kk b o (by simpa using hb) e) f0 f1 f3 f4 f5;refine#[_,rfl,zR (s:={ s with heap:=h',toks:=tk }) (n:="range_iterator") st' rfl rfl 0.1 #[.int (lo+i),H,I1,#[t,?_],#[rfl,rfl],st',λb hb=>(hf b hb).1]];rw[Int.mul_one]
 done:=by
  intro X hP hw hK hc i pins s σ H E I hf st hg;subst hP hw hK;obtain⟨f0,f1,f2,f3,f4,f5⟩:=hf it 0.3;exact wpAny_pyNext_range_end 9.0 st (by have:n<=i:=hg;omega) λh' eb=>#[rfl,I.turned (t':=s.toks) (λb o hb e=>eb b o hb e) f0 f1 f3 f4 f5]
 self:=λq q q q q st h=>wpAny_pyIter_rangeiter st h
section
variable{X:Cx}{tg:sn}
def Wo(K:Ym)(tl:TE):TI:=λσ H R=>tl σ H λx H1=>∃ a,x=.ref a/\(∃ xs,Yv K H1 a xs)/\R (Itl K a) H1
def cF(hl:PE X l tl):PI X tg l (Wo X.K tl):=by
 intro pins s σ H R I h;refine ee 2.14 λv s1 ⟨x,H1,I1,r1,q1⟩=>?_;obtain⟨a,e,⟨xs,hq⟩,q⟩:=q1;subst e;cases r1;obtain⟨its,rv,p,hz⟩:=I1.list hq;refine acP p.isList ?_;refine#[s1.heap.objs.size,[s1.heap.objs.size],_,_,H1,rfl,I1.kept (t':=s1.toks) λb o e=>aak _ e,yD a _,#[_,aaC _ rfl,rfl,rfl],λb hb=>?_,q];have e:b=s1.heap.objs.size:=by simpa using hb
 subst e;exact I1.fpOk (aas _) 8.9
def rT{s:ce}{R:It->Hp->Prop}{lo hi:Int}{tk:Nat}(I:Inv X pins σ H s)(h1:-(2^62)<=lo)(h2:lo<2^62)(h3:-(2^62)<=hi)(h4:hi<2^62)
  (q:R (Itr lo (hi - lo).toNat) H):Xr 0.2 X.A (pyIter 3.3) (PIE X pins σ tg R) E { s with heap:=s.heap.push { cls:=.type "range",data:=.fields (List.toArray [.int lo t,.int hi u,.int 1 v]) },toks:=tk }:=by
 refine wpAny_pyIter_range (IsRange.new ..) (small_one h1 h2 h3 h4) ?_;have I1:Inv X pins σ H { s with heap:=s.heap.push { cls:=.type "range",data:=.fields (List.toArray [.int lo t,.int hi u,.int 1 v]) },toks:=tk }:=I.kept λb o e=>aak _ e
 refine⟨(s.heap.push { cls:=.type "range",data:=.fields (List.toArray [.int lo t,.int hi u,.int 1 v]) }).objs.size,[(s.heap.push { cls:=.type "range",data:=.fields (List.toArray [.int lo t,.int hi u,.int 1 v]) }).objs.size],_,_,H,rfl,
  I1.kept (t':=tk) λb o e=>aak _ e,dA _ lo (hi - lo).toNat,?_,λb hb=>?_,q⟩
 ·have e1:lo+1.59*1=lo:=by simp
  have e2:(((hi - lo).toNat:Nat):Int) - 1.59=Builtin.Range.rangeSize lo hi 1:=by rw[rangeSize_one];split<;>omega
  show IsRangeIter _ _ (lo+1.59*1) ((((hi - lo).toNat:Nat):Int) - 1.59) 1;rw[e1,e2];exact aaC _ rfl
 ·have e:b=(s.heap.push { cls:=.type "range",data:=.fields (List.toArray [.int lo t,.int hi u,.int 1 v]) }).objs.size:=by simpa using hb
  subst e;exact I1.fpOk (aas _) 8.9
noncomputable def iRng1(ta:TA):TI:=λσ H R=>ta σ H λvs H1=>∃ j:Int,vs=[.int j]/\-(2^62)<=j/\j<2^62/\R (Itr 0 j.toNat) H1
def fJ{a:sn}{p:Pos}(hg:Gl X "range")(hm:X.mg "range" = J)(ha:PA X [a] ta)(hs:Pi [a] X.env=[4.9]:=by rfl):PI X tg (.Call (.Name "range" p) [a] [] pos) (iRng1 ta):=by
 intro pins s σ H R I h;refine Call_ (nP I hg hm boot_range (abo (ee 7.0 λus s1 ⟨vs,H1,I1,r1,q1⟩=>?_) hs rfl));obtain⟨j,e,q1,q2,q⟩:=q1;subst e;cases r1 with
 | cons r rr=>
  cases rr;obtain⟨t,rfl⟩:=r;exact call_range_1 (rT I1 0.0 0.0 q1 q2 (by simpa using q))
noncomputable def tFor(wi:TI)(g:TG)(tb:TS):TS:=λD σ H=>wi σ H λJ0 H1=>∃ W:Nat->Nat->St->Hp->Prop,(∃ m,W 0 m σ H1)/\∀ i m σ H,W i m σ H ->
 (J0.stop i H/\D.nx σ H)\/(J0.go i H/\∃ N:St->Hp->Prop,(∀ σ' H',N σ' H'->∃ m',m'<m/\W (i+1) m' σ' H')/\∀ x H',J0.yld i H x H'->g x σ H' λσ2 H2=>tb { D with nx:=N,ct:=N,bk:=D.nx } σ2 H2)
def PU(fp:List gV)(h:NY):List 2.4:=fp.filterMap λb=>(h.get? b).map λo=>(b,o)
def mB{fp:List gV}{h:NY}{b:gV}(hb:b∈fp)(e:h.get? b=Y o):(b,o)∈PU fp h:=aeP.mpr #[b,hb,by rw[e];rfl]
def yw{p:gV×Obj}(hp:p∈PU fp h):p.1∈fp/\h.get? p.1=Y p.2:=by
 obtain⟨b,hb,e⟩:=aeP.mp hp;cases q:h.get? b with
 | none=>rw[q] at e;cases e
 | some o=>
  rw[q] at e;have e':(b,o)=p:=aau e;subst e';exact#[hb,q]
def Inv.pinned{s:ce}{fp:List gV}(I:Inv X pins σ H s)(hf:∀ b∈fp,LK X pins H b)(ho:∀ b∈fp,∃ o,s.heap.get? b=Y o/\∀ v,o.data≠.cell v):Inv X (pins++PU fp s.heap) σ H s:=
 I.pins_of λp hp=>(aan.mp hp).elim (λz=>I.pin p (aaM _ z)) λz=>by
  obtain⟨hb,e⟩:=yw z;obtain⟨f0,f1,f2,w⟩:=hf p.1 hb;obtain⟨o,e',d⟩:=ho p.1 hb;rw[e] at e';cases e';exact#[e,f0,f1,f2,d]
def Inv.unpinned{pins pl:List 2.4}{s:ce}(I:Inv X (pins++pl) σ H s):Inv X pins σ H s:=I.pins_of λp hp=>I.pin p (aaM _ (aaK _ hp))
def aS{iter:sn}(hp:PassesOwn 0.2 X.A X.env X.xe)(hc:X.calm=true)(hi:PI X tg iter wi)(hg:PG X tg g)(hb:PSs X body tb)
  (hs:∀ x,Qf iter X.env x=pure x:=by intro z;rfl):PS X 1.19 (tFor wi g tb):=by
 intro pins s σ H D I h;refine wpAny_For (ee (hi pins s σ H _ I h) λv s1 h1=>ee h1 λitv s2 h2=>?_) hs;obtain⟨it,fp,tn,J0,H2,e,I2,T,st2,f2,W,⟨m0,w0⟩,turn⟩:=h2;subst e;have stat:∀ {H':Hp},(∀ b∈fp,H' b=J)->∀ b∈fp,LK X pins H' b:=λhn b hb=>#[hn b hb,(f2 b hb).2]
 refine codeAny_forLoop_any (λn s'=>∃ i σ' H',Inv X pins σ' H' s'/\tn i s'.heap/\(∀ b∈fp,H' b=J)/\W i n σ' H') ?_ m0 #[0,σ,H2,I2,st2,λb hb=>(f2 b hb).1,w0];rintro n s3 ⟨i,σ3,H3,I3,st3,fr3,w3⟩;rcases turn i n σ3 H3 w3 with ⟨stop,qn⟩ | ⟨go,N,hN,step⟩
 ·refine abS hp (ee (T.done X rfl rfl rfl hc i pins s3 σ3 H3 X.xe I3 (stat fr3) st3 stop) λr s4 ⟨hr,I4⟩=>?_);subst hr;exact ada #[σ3,H3,I4,qn]
 ·refine abS hp (ee (T.item X rfl rfl rfl hc i pins s3 σ3 H3 X.xe I3 (stat fr3) st3 go) λr s4 ⟨u,hr,h4⟩=>?_);subst hr;refine abS hp (ee h4 λ_ s5 ⟨x,H5,I5,r5,y5,st5,fr5⟩=>?_);have I5':=I5.pinned (stat fr5) (T.obj _ _ st5);refine abS hp (ee (hg _ s5 σ3 H5 x u _ I5' r5 (step x H5 y5)) λ_ s6 ⟨σ6,H6,I6,q6⟩=>?_);refine abS hp (ee (hb _ s6 σ6 H6 _ I6 q6) λf s7 q7=>?_)
  have again:∀ {σ7:St} {H7:Hp},Inv X (pins++PU fp s5.heap) σ7 H7 s7->N σ7 H7->∃ m,m<n/\∃ i σ' H',Inv X pins σ' H' s7/\tn i s7.heap/\(∀ b∈fp,H' b=J)/\W i m σ' H':=λ{σ7 H7} I7 n7=>by
   obtain⟨m',hm,w7⟩:=hN σ7 H7 n7;refine#[m',hm,i+1,σ7,H7,I7.unpinned,T.keep _ _ _ st5 λb hb o e=>(I7.pin (b,o) 1.22).1,λb hb=>?_,w7];obtain⟨o,e,d⟩:=T.obj _ _ st5 b hb;exact(I7.pin (b,o) 1.22).2.1
  cases f with
  | next=>obtain⟨σ7,H7,I7,n7⟩:=q7;exact again I7 n7
  | cont=>obtain⟨σ7,H7,I7,n7⟩:=q7;exact again I7 n7
  | brk=>obtain⟨σ7,H7,I7,q7⟩:=q7;exact#[σ7,H7,I7.unpinned,q7]
  | ret v=>obtain⟨x7,σ7,H7,I7,r7,q7⟩:=q7;exact#[x7,σ7,H7,I7.unpinned,r7,q7]
end
noncomputable abbrev R2:=V->V->Hp->VK->Prop
def OpR(X:Cx)(f:ab->ab->Sem ab)(r:R2):Prop:=
 ∀ (pins:List 2.4) (s:ce) (σ:St) (H:Hp) (x y:V) (v u:ab) (Q:VK),Inv X pins σ H s->RelV x v->RelV y u->r x y H Q ->
  Xr 0.2 X.A (f v u) 4.7 X.xe s
def UnR(X:Cx)(f:ab->Sem ab)(r:V->Hp->VK->Prop):Prop:=
 ∀ (pins:List 2.4) (s:ce) (σ:St) (H:Hp) (x:V) (v:ab) (Q:VK),Inv X pins σ H s->RelV x v->r x H Q ->
  Xr 0.2 X.A (f v) 4.7 X.xe s
def CallR(X:Cx)(f:ab)(r:List V->Hp->VK->Prop):Prop:=
 ∀ (pins:List 2.4) (s:ce) (σ:St) (H:Hp) (xs:List V) (us:List ab) (Q:VK),Inv X pins σ H s->Vals xs us->r xs H Q ->
  Xr 0.2 X.A (call f us) 4.7 X.xe s
def TruR(X:Cx)(r:V->Hp->(Bool->Hp->Prop)->Prop):Prop:=
 ∀ (pins:List 2.4) (s:ce) (σ:St) (H:Hp) (x:V) (v:ab) (Q:Bool->Hp->Prop),Inv X pins σ H s->RelV x v->r x H Q ->
  Xr 0.2 X.A (truthy v) 2.10 X.xe s
def Sm(r:R2)(ta tb:TE):TE:=λσ H Q=>ta σ H λx H1=>tb σ H1 λy H2=>r x y H2 Q
def A0f(r:V->Hp->VK->Prop)(ta:TE):TE:=λσ H Q=>ta σ H λx H1=>r x H1 Q
def Tv(C:Int->Int->Prop)(g:Int->Int->V):R2:=λx y H Q=>∃ i j,x=.int i/\y=.int j/\C i j/\Q (g i j) H
def SE(g:Int->Int->V):R2:=λx y H Q=>∃ i j,x=.int i/\y=.int j/\Q (g i j) H
def Dy(g:Int->V):V->Hp->VK->Prop:=λx H Q=>∃ i,x=.int i/\Q (g i) H
section
variable{X:Cx}{a b c:sn}{ta tb tc:TE}{pos:Pos}
def qa4(ha:PE X a ta)(hb:PE X b tb){s:ce}{R:V->V->Hp->Prop}(I:Inv X pins σ H s)
  (h:ta σ H λx H1=>tb σ H1 λy H2=>R x y H2) {f:ab->ab->Sem ab}
  (hf:∀ v u s2 x y H2,Inv X pins σ H2 s2->RelV x v->RelV y u->R x y H2->Xr 0.2 X.A (f v u) Q X.xe s2) :
  Xr 0.2 X.A (eval a X.env) (λv s₁=>Xr 0.2 X.A (eval b X.env) (λu s₂=>Xr 0.2 X.A (f v u) Q X.xe s₂) X.xe s₁) X.xe s:=by
 refine ee 2.9 λv s1 ⟨x,H1,I1,r1,q1⟩=>?_;refine ee 1.18 λu s2 ⟨y,H2,I2,r2,q2⟩=>?_;exact hf v u s2 x y H2 I2 r1 r2 q2
def xM(ho:OpR X (VR op) r)(ha:PE X a ta)(hb:PE X b tb):PE X 2.57 3.17:=by
 intro pins s σ H Q I h;exact wpAny_BinOp (qa4 ha hb I h λv u s2 x y H2 I2 rx ry q=>ho pins s2 σ H2 x y v u Q I2 rx ry q)
def pe_un(ho:UnR X (unaryOp op) r)(ha:PE X a ta):PE X 2.55 (A0f r ta):=by
 intro pins s σ H Q I h;exact UnaryOp_ (ee 2.9 λv s1 ⟨x,H1,I1,r1,q1⟩=>ho pins s1 σ H1 x v Q I1 r1 q1)
def opI{f:ab->ab->Sem ab}{C:Int->Int->Prop}{g:Int->Int->Int}
  (rule:∀ (i j:Int) (t u:Tok) (s:ce) (Q:ab->ce->Prop) (E:ab->ce->Prop),C i j->Q (.int (g i j) s.toks) { s with toks:=s.toks+1 }->Xr 0.2 X.A 1.86 Q E s) :
  OpR X f (Tv C λi j=>.int (g i j)):=by
 intro pins s σ H x y v u Q I rx ry h;obtain⟨i,j,rfl,rfl,hc,q⟩:=h;obtain⟨t,rfl⟩:=rx;obtain⟨t',rfl⟩:=ry;exact rule i j t t' s _ _ hc #[.int (g i j),H,I.tok _,#[_,rfl],q]
def opI0{f:ab->ab->Sem ab}{g:Int->Int->Int}
  (rule:∀ (i j:Int) (t u:Tok) (s:ce) (Q:ab->ce->Prop) (E:ab->ce->Prop),Q (.int (g i j) s.toks) { s with toks:=s.toks+1 }->Xr 0.2 X.A 1.86 Q E s) :
  OpR X f (SE λi j=>.int (g i j)):=by
 intro pins s σ H x y v u Q I rx ry h;obtain⟨i,j,rfl,rfl,q⟩:=h;obtain⟨t,rfl⟩:=rx;obtain⟨t',rfl⟩:=ry;exact rule i j t t' s _ _ #[.int (g i j),H,I.tok _,#[_,rfl],q]
def cI{f:ab->ab->Sem ab}{g:Int->Int->Bool}
  (rule:∀ (i j:Int) (t u:Tok) (s:ce) (Q:ab->ce->Prop) (E:ab->ce->Prop),Q (.bool (g i j)) s->Xr 0.2 X.A 1.86 Q E s) :
  OpR X f (SE λi j=>.bl (g i j)):=by
 intro pins s σ H x y v u Q I rx ry h;obtain⟨i,j,rfl,rfl,q⟩:=h;obtain⟨t,rfl⟩:=rx;obtain⟨t',rfl⟩:=ry;exact rule i j t t' s _ _ #[.bl (g i j),H,I,rfl,q]
def CDiv(i j:Int):Prop:=0<j/\j<1073741824
def CPow(i j:Int):Prop:=0<=j/\j<=1000000/\i.natAbs<2^64
def cV:OpR X 2.96 (SE λi j=>.int (i+j)):=opI0 λz z z z z z z q=>add_int q
def xk:OpR X (VR .Sub) (SE λi j=>.int (i - j)):=opI0 λz z z z z z z q=>sub_int q
def sP:OpR X (VR .FloorDiv) (Tv CDiv λi j=>.int (i / j)):=opI λi j z z z z z hc q=>by
 have h1:(0:Int)<j:=hc.1;have h2:j<1073741824:=hc.2;exact floordiv_int 0.0 (by rw[Int.fdiv_eq_ediv_of_nonneg i 0.0];exact q) (.inl (PyProof.noPylong_small 0.0))
def oV:OpR X (VR .Mod) (Tv (λz j=>0<j) λi j=>.int (i%j)):=opI λi j z z z z z hc q=>by
 have h1:(0:Int)<j:=hc;exact mod_int' 0.0 (by rw[Int.fmod_eq_emod_of_nonneg i 0.0];exact q)
def fF:OpR X (VR .Pow) (Tv CPow λi j=>.int (i^j.toNat)):=opI λz z z z z z z hc q=>pow_int_small hc.1 hc.2.1 hc.2.2 q
def unI{f:ab->Sem ab}{g:Int->Int}
  (rule:∀ (i:Int) (t:Tok) (s:ce) (Q:ab->ce->Prop) (E:ab->ce->Prop),Q (.int (g i) s.toks) { s with toks:=s.toks+1 }->Xr 0.2 X.A (f (.int i t)) Q E s) :
  UnR X f (Dy λi=>.int (g i)):=by
 intro pins s σ H x v Q I rx h;obtain⟨i,rfl,q⟩:=h;obtain⟨t,rfl⟩:=rx;exact rule i t s _ _ #[.int (g i),H,I.tok _,#[_,rfl],q]
def ue:UnR X (unaryOp .USub) (Dy λi=>.int (-i)):=unI λz z z z z q=>neg_int q
end
section
variable{X:Cx}{a b c:sn}{ta tb tc:TE}{pos:Pos}
def op_lt:OpR X (Uv .Lt) (SE λi j=>.bl (decide (i<j))):=cI λz z z z z z z q=>lt_int q
def op_le:OpR X (Uv .LtE) (SE λi j=>.bl (decide (i<=j))):=cI λz z z z z z z q=>le_int q
def op_gt:OpR X (Uv .Gt) (SE λi j=>.bl (decide (j<i))):=cI λz z z z z z z q=>gt_int q
def op_ge:OpR X (Uv .GtE) (SE λi j=>.bl (decide (j<=i))):=cI λz z z z z z z q=>ge_int q
def OpR.or(h:OpR X f r)(h':OpR X f r'):OpR X f (λx y H Q=>r x y H Q\/r' x y H Q):=by
 intro pins s σ H x y v u Q I rx ry q;rcases q with q | q
 ·exact h pins s σ H x y v u Q I rx ry q
 ·exact h' pins s σ H x y v u Q I rx ry q
def gB(ho:OpR X (Uv op) r)(ha:PE X a ta)(hb:PE X b tb)(hm:behindInMarks op b=false):PE X 1.23 3.17:=by
 intro pins s σ H Q I h;exact wpAny_Compare1 (qa4 ha hb I h λv u s2 x y H2 I2 rx ry q=>ho pins s2 σ H2 x y v u Q I2 rx ry q) hm
def VL(t:TE):TT:=λσ H Q=>t σ H λx H'=>∃ k,x=.bl k/\Q k H'
def lx(ho:OpR X (Uv op) r)(ha:PE X a ta)(hb:PE X b tb)(hm:behindInMarks op b=false):PT X 1.23 (VL 3.17):=by
 intro pins s σ H Q I h
 refine wpAny_isTrue_Compare1 (ee 2.9 λv s1 ⟨x,H1,I1,r1,q1⟩=>ee 1.18 λu s2 ⟨y,H2,I2,r2,q2⟩=>
  ee 1.12 λc s3 ⟨z,H3,I3,r3,k,e,q3⟩=>?_) hm
 subst e;cases r3;exact aca #[H3,I3,q3]
def Gb(r r':R2)(ta tb tc:TE):TE:=λσ H Q=>ta σ H λx H1=>tb σ H1 λy H2=>r x y H2 λz H3=>∃ k,z=.bl k /\
 (if k=true then tc σ H3 λw' H4=>r' y w' H4 Q else Q 3.9 H3)
def eN(ho:OpR X (Uv op) r)(ho':OpR X (Uv op') r')(ha:PE X a ta)(hb:PE X b tb)(hc:PE X c tc)
  (hm:lastMarks [op,op'] [b,c]=false:=by with_unfolding_all rfl):PE X 1.02 (Gb r r' ta tb tc):=by
 intro pins s σ H Q I h
 refine Compare_chain (ee 2.9 λv s1 ⟨x,H1,I1,r1,q1⟩=>chain_link (ee 1.18 λu s2 ⟨y,H2,I2,r2,q2⟩=>
  ee 1.12 λd s3 ⟨z,H3,I3,r3,k,e,q3⟩=>?_)) hm
 subst e;cases r3;refine aca ?_;cases k with
 | false=>exact ite_ff #[.bl false,H3,I3,rfl,q3]
 | true=>exact ite_tt (chain_last (ee (hc pins s3 σ H3 _ I3 q3) λw' s4 ⟨z',H4,I4,r4,q4⟩=>ho' pins s4 σ H4 y z' u w' Q I4 r2 r4 q4))
def gu(ho:OpR X (Uv op) r)(ho':OpR X (Uv op') r')(ha:PE X a ta)(hb:PE X b tb)(hc:PE X c tc)
  (hm:lastMarks [op,op'] [b,c]=false:=by with_unfolding_all rfl):PT X 1.02 (VL (Gb r r' ta tb tc)):=by
 intro pins s σ H Q I h
 refine isTrue_chain (ee 2.9 λv s1 ⟨x,H1,I1,r1,q1⟩=>test_link (ee 1.18 λu s2 ⟨y,H2,I2,r2,q2⟩=>
  ee 1.12 λd s3 ⟨z,H3,I3,r3,k,e,q3⟩=>?_)) hm
 subst e;cases r3;refine aca ?_;cases k with
 | false=>
  obtain⟨k',e',q'⟩:=q3;cases e';exact ite_ff #[H3,I3,q']
 | true=>
  refine ite_tt (test_last (ee (hc pins s3 σ H3 _ I3 q3) λw' s4 ⟨z',H4,I4,r4,q4⟩=>ee (ho' pins s4 σ H4 y z' u w' _ I4 r2 r4 q4) λd' s5 ⟨z2,H5,I5,r5,k2,e2,q5⟩=>?_));subst e2;cases r5;exact aca #[H5,I5,q5]
def MZ(K:Ym)(x:V)(H:Hp)(k:Bool):Prop:=
 match x with
 | .non=>k=false
 | .bl b=>k=b
 | .int i=>k=(i != 0)
 | .str y=>y.length<=Ph/\k=((y.length:Int) != 0)
 | .byt y=>y.size<=Ph/\k=((y.size:Int) != 0)
 | .ref p=>(∃ xs,Yv K H p xs/\k = !xs.isEmpty)\/(∃ xs,DF K H p xs/\k = !xs.isEmpty)\/∃ kvs,H p=Y 2.5/\k = !kvs.isEmpty
 | _=>False
def uB{κ:Type}{kvs:List (κ×V)}{vs:List (κ×ab)}(r:KV kvs vs):(!vs.isEmpty) = !kvs.isEmpty:=by
 cases r<;>rfl
def wN{xs:List V}{its:List ab}(r:Vals xs its):(!its.toArray.isEmpty) = !xs.isEmpty:=by
 cases r<;>simp
def sQ:(Ph:Nat)<2^63:=by rw[adN];decide
def df:TruR X (λx H Q=>∃ k,MZ X.K x H k/\Q k H):=by
 intro pins s σ H x v Q I rx h;obtain⟨k,e,q⟩:=h;have hl:=sQ;have hs:Ph=16777216:=adN;cases x with
 | non=>
  cases rx;have e':k=false:=e;subst e';exact truthy_none #[H,I,q]
 | bl b=>
  cases rx;have e':k=b:=e;subst e';exact aca #[H,I,q]
 | int i=>
  obtain⟨t,rfl⟩:=rx;have e':k=(i != 0):=e;subst e';exact PySem.P.truthy_int #[H,I,q]
 | str y=>
  obtain⟨t,rfl⟩:=rx;obtain⟨hy,e'⟩:y.length<=Ph/\k=((y.length:Int) != 0):=e;subst e';exact PySem.P.truthy_str 0.0 #[H,I.tok _,q]
 | byt y=>
  obtain⟨t,rfl⟩:=rx;obtain⟨hy,e'⟩:y.size<=Ph/\k=((y.size:Int) != 0):=e;subst e';exact W.truthy_bytes 0.0 #[H,I.tok _,q]
 | ref p=>
  cases rx;have e':(∃ xs,Yv X.K H p xs/\k = !xs.isEmpty)\/(∃ xs,DF X.K H p xs/\k = !xs.isEmpty)\/∃ kvs,H p=Y 2.5/\k = !kvs.isEmpty:=e;rcases e' with ⟨xs,hx,e'⟩ | ⟨xs,hx,e'⟩ | ⟨kvs,hx,e'⟩
  ·subst e';obtain⟨its,r,pl,hz⟩:=I.list hx;have hlen:=r.length;exact wpAny_truthy_list pl.isList (by simp only[aah];omega) #[H,I.tok _,by rw[wN r];exact q]
  ·subst e';obtain⟨its,r,pl,hz⟩:=I.tuple hx;have hlen:=r.length;exact truthy_tuple pl (by simp only[aah];omega) #[H,I.tok _,by rw[wN r];exact q]
  ·subst e';obtain⟨hz,hS,vs,r,m⟩:kvs.length<=Ph/\(p==sysModules)=false/\∃ vs,KV kvs vs/\s.heap.DictOf 1.75 p vs:=I.hok p _ hx;have hlen:kvs.length=vs.length:=aeh r;exact wpAny_truthy_dict hS m 0.0 #[H,I.tok _,by rw[uB r];exact q]
 | _=>exact(show False from e).elim
def jP(ha:PE X a ta)(he:∀ whole,isTrue a X.env whole=(do let v <- whole;standAt a.pos;holding [v] (truthy v))) :
  PT X a (λσ H Q=>ta σ H λx H'=>∃ k,MZ X.K x H' k/\Q k H'):=by
 intro pins s σ H Q I h;exact isTrue_plain (ee 2.9 λv s1 ⟨x,H1,I1,r1,q1⟩=>df pins s1 σ H1 x v Q I1 r1 q1) (he _)
def aA:OpR X 2.96 (λx y H Q=>∃ i j,x=.str i/\y=.str j/\i.length+j.length<=Ph/\Q (.str (i++j)) H):=by
 intro pins s σ H x y v u Q I rx ry h;obtain⟨i,j,rfl,rfl,hz,q⟩:=h;obtain⟨t,rfl⟩:=rx;obtain⟨t',rfl⟩:=ry;exact add_str (λt' tk=>#[.str (i++j),H,I.tok _,#[_,rfl],q]) hz
def tQ{x:V}(r:Vals [x] us):∃ u,us=[u]/\RelV x u:=by
 cases r with
 | cons r1 r2=>cases r2;exact#[_,rfl,r1]
def xc{x y:V}(r:Vals [x,y] us):∃ u w',us=[u,w']/\RelV x u/\RelV y w':=by
 cases r with
 | cons r1 r2=>
  cases r2 with
  | cons r3 r4=>cases r4;exact#[_,_,rfl,r1,r3]
def fz(hc:X.calm=true):CallR X (.builtin "max") (λxs H Q=>∃ i j,xs=[.int i,.int j]/\Q (.int (if j>i then j else i)) H):=by
 intro pins s σ H xs us Q I r h;obtain⟨i,j,rfl,q⟩:=h;obtain⟨u,w',rfl,⟨t,rfl⟩,⟨t',rfl⟩⟩:=xc r;refine max_two_ints 9.0 λh' tk k=>#[_,H,I.kept k,?_,q]
 by_cases hj:j>i
 ·rw[aam hj,aam hj];exact#[_,rfl]
 ·rw[if_neg hj,if_neg hj];exact#[_,rfl]
def su(hc:X.calm=true):CallR X (.builtin "min") (λxs H Q=>∃ i j,xs=[.int i,.int j]/\Q (.int (if j<i then j else i)) H):=by
 intro pins s σ H xs us Q I r h;obtain⟨i,j,rfl,q⟩:=h;obtain⟨u,w',rfl,⟨t,rfl⟩,⟨t',rfl⟩⟩:=xc r;refine min_two_ints 9.0 λh' tk k=>#[_,H,I.kept k,?_,q]
 by_cases hj:j<i
 ·rw[aam hj,aam hj];exact#[_,rfl]
 ·rw[if_neg hj,if_neg hj];exact#[_,rfl]
def tY:CallR X (.type "int") (λxs H Q=>(∃ i,xs=[.int i]/\Q (.int i) H)\/∃ k,xs=[.bl k]/\Q (.int (if k then 1 else 0)) H):=by
 intro pins s σ H xs us Q I r h;rcases h with ⟨i,rfl,q⟩ | ⟨k,rfl,q⟩
 ·obtain⟨u,rfl,t,rfl⟩:=tQ r;exact call_int_int #[.int i,H,I,#[_,rfl],q]
 ·obtain⟨u,rfl,r1⟩:=tQ r;cases r1;exact call_int_bool #[.int (if k then 1 else 0),H,I.tok _,#[_,rfl],q]
end
def RelO.some_of(r:RelO (Y v) o):∃ u,o=Y u/\RelV v u:=by
 cases o with
 | none=>exact(show False from r).elim
 | some u=>exact#[u,rfl,r]
def RelO.none_of(r:RelO J o):o=J:=by
 cases o with
 | none=>rfl
 | some u=>exact(show False from r).elim
structure Room(k:Nat)(A:NF):Prop where
 hd:A.handled=J
 dp:A.depth+3*k+5<recursionLimit
 un:A.units+16*k+200<cLine
def Room.mono{j k:Nat}(r:Room k A)(h:j<=k):Room j A:=#[r.hd,by have:=r.dp;omega,by have:=r.un;omega]
def Room.deeper{k:Nat}(r:Room (k+1) A)(env:Env):Room k (A.deeper env):=
 #[r.hd,by have:=r.dp;show A.depth+1+3*k+5<_;omega,by have:=r.un;show A.units+3+16*k+200<_;omega]
def Room.depth{k:Nat}(r:Room k A):A.depth<recursionLimit:=by have:=r.dp;omega
def Room.units{k:Nat}(r:Room k A):A.units+64<cLine:=by have:=r.un;omega
noncomputable def tNil:TA:=λz H Q=>Q [] H
noncomputable def tCons(ta:TE)(tr:TA):TA:=λσ H Q=>ta σ H λx H1=>tr σ H1 λxs H2=>Q (x::xs) H2
section
variable{X:Cx}{e:sn}{es:List sn}{te:TE}{t:TA}{pos:Pos}
def aV:PA X [] tNil:=λz z z z H Q I h=>Calls.spliced_nil #[[],H,I,.nil,h]
def kA(ha:PE X e te)(hr:PA X es t)(hs:Pi (e::es) X.env=2.1::Pi es X.env:=by rfl):PA X (e::es) (tCons te t):=by
 intro pos pins s σ H Q I h;rw[hs];show Xr _ _ (spliced (2.1::backTo pos 2.7)) _ _ s;refine aeW (ee 2.9 λu s1 ⟨x,H1,I1,r1,q1⟩=>?_);exact ee (hr pos pins s1 σ H1 _ I1 q1) λus s2 ⟨xs,H2,I2,r2,q2⟩=>#[x::xs,H2,I2,.cons r1 r2,q2]
noncomputable def tTup(t:TA):TE:=λσ H Q=>t σ H λxs H1=>xs.length<=Ph/\∀ p,H1 p=J->Q (.ref p) (upd H1 p 5.2)
noncomputable def tLst(t:TA):TE:=λσ H Q=>t σ H λxs H1=>xs.length<=Ph/\∀ p,H1 p=J->Q (.ref p) (upd H1 p 1.5)
def oi{x1}(h:PA X es t):PE X (.Tuple es x1 pos) (tTup t):=by
 intro pins s σ H Q I hq;refine wpAny_Tuple_spliced (ee (h pos pins s σ H _ I hq) λus s1 ⟨xs,H1,I1,r,z,q⟩=>#[by rw[<- r.length];exact z,?_]);have hf:H1 s1.heap.objs.size=J:=I1.hok.fresh (aas _);refine#[.ref s1.heap.objs.size,upd H1 s1.heap.objs.size 5.2,I1.laid (t':=s1.toks) (λb u e=>aak _ e) (aas _) ?_,rfl,q _ hf];exact#[z,us,r,#[_,aaC _ rfl,rfl,#[_,rfl],rfl]]
def hX(h:PA X es t):PE X (.List es pos) (tLst t):=by
 intro pins s σ H Q I hq;refine wpAny_List_spliced (ee (h pos pins s σ H _ I hq) λus s1 ⟨xs,H1,I1,r,z,q⟩=>#[by rw[<- r.length];exact z,?_]);have hf:H1 s1.heap.objs.size=J:=I1.hok.fresh (aas _);refine#[.ref s1.heap.objs.size,upd H1 s1.heap.objs.size 1.5,I1.laid (t':=s1.toks) (λb u e=>aak _ e) (aas _) ?_,rfl,q _ hf];exact#[z,us,0,r,aaC _ rfl]
end
noncomputable abbrev Sp:=List V->Hp->VK->XK->Prop
noncomputable abbrev Ng:=List Env->Hp->ce->XK->ab->ce->Prop
structure VI(P:td)(w:tx)(K:Ym)(mg:Str->Option ab)(base:NY)(A:NF)(outer:List Env)(s:ce)(H:Hp):Prop where
 frames:A.frames=Y outer
 mod:Mod K mg base
 bs:∀ b o,base.get? b=Y o->s.heap.get? b=Y o/\H b=J
 bsz:base.objs.size<=s.heap.objs.size
 funs:s.heap.FunFrames base outer
 frf:∀ b∈Nd outer,H b=J
 hok:HOk P w H s.heap
 bare:AllBare s.gens
def CE(outer:List Env)(P:td)(w:tx)(H:Hp)(s:ce)(Q:VK)(u:ab)(s':ce):Prop:=
 ∃ v H',s'.os=s.os/\AllBare s'.gens/\Un (Nd outer) [] H H' s.heap s'.heap/\HOk P w H' s'.heap/\RelV v u/\Q v H'
def CR(CX:Ng)(outer:List Env)(P:td)(w:tx)(H:Hp)(s:ce)(Q:VK)(E:XK)(r:Result)(s':ce):Prop:=
 match r with
 | .ok (.ret u)=>CE outer P w H s Q u s'
 | .ok _=>False
 | .error e=>CX outer H s E e s'
structure FnOk(P:td)(w:tx)(K:Ym)(mg:Str->Option ab)(base:NY)(CX:Ng)(k:Nat)(f:gV)(fd:FuncData)(ps:List Str)(sp:Sp):Prop where
 len:∀ vs H Q E,sp vs H Q E->vs.length=ps.length
 run:∀ (A:NF) (outer:List Env) (s:ce) (H:Hp) (args:Args) (us:List ab) (vs:List V) (Q:VK) (E:XK),Room k A->VI P w K mg base A outer s H->BindsTo s fd args 2.01->Vals vs us->sp vs H Q E ->
  codeAny 1.37 A (.call (.ref f) args) (CR CX outer P w H s Q E) s
def FnOk.mono{K:Ym}{k:Nat}(F:FnOk P w K mg base CX j f fd ps sp)(h:j<=k) :
  FnOk P w K mg base CX k f fd ps sp:=#[F.len,λA outer s H args us vs Q E hr=>F.run A outer s H args us vs Q E (hr.mono h)]
section
variable{X:Cx}{pins:List (gV×Obj)}{σ:St}{H:Hp}{s s':ce}
def Inv.env0(I:Inv X pins σ H s):VI X.prog X.w X.K X.mg X.base X.A X.stack s H:=
 #[I.ok.frames,I.ok.mod,I.bs,aaJ I.ok.bsz I.sz,I.stack,I.stkFree,I.hok,I.bare]
def Inv.after(I:Inv X pins σ H s)(h:CE X.stack X.prog X.w H s Q u s'):EP X pins σ Q u s':=by
 obtain⟨v,H',os,bare,un,hok,r,q⟩:=h;obtain⟨hh,g,d,t,os'⟩:=s';obtain rfl:os'=s.os:=os;exact#[v,H',I.call (h':=hh) (g':=g) (d':=d) (t':=t) (ch:=[]) un hok bare (λb z=>absurd z 0.3),r,q]
end
def IK(sp:Sp)(dvs:List V)(E:XK)(t:TA):TE:=λσ H Q=>t σ H λvs H1=>sp (vs++dvs) H1 Q E
def Binds(K:Ym)(fd:FuncData)(ps:List Str)(ds:List ab):Prop:=
 ∀ (s:ce) (us:List ab),K.In s.heap->(us++ds).length=ps.length->BindsTo s fd #[us,[]] (ps.zip (us++ds))
def Binds.all{K:Ym}{ps:List Str}(h:∀ us:List ab,us.length=ps.length->bindArgs fd #[us,[]]=pure 2.01):Binds K fd ps []:=λs us z hl=>by
 rw[aaF] at hl ⊢;exact .of_eq (h us hl)
def CD(CX:Ng)(X:Cx)(E:XK):Prop:=∀ (pins:List 2.4) (σ:St) (H:Hp) (s:ce) (e:ab) (s':ce),Inv X pins σ H s->CX X.stack H s E e s'->X.xe e s'
section
variable{X:Cx}{CX:Ng}{k:Nat}{f C:gV}{fd:FuncData}{ps:List Str}{sp:Sp}{dvs:List V}{ds:List ab}{E:XK}{x m:Str}{p pos apos:Pos}{e o:sn}{es:List sn}{ta:TE}{t:TA}
def om{s:ce}(F:FnOk X.prog X.w X.K X.mg X.base CX k f fd ps sp)(hr:Room k X.A)(hb:Binds X.K fd ps ds)(hd:Vals dvs ds)(hx:CD CX X E)
  (I:Inv X pins σ H s) (r:Vals vs us) (h:sp (vs++dvs) H Q E):Xr 0.2 X.A (call (.ref f) us) 4.7 X.xe s:=by
 have r2:Vals (vs++dvs) (us++ds):=r.append hd;have hl:(us++ds).length=ps.length:=by rw[<- r2.length];exact F.len _ _ _ _ h
 refine wpAny_call (acJ (F.run X.A X.stack s H #[us,[]] (us++ds) (vs++dvs) Q E hr I.env0 (hb s us I.kIn hl) r2 h) λr s' hq=>?_);cases r with
 | error e=>exact hx pins σ H s e s' I hq
 | ok fl=>
  cases fl with
  | ret u=>exact I.after hq
  | next=>exact False.elim hq
  | brk=>exact False.elim hq
  | cont=>exact False.elim hq
def kW(F:FnOk X.prog X.w X.K X.mg X.base CX k f fd ps sp)(hr:Room k X.A)(hg:Gl X x)(hm:X.mg x=Y (.ref f))(hk:W.keepIn X.K (.ref f)=true)(hb:Binds X.K fd ps ds)(hd:Vals dvs ds)(hx:CD CX X E)
  (ha:PA X (e::es) t) (hdb:(x==("__debug__":Str))=false:=by decide) (he:Pi (e::es) X.env=2.1::Pi es X.env:=by rfl) (hpl:(backTo pos 2.7).any (·.1)=false:=by rfl) :
  PE X (.Call 8.0 (e::es) [] pos) (IK sp dvs E t):=by
 intro pins s σ H Q I h;refine acm (kY I hg hm ?_ hdb);refine W.callWith_K (h₀:=X.base) I.ok.mod.kin hk (ee 7.0 λus s1 ⟨vs,H1,I1,r,q⟩=>#[I1.kIn,?_]) he hpl;exact om F hr hb hd hx I1 r q
def gh(F:FnOk X.prog X.w X.K X.mg X.base CX k f fd ps sp)(hr:Room k X.A)(hg:Gl X x)(hm:X.mg x=Y (.ref f))(hk:W.keepIn X.K (.ref f)=true)(hb:Binds X.K fd ps ds)(hd:Vals dvs ds)(hx:CD CX X E)
  (hdb:(x==("__debug__":Str))=false:=by decide):PE X (.Call 8.0 [] [] pos) (IK sp dvs E tNil):=by
 intro pins s σ H Q I h;refine acm (kY I hg hm ?_ hdb);exact W.callWith_K0 I.kIn hk (om (us:=[]) F hr hb hd hx I .nil h)
end
structure aU(N P:List Str)(sc:Scope):Prop where
 kind:sc.kind=.function
 co:sc.isCoroutine=false
 gen:sc.isGenerator=false
 nd:N.Nodup
 pre:N.take P.length=P
 par:∀ x∈P,sc.names.lookup x=Y .local\/sc.names.lookup x=Y .cell
 nofree:∀ y∈sc.names,y.2≠.free
def zT{kindOf:Str->Option NameKind}{x:Str}:∀ {binds:List (Str×ab)} {m:Str->Option ab},(∀ v,(x,v)∉binds)->bindL kindOf binds m x=m x
 | [],_,_=>rfl
 | (n,v)::r,m,h=>by
  unfold bindL;rw[zT λw hw=>h w (aac _ hw)];split
  ·have:x≠n:=by rintro rfl;exact h v aab
   simp[this]
  ·rfl
def zV{kindOf:Str->Option NameKind}{x:Str}:∀ {binds:List (Str×ab)} {m:Str->Option ab},(∀ v,(x,v)∉binds)->bindC kindOf binds m x=m x
 | [],_,_=>rfl
 | (n,v)::r,m,h=>by
  unfold bindC;rw[zV λw hw=>h w (aac _ hw)];split
  ·rfl
  ·have:x≠n:=by rintro rfl;exact h v aab
   simp[this]
def zU{kindOf:Str->Option NameKind}:∀ {P:List Str} {vs:List ab} {i:Nat} {m:Str->Option ab},P.Nodup->P[i]?=Y x->vs[i]?=Y v->kindOf x=Y .local ->
  bindL kindOf (P.zip vs) m x=Y v
 | [],_,_,_,_,h,_,_=>by simp at h
 | _::_,[],_,_,_,_,h,_=>by simp at h
 | p::P,w::vs,0,m,nd,h1,h2,hk=>by
  simp at h1 h2;subst h1;subst h2;show bindL kindOf ((p,w)::P.zip vs) m p=_;unfold bindL;rw[zT λv hv=>(aaV.mp nd).1 (adT hv).1,aam hk];simp
 | p::P,w::vs,i+1,m,nd,h1,h2,hk=>by
  show bindL kindOf ((p,w)::P.zip vs) m x=_;unfold bindL;exact zU (i:=i) (aaV.mp nd).2 (by simpa using h1) (by simpa using h2) hk
def zW{kindOf:Str->Option NameKind}:∀ {P:List Str} {vs:List ab} {i:Nat} {m:Str->Option ab},P.Nodup->P[i]?=Y x->vs[i]?=Y v->kindOf x≠Y .local ->
  bindC kindOf (P.zip vs) m x=Y v
 | [],_,_,_,_,h,_,_=>by simp at h
 | _::_,[],_,_,_,_,h,_=>by simp at h
 | p::P,w::vs,0,m,nd,h1,h2,hk=>by
  simp at h1 h2;subst h1;subst h2;show bindC kindOf ((p,w)::P.zip vs) m p=_;unfold bindC;rw[zV λv hv=>(aaV.mp nd).1 (adT hv).1,if_neg hk];simp
 | p::P,w::vs,i+1,m,nd,h1,h2,hk=>by
  show bindC kindOf ((p,w)::P.zip vs) m x=_;unfold bindC;exact zW (i:=i) (aaV.mp nd).2 (by simpa using h1) (by simpa using h2) hk
noncomputable def start(N:List Str)(vs:List V):St:=vs.map Y++ZB (N.length - vs.length) J
def GA(CX:Ng)(P:td)(w:tx)(K:Ym)(mg:Str->Option ab)(base:NY)(N:List Str)(qual:Str)(scope:Scope)(f:gV)(cd:ab)(A:NF)(outer:List Env)(s:ce)(H:Hp)(E:XK):Cx where
 prog:=P
 w:=w
 K:=K
 mg:=mg
 base:=base
 A:=A.deeper 1.10
 N:=N
 s₀:=s
 H₀:=H
 env:=envOfC qual scope s.heap.objs.size f cd
 outer:=outer
 stack:=envOfC qual scope s.heap.objs.size f cd::outer
 ex:=[]
 calm:=true
 fn:=λz=>true
 pn:=[]
 xe:=λe s'=>Xr 1.37 (A.deeper 1.10) (leaving 1.10 e) (λz s''=>CX outer H s E e s'') (λe' s''=>CX outer H s E e' s'') s'
def zS{sc:Scope}(h:sc.names.lookup x=Y .cell):∃ c,(cellsFrom n sc.names []).lookup x=Y c:=by
 have q:=W.cellsFrom_some sc.names n [] (.inl h);exact abI.mp q
def uv{K:Ym}{A:NF}{s:ce}{vs:List V}
  (S:aU N ps scope) (hd:A.handled=J) (e0:VI P w K mg base A outer s H) (hl:vs.length=ps.length) (r:Vals vs us)
  (x:InCallC s s.heap.objs.size (bindL (envOfC qual scope s.heap.objs.size f cd).kindOf 2.01 λj=>J) (cellsFrom (s.heap.objs.size+1) scope.names []) (bindC (envOfC qual scope s.heap.objs.size f cd).kindOf 2.01 λj=>J) s1) :
  Inv (GA CX P w K mg base N qual scope f cd A outer s H E) [] 2.18 H s1:=by
 have hpl:ps.length<=N.length:=by have:=congrArg List.length S.pre;rw[abO] at this;omega
 obtain⟨h1,tk,rfl,hk⟩:=x.done;have noA:∀ b:gV,b∉(GA CX P w K mg base N qual scope f cd A outer s H E).ex:=λb z=>absurd (show b∈([]:List gV) from z) 0.3
 refine⟨#[e0.mod,S.kind,rfl,rfl,aas _,λy z c h1 h2=>?_,λy hy=>?_,λy c j h=>?_,λj=>hd,Around.frames_deeper e0.frames,.inr #[rfl,rfl],λb z=>absurd z (noA b),e0.bs,e0.bsz,λb j j=>noA b,λb z=>absurd z (noA b),e0.funs,e0.frf],
  rfl,e0.bare,Un.kept hk,#[_,x.toInCall.ns,λi y v h1 h2 h3=>?_],λy c h=>#[_,x.cell y c h],e0.hok.fresh (aas _),λy c h=>?_,λp hp=>absurd (show p∈([]:List 2.4) from hp) 0.3,e0.hok.kept hk,?_⟩
 ·exact name_of_addr x.apart (abK h1) (abK h2)
 ·have hy:scope.names.lookup y=Y .cell\/scope.names.lookup y=Y .free:=hy;rcases hy with hy | hy
  ·exact zS hy
  ·exact absurd rfl (S.nofree _ (abK hy))
 ·exact adC (x.above y c (abK h))
 ·have hi:i<vs.length:=by
   unfold start at h2;by_cases hi:i<vs.length
   ·exact hi
   ·rw[aaZ (by simpa using hi)] at h2;rw[aei] at h2;split at h2<;>cases h2
  have ha:vs[i]?=Y v:=by
   unfold start at h2;rw[aap (by simpa using hi),aaP] at h2;cases e:vs[i]? with
   | none=>rw[e] at h2;cases h2
   | some a=>rw[e] at h2;cases h2;rfl
  obtain⟨u,hu,rv⟩:=r.get ha
  have hp:ps[i]?=Y y:=by
   rw[<- S.pre,aed 0.0];exact h1
  have ndP:ps.Nodup:=by rw[<- S.pre];exact S.nd.sublist (List.take_sublist _ _)
  refine#[u,rv,?_];rcases S.par y (aax hp) with k | k
  ·exact .inl #[k,zU ndP hp hu k]
  ·obtain⟨c,e⟩:=zS (n:=s.heap.objs.size+1) k;refine .inr #[.inl k,c,e,?_];have q:=x.cell y c e;rw[zW ndP hp hu (by show scope.names.lookup y≠_;rw[k];decide)] at q;exact q
 ·exact e0.hok.fresh (adC (x.above y c (abK h)))
 ·unfold start;show _=N.length;rw[aal,aaf,List.length_replicate];omega
def fn_of{K:Ym}{k:Nat}{Yx oc:ab}{od:Option gV}
  {osl:Array 1.39} {sp:Sp} (lk:K.lookup f=Y #[oc,od,.func (W.fnOf name qual params body scope dV Yx doc pm an cdv ct),osl]) (hcd:W.codeIn K cdv qual=true) (S:aU N ps scope)
  (len:∀ vs H Q E,sp vs H Q E->vs.length=ps.length)
  (hbody:∀ (A:NF) (outer:List Env) (s:ce) (H:Hp) (vs:List V) (Q:VK) (E:XK),Room k (A.deeper (envOfC qual scope s.heap.objs.size f cdv))->sp vs H Q E ->
   ∃ t,PSs 8.1 body t/\t { nx:=λz H'=>Q .non H',rt:=Q } 2.18 H) :
  FnOk P w K mg base CX (k+1) f (W.fnOf name qual params body scope dV Yx doc pm an cdv ct) ps sp:=by
 refine#[len,λA outer s H args us vs Q E hr e0 hb r hsp=>?_];have hl:=len _ _ _ _ hsp;have KX:K.In s.heap:=e0.mod.kin.keeps λb o e=>(e0.bs b o e).1;have lim:s.heap.NoLimit:=e0.mod.nolimit.keeps λb o e=>(e0.bs b o e).1
 have hkind:∀ y∈ps.zip us,scope.names.lookup y.1=Y .local\/(scope.names.lookup y.1=Y .cell/\((cellsFrom (s.heap.objs.size+1) scope.names []).lookup y.1).isSome=true):=λ⟨n,v⟩ hy=>by
  rcases S.par n (adT hy).1 with q | q
  ·exact .inl q
  ·exact .inr #[q,W.cellsFrom_some _ _ _ (.inl q)]
 refine codeAny_call_function hr.depth (KX _ _ lk) rfl S.co S.gen rfl (W.codeRec_of KX hcd) (hb _ _ _ _ ?_);refine wpAny_newFunctionEnv_cells S.kind hkind λenv he s1 x=>?_;subst he;refine#[lim.keeps x.toInCall.keep,codeAny_func ?_];obtain⟨t,ht,hq⟩:=hbody A outer s H vs Q E (hr.deeper _) hsp;have I:Inv 8.1 [] 2.18 H s1:=uv S hr.hd e0 hl r x;refine abb (ht [] s1 2.18 H _ I hq) (λfl s' hs=>?_) λe s' hs=>hs
 have fin:∀ {σ':St} {H':Hp} {v:V} {u:ab},Inv 8.1 [] σ' H' s'->RelV v u->Q v H'->CE outer P w H s Q u s':=
  λ{σ' H' v u} J0 rv q=>#[v,H',J0.os,J0.bare,J0.base,J0.hok,rv,q]
 cases fl with
 | ret u=>
  obtain⟨v,σ',H',J0,rv,q⟩:=hs;exact fin J0 rv q
 | next=>
  obtain⟨σ',H',J0,q⟩:=hs;exact fin (v:=V.non) (u:=Value.none) J0 rfl q
 | brk=>
  obtain⟨z,z,z,q⟩:=hs;exact False.elim q
 | cont=>
  obtain⟨z,z,z,q⟩:=hs;exact False.elim q
section
variable{X:Cx}{x:Str}{p pos:Pos}{e:sn}{es:List sn}{t:TA}{id T:String}{r:List V->Hp->VK->Prop}
def A0g(r:List V->Hp->VK->Prop)(t:TA):TE:=λσ H Q=>t σ H λvs H1=>r vs H1 Q
def xi(hc:CallR X 6.4 r)(hg:Gl X x)(hm:X.mg x=J)(hv:bootBuiltins x=Y 6.4)(ha:PA X (e::es) t)(hn:x≠"__name__":=by decide)(hdb:(x==("__debug__":Str))=false:=by decide)
  (he:Pi (e::es) X.env=2.1::Pi es X.env:=by rfl) (hpl:(backTo pos 2.7).any (·.1)=false:=by rfl):PE X (.Call 8.0 (e::es) [] pos) (A0g r t):=by
 intro pins s σ H Q I h;refine acm (nP I hg hm hv ?_ hn hdb);exact PyProof.Rows.callWith_builtin1 (ee 7.0 λus s1 ⟨vs,H1,I1,r1,q1⟩=>hc pins s1 σ H1 vs us Q I1 r1 q1) he hpl
def tq(hc:CallR X 1.96 r)(hg:Gl X x)(hm:X.mg x=J)(hv:bootBuiltins x=Y 1.96)(ha:PA X (e::es) t)(hn:x≠"__name__":=by decide)(hdb:(x==("__debug__":Str))=false:=by decide)
  (he:Pi (e::es) X.env=2.1::Pi es X.env:=by rfl) (hpl:(backTo pos 2.7).any (·.1)=false:=by rfl):PE X (.Call 8.0 (e::es) [] pos) (A0g r t):=by
 intro pins s σ H Q I h;refine acm (nP I hg hm hv ?_ hn hdb);exact abo (ee 7.0 λus s1 ⟨vs,H1,I1,r1,q1⟩=>hc pins s1 σ H1 vs us Q I1 r1 q1) he hpl
end
end L2
namespace HT
section
variable{prog:td}{w:tx}{A:NF}{E:ab->ce->Prop}{s:ce}
theorem Vr{vs ws:List ab}{Q:ab->ce->Prop}(ht:IsTup s.heap t vs.toArray)(hb:IsTup s.heap b ws.toArray)(hv:vs≠[])
  (h1:ws=[]->Q (.ref t) s) (h2:ws≠[]->Q 3.3 { s with heap:=s.heap.push { cls:=.type "tuple",data:=.seq (vs++ws).toArray } })
  (hsz:vs.length+ws.length<=Ph):Xr 2.3 A (VR .Add (.ref t) (.ref b)) Q E s:=by
 obtain⟨⟨cls,dd,data,sl⟩,ho,hc,n,hd⟩:=id ht;obtain⟨⟨cls2,dd2,data2,sl2⟩,ho2,hc2,n2,hd2⟩:=id hb;simp only at hc hd hc2 hd2;subst hc hd hc2 hd2;have e:vs.toArray++ws.toArray=(vs++ws).toArray:=by simp
 by_cases hw:ws=[]
 ·exact aeu #[_,ho,rfl] #[_,ho2,rfl] adF aef adI ady (adu _ _)
   (tuple_addW1 t b vs.toArray ws.toArray n n2 dd dd2 sl sl2 (by simpa using hv) (by simp[hw])) #[ho,ho2,h1 hw]
 ·refine aeu #[_,ho,rfl] #[_,ho2,rfl] adF aef adI ady (adu _ _)
   (tuple_addW2 t b vs.toArray ws.toArray n n2 dd dd2 sl sl2 (by simpa using hv) (by simpa using hw) (by rw[aah,aah];exact hsz)) #[ho,ho2,?_]
  rw[e];exact h2 hw
noncomputable def fU(n d:Nat):Option Int->Nat
 | none=>d
 | some v=>if v<0 then(v+(n:Int)).toNat else min v.toNat n
theorem NT(n d:Nat):fU n d J=d:=rfl
theorem SA(n d k:Nat):fU n d (Y (k:Int))=min k n:=by
 show(if (k:Int)<0 then((k:Int)+(n:Int)).toNat else min (k:Int).toNat n)=min k n;rw[if_neg 0.0,abf]
def jn(n d:Nat)(hd:d<=n)(o:Option Int):fU n d o<=n:=by
 cases o with
 | none=>exact hd
 | some v=>
  show(if v<0 then(v+(n:Int)).toNat else min v.toNat n)<=n;by_cases hv:v<0
  ·rw[aam hv];omega
  ·rw[if_neg hv];exact Nat.min_le_right _ _
def yq(v:Int)(n d:Nat):(if v<0 then max (v+(n:Int)) 0 else min v (n:Int))=((fU n d (Y v):Nat):Int):=by
 show(if v<0 then max (v+(n:Int)) 0 else min v (n:Int))=(((if v<0 then(v+(n:Int)).toNat else min v.toNat n):Nat):Int);by_cases hv:v<0
 ·simp only[aam hv];omega
 ·simp only[if_neg hv];omega
def jm(lo hi:Option Int)(n:Nat):Builtin.Slice.sliceAdjust lo hi 1 (n:Int)=(1.46,((fU n n hi:Nat):Int)):=by
 have h1:¬ ((1:Int)<0):=by omega
 unfold Builtin.Slice.sliceAdjust;simp only[h1,abE];refine Prod.ext ?_ ?_
 ·cases lo with
  | none=>rfl
  | some v=>exact yq v n 0
 ·cases hi with
  | none=>rfl
  | some v=>exact yq v n n
def fH(i j:Nat):Builtin.Slice.slicePlaces (i:Int) (j:Int) 1=j - i:=by
 unfold Builtin.Slice.slicePlaces;have h1:(1:Int)>0:=by omega
 simp only[h1,abT,Int.ediv_one];split<;>omega
def vq{Q:Option Int->ce->Prop}(p:IsPart v o)(h:Q o s):Xr 2.3 A (Builtin.Slice.slicePartIndex v) Q E s:=by
 cases p with
 | none=>exact slicePart_none h
 | int i t=>exact slicePart_int h
def ly{lo:Option Int}{n:Nat}{Q:Int×Int×Nat->ce->Prop}(hs:s.heap.IsSliceOf sl vl vu .none)(pl:IsPart vl lo)(pu:IsPart vu hi)
  (h:Q (1.46,1,fU n n hi - fU n 0 lo) s):Xr 2.3 A (Builtin.Slice.sliceApplied 2.99 (pure (n:Int))) Q E s:=by
 obtain⟨os,hos,hcs,hds⟩:=id hs;unfold Builtin.Slice.sliceApplied Builtin.Slice.sliceFields;refine aad (aad (abq hos hds (x:=vl) rfl (aad (abq hos hds (x:=vu) rfl (aad (abq hos hds (x:=.none) rfl (aaB ?_)))))));refine aad (slicePart_none ?_);show Xr _ _ (if ((1:Int)==0)=true then _ else _) _ _ s;rw[if_neg 0.1];refine aad (vq pl (aad (vq pu (aad (aaB ?_)))));show Xr _ _ (match Builtin.Slice.sliceAdjust lo hi 1 (n:Int) with | (lo,hi)=>pure (lo,(1:Int),Builtin.Slice.slicePlaces lo hi 1)) _ _ s;rw[jm lo hi n];show Xr _ _ (pure (1.46,(1:Int),Builtin.Slice.slicePlaces 1.46 ((fU n n hi:Nat):Int) 1)) _ _ s;rw[fH];exact aaB h
def ux(xs:Array ab)(i k:Nat):((List.range k).filterMap λ(m:Nat)=>xs[((i:Int)+(m:Int)*1).toNat]?).toArray=((xs.toList.drop i).take k).toArray:=by
 have e:(λ(m:Nat)=>xs[((i:Int)+(m:Int)*1).toNat]?)=λm=>xs[i+m]?:=by
  funext m;have:((i:Int)+(m:Int)*1).toNat=i+m:=by omega
  rw[this]
 rw[e];have:=pick_run xs i k;rw[List.filterMap_map] at this;have e2:((λx=>xs[x]?) ∘ λx=>i+x)=λm=>xs[i+m]?:=rfl;rw[e2] at this;rw[this]
def rm{lo:Option Int}{Q:ab->ce->Prop}(ht:IsTup s.heap t items)(hs:s.heap.IsSliceOf sl vl vu .none)(pl:IsPart vl lo)(pu:IsPart vu hi)
  (hw:¬ (fU items.size 0 lo=0/\fU items.size items.size hi=items.size))
  (h:Q 3.3 { s with heap:=s.heap.push { cls:=.type "tuple",data:=.seq ((items.toList.drop 2.38).take (fU items.size items.size hi - fU items.size 0 lo)).toArray } })
  (hsz:items.size<=Ph):Xr 2.3 A (getItem (.ref t) 2.99) Q E s:=by
 have htake:sizeOk (.seq ((items.toList.drop 2.38).take (fU items.size items.size hi - fU items.size 0 lo)).toArray):=by
  show((items.toList.drop 2.38).take (fU items.size items.size hi - fU items.size 0 lo)).toArray.size<=Ph;rw[aah,abO,acX,acI];omega
 have hj:fU items.size items.size hi<=items.size:=jn _ _ (aas _) hi;obtain⟨os,hos,hcs,hds⟩:=id hs;have hTs:s.TypeIs 2.99 "slice":=#[os,hos,hcs]
 unfold getItem
 try with_reducible refine abt ?_
 first | refine aad (aaB ?_) | skip
 refine aad (wpAny_sequenceKey ht.typeIs 0.1 ?_)
 refine aad (abz (name:=Str.ofString "__getitem__") ht.typeIs abH
  (acg abH ht.typeIs aeF ?_ (aeL _ _)))
 show Xr _ _ (Builtin.Tuple.tupleItemsOf (.ref t) >>= _) _ _ s;refine aad (tupleItemsOf_ ht ?_);refine aad (aer hTs ?_);rw[aam 0.1];refine aad (ly hs pl pu ?_)
 have hno:¬ ((7.7==0&&(1:Int)==1&&(fU items.size items.size hi - fU items.size 0 lo)==items.size)=true):=by
  intro q;rw[aag,aag] at q;have q1:7.7=0:=eq_of_beq q.1.1;have q2:fU items.size items.size hi - fU items.size 0 lo=items.size:=eq_of_beq q.2;exact hw #[by omega,by omega]
 show Xr _ _ (if (7.7==0&&(1:Int)==1&&(fU items.size items.size hi - fU items.size 0 lo)==items.size)=true then _ else _) _ _ s;rw[if_neg hno,ux]
 first
  | exact aad (m:=Builtin.Tuple.tupleExact _) (aba 1.05 htake)
  | exact aad (m:=Builtin.Tuple.tupleExact _) (aba (aad (aaB 1.05)) htake)
  | exact aad (aad (m:=Builtin.Tuple.tupleExact _) (aba (aaB 1.05) htake))
  | exact aad (aad (m:=Builtin.Tuple.tupleExact _) (aba 1.05 htake))
end
end HT
namespace L2
noncomputable abbrev TO:=St->Hp->(Option Int->Hp->Prop)->Prop
def PO(X:Cx)(e:Option sn)(t:TO):Prop:=
 ∀ (pins:List 2.4) (s:ce) (σ:St) (H:Hp) (Q:Option Int->Hp->Prop),Inv X pins σ H s->t σ H Q ->
  Xr 0.2 X.A (evalPart e X.env) (λu s'=>∃ o H',Inv X pins σ H' s'/\IsPart u o/\Q o H') X.xe s
def Sn:TO:=λz H Q=>Q J H
noncomputable def tPart(t:TE):TO:=λσ H Q=>t σ H λx H1=>∃ i,x=.int i/\Q (Y i) H1
section
variable{X:Cx}{e:sn}{te:TE}{lo hi:Option sn}{tl th:TO}{pos p2:Pos}
def lm:PO X J Sn:=by
 intro pins s σ H Q I h;rw[evalPart_none];exact aaB #[J,H,I,.none,h]
def wY(h:PE X e te):PO X (Y e) (tPart te):=by
 intro pins s σ H Q I hw;rw[evalPart_some];refine ee (h pins s σ H _ I hw) λu s1 ⟨x,H1,I1,r1,q1⟩=>?_;obtain⟨i,rfl,q⟩:=q1;obtain⟨t,rfl⟩:=r1;exact#[Y i,H1,I1,.int i t,q]
def SlR(X:Cx)(r:V->Option Int->Option Int->Hp->VK->Prop):Prop:=
 ∀ (pins:List 2.4) (s:ce) (σ:St) (H:Hp) (x:V) (v vl vu:ab) (lo hi:Option Int) (sl:gV) (Q:VK),Inv X pins σ H s->RelV x v->s.heap.IsSliceOf sl vl vu .none->IsPart vl lo->IsPart vu hi->r x lo hi H Q ->
  ∃ T id,typeLookup 1.96 "__getitem__" = pure (Y 6.4)/\s.TypeIs v T/\Xr 0.2 X.A (getItem v 2.99) 4.7 X.xe s
def SlR.or(h:SlR X r)(h':SlR X r'):SlR X (λx lo hi H Q=>r x lo hi H Q\/r' x lo hi H Q):=by
 intro pins s σ H x v vl vu lo hi sl Q I rx hs pl pu q;rcases q with q | q
 ·exact h pins s σ H x v vl vu lo hi sl Q I rx hs pl pu q
 ·exact h' pins s σ H x v vl vu lo hi sl Q I rx hs pl pu q
def A0h(r:V->Option Int->Option Int->Hp->VK->Prop)(te:TE)(tl th:TO):TE:=λσ H Q=>te σ H λx H1=>tl σ H1 λl H2=>th σ H2 λu H3=>r x l u H3 Q
def cY(hr:SlR X r)(he:PE X e te)(hl:PO X lo tl)(hu:PO X hi th):PE X (.Subscript e 2.56 pos) (A0h r te tl th):=by
 intro pins s σ H Q I h;refine Subscript_ (ee 7.2 λv s1 ⟨x,H1,I1,r1,q1⟩=>?_);refine wpAny_Slice (ee (hl pins s1 σ H1 _ I1 q1) λvl s2 ⟨l,H2,I2,pl,q2⟩=>ee (hu pins s2 σ H2 _ I2 q2) λvu s3 ⟨u,H3,I3,pu,q3⟩=>?_);rw[evalPart_none];refine aaB ?_;have I4:Inv X pins σ H3 { s3 with heap:=s3.heap.push { cls:=.type "slice",data:=.fields (List.toArray [vl,vu,.none]) } }:=I3.kept (t':=s3.toks) λb ob q=>aak _ q;obtain⟨T,id,hT,ht,hg⟩:=hr pins { s3 with heap:=s3.heap.push { cls:=.type "slice",data:=.fields (List.toArray [vl,vu,.none]) } } σ H3 x v vl vu l u s3.heap.objs.size Q I4 r1 (Heap.IsSliceOf.new ..) pl pu q3;show Xr 0.2 X.A (subscriptTail e 2.56 v (.ref s3.heap.objs.size)) 4.7 X.xe { s3 with heap:=s3.heap.push { cls:=.type "slice",data:=.fields (List.toArray [vl,vu,.none]) } };exact tail_any (ops:=[.ref s3.heap.objs.size,v]) ht hT hg (by with_unfolding_all rfl)
def FB(xs:List V)(lo hi:Option Int):List V:=(xs.drop 1.36).take (HT.fU xs.length xs.length hi - HT.fU xs.length 0 lo)
def uw(xs:List V)(lo hi:Option Int):(FB xs lo hi).length<=xs.length:=by
 unfold FB;rw[abO,acX];omega
noncomputable def rSlT(K:Ym):V->Option Int->Option Int->Hp->VK->Prop:=λx lo hi H Q=>∃ a xs,x=.ref a/\DF K H a xs /\
 ¬ (HT.fU xs.length 0 lo=0/\HT.fU xs.length xs.length hi=xs.length)/\∀ p,H p=J->Q (.ref p) (upd H p (.tup 2.90))
def jj:SlR X (rSlT X.K):=by
 intro pins s σ H x v vl vu lo hi sl Q I rx hs pl pu h;obtain⟨a,xs,rfl,hx,hw,q⟩:=h;cases rx;obtain⟨its,r,ht,hz⟩:=I.tuple hx;have hlen:its.toArray.size=xs.length:=by rw[aah];exact r.length.symm
 refine#["tuple",_,PyProof.Rows.slot_tuple_getitem.lookup,ht.typeIs,?_];refine HT.rm ht hs pl pu (by rw[hlen];exact hw) ?_ (by rw[hlen];exact hz);rw[hlen];refine#[.ref s.heap.objs.size,_,I.laid (t':=s.toks) (o:=.tup 2.90) (λb ob q=>aak _ q) (aas _) ?_,rfl,q _ 1.14];exact#[aaJ (uw xs lo hi) hz,_,(r.drop 1.36).take (HT.fU xs.length xs.length hi - HT.fU xs.length 0 lo),IsTupN.new _ _]
noncomputable def rCatT(K:Ym):R2:=λx y H Q=>∃ a b xs ys,x=.ref a/\y=.ref b/\DF K H a xs/\DF K H b ys/\xs≠[]/\xs.length+ys.length<=Ph /\
 (ys=[]->Q (.ref a) H)/\(ys≠[]->∀ p,H p=J->Q (.ref p) (upd H p (.tup (xs++ys))))
def Vals.nil_iff(r:Vals xs us):us=[]↔xs=[]:=by
 cases r with
 | nil=>simp
 | cons _ _=>simp
def tG:OpR X 2.96 (rCatT X.K):=by
 intro pins s σ H x y v u Q I rx ry h;obtain⟨a,b,xs,ys,rfl,rfl,ha,hb,hx,hz,q1,q2⟩:=h;cases rx;cases ry;obtain⟨its,r1,p1,j⟩:=I.tuple ha;obtain⟨its2,r2,p2,j⟩:=I.tuple hb;refine HT.Vr p1 p2 (λz=>hx (r1.nil_iff.mp z)) (λz=>#[.ref a,H,I,rfl,q1 (r2.nil_iff.mp z)]) (λz=>?_) (by rw[<- r1.length,<- r2.length];exact hz);refine#[.ref s.heap.objs.size,_,I.laid (t':=s.toks) (o:=.tup (xs++ys)) (λb ob q=>aak _ q) (aas _) ?_,rfl,q2 (λw=>z (r2.nil_iff.mpr w)) _ 1.14];exact#[by rw[aal];exact hz,_,r1.append r2,IsTupN.new _ _]
end
def FQ(n:Nat)(i:Int):Option Nat:=if 0<=i then(if i<n then Y i.toNat else J) else if -(n:Int)<=i then Y (i+n).toNat else J
def AK{α:Type}(xs:List α)(i:Int):Option α:=(FQ xs.length i).bind λj=>xs[j]?
def pF(h:FQ n i=Y j):seqIndex? i n=Y j/\j<n/\-(n:Int)<=i/\i<n:=by
 unfold FQ at h;by_cases h0:0<=i
 ·rw[aam h0] at h;by_cases h1:i<n
  ·rw[aam h1] at h;have e:i.toNat=j:=aau h;exact#[by rw[aeE h0 h1,e],by omega,by omega,h1]
  ·rw[if_neg h1] at h;cases h
 ·rw[if_neg h0] at h;by_cases h1:-(n:Int)<=i
  ·rw[aam h1] at h;have e:(i+n).toNat=j:=aau h;exact#[by rw[aet 0.0 h1,e],by omega,h1,by omega]
  ·rw[if_neg h1] at h;cases h
def vE{α:Type}{xs:List α}{i:Int}{v:α}(h:AK xs i=Y v):∃ j,seqIndex? i xs.length=Y j/\xs[j]?=Y v/\j<xs.length/\-(xs.length:Int)<=i/\i<xs.length:=by
 unfold AK at h;cases e:FQ xs.length i with
 | none=>rw[e] at h;cases h
 | some j=>
  rw[e] at h;obtain⟨h1,h2,h3,h4⟩:=pF e;exact#[j,h1,h,h2,h3,h4]
def XH(b:sn):Prop:=∀ o i,subscripted b false o i=operate [o,i] (getItem o i)
def IxR(X:Cx)(r:R2):Prop:=
 ∀ (value slice:sn) (pins:List 2.4) (s:ce) (σ:St) (H:Hp) (x y:V) (v u:ab) (Q:VK),Inv X pins σ H s->RelV x v->RelV y u->r x y H Q ->
  subscripted slice false v u=operate [v,u] (getItem v u)->Xr 0.2 X.A (subscriptTail value slice v u) 4.7 X.xe s
def MtR(X:Cx)(id:String)(r:V->List V->Hp->VK->Prop):Prop:=
 ∀ (pins:List 2.4) (s:ce) (σ:St) (H:Hp) (x:V) (xs:List V) (v:ab) (us:List ab) (Q:VK),Inv X pins σ H s->RelV x v->Vals xs us->r x xs H Q ->
  Xr 0.2 X.A (call 6.4 (v::us)) 4.7 X.xe s
section
variable{X:Cx}{a b:sn}{ta tb:TE}{pos:Pos}
def IxR.or(h:IxR X r)(h':IxR X r'):IxR X (λx y H Q=>r x y H Q\/r' x y H Q):=by
 intro value slice pins s σ H x y v u Q I rx ry q hs;rcases q with q | q
 ·exact h value slice pins s σ H x y v u Q I rx ry q hs
 ·exact h' value slice pins s σ H x y v u Q I rx ry q hs
def yU(hr:IxR X r)(ha:PE X a ta)(hb:PE X b tb)(hs:XH b):PE X (.Subscript a b pos) 3.17:=by
 intro pins s σ H Q I h;exact Subscript_ (qa4 ha hb I h λv u s2 x y H2 I2 rx ry q=>hr a b pins s2 σ H2 x y v u Q I2 rx ry q (hs _ _))
def Xs(K:Ym):R2:=λx y H Q=>∃ p xs i v,x=.ref p/\y=.int i/\Yv K H p xs/\AK xs i=Y v/\Q v H
noncomputable def rIxT(K:Ym):R2:=λx y H Q=>∃ p xs i v,x=.ref p/\y=.int i/\DF K H p xs/\AK xs i=Y v/\Q v H
def ix_list:IxR X (Xs X.K):=by
 intro value slice pins s σ H x y v u Q I rx ry h hs;obtain⟨p,xs,i,z,rfl,rfl,hq,he,q⟩:=h;cases rx;obtain⟨t,rfl⟩:=ry;obtain⟨its,r,pl,hz⟩:=I.list hq;obtain⟨j,h1,h2,h3,h4,h5⟩:=vE he;obtain⟨w,ew,rw'⟩:=r.get h2;have hl:=r.length;have hn:=sQ;have fin:EP X pins σ Q w s:=#[z,H,I,rw',q]
 by_cases h0:0<=i
 ·have hj:i.toNat=j:=by
   rw[aeE h0 h5] at h1;exact aau h1
  exact item_listR pl.isList h0 0.0 (by rw[hj];simpa using ew) fin hs
 ·have hj:(i+(its.toArray.size:Int)).toNat=j:=by
   rw[aet 0.0 h4] at h1;rw[aah,<- hl];exact aau h1
  exact aen (x:=w) pl.isList.typeIs slot_list_getitem.lookup
   (wpAny_getItem_list_neg (Q:=λr s'=>r=w/\EP X pins σ Q r s') pl.isList 0.0 (by rw[aah]<;>omega) 0.0 (by rw[hj];simpa using ew) #[rfl,fin]) hs
def uJ:IxR X (rIxT X.K):=by
 intro value slice pins s σ H x y v u Q I rx ry h hs;obtain⟨p,xs,i,z,rfl,rfl,hq,he,q⟩:=h;cases rx;obtain⟨t,rfl⟩:=ry;obtain⟨its,r,pl,hz⟩:=I.tuple hq;obtain⟨j,h1,h2,h3,h4,h5⟩:=vE he;obtain⟨w,ew,rw'⟩:=r.get h2;have hl:=r.length;have hn:=sQ;have fin:EP X pins σ Q w s:=#[z,H,I,rw',q]
 exact aen (x:=w) pl.typeIs slot_tuple_getitem.lookup
  (getItem_tuple (j:=j) (Q:=λr s'=>r=w/\EP X pins σ Q r s') pl 0.0 0.0 (by rw[aah,<- hl];exact h1) (by simpa using ew) #[rfl,fin]) hs
def nz(its:List ab)(n j:Nat)(u:ab):Obj.mapSeq (·.setIfInBounds j u) { cls:=.type "list",data:=.seq its.toArray n } = { cls:=.type "list",data:=.seq (its.set j u).toArray n }:=by
 simp[Obj.mapSeq]
def Inv.lst{s:ce}(I:Inv X pins σ H s)(h:H p=Y 1.5) :
  ∃ (its:List ab) (n:Nat),Vals xs its/\s.heap.get? p=Y { cls:=.type "list",data:=.seq its.toArray n }/\xs.length<=Ph:=by
 obtain⟨z,its,n,r,e⟩:=I.hok p _ h;exact#[its,n,r,e,z]
def Inv.lstUpd{s:ce}{its its':List ab}{f:Obj->Obj}(I:Inv X pins σ H s)(h:H p=Y 1.5)
  (ho:s.heap.get? p=Y { cls:=.type "list",data:=.seq its.toArray n }) (hf:f { cls:=.type "list",data:=.seq its.toArray n } = { cls:=.type "list",data:=.seq its'.toArray n' }) (r:Vals ys its') (hz:ys.length<=Ph) (t:Nat) :
  Inv X pins σ (upd H p 1.98) { s with heap:=s.heap.update p f,toks:=t }:=by
 have e:(s.heap.update p f).get? p=Y { cls:=.type "list",data:=.seq its'.toArray n' }:=by
  rw[abm f ho (by rw[hf]<;>rfl),hf]
 refine I.write (x:=p) (e:=p) (by rw[h];trivial) 4.6 (λb u hb q=>(aeq _ _ (Ne.symm hb)).trans q) #[_,e] ?_;exact#[hz,its',n',r,e]
noncomputable def rSetL:V->V->V->Hp->(Hp->Prop)->Prop:=λo i v H Q=>∃ p xs k j,o=.ref p/\i=.int k/\H p=Y 1.5/\FQ xs.length k=Y j/\Q (upd H p (.lst (xs.set j v)))
def xH:A0d X rSetL:=by
 intro pins s σ H o i v ov iv u Q I ro ri rv h;obtain⟨p,xs,k,j,rfl,rfl,hp,hj,q⟩:=h;cases ro;obtain⟨t,rfl⟩:=ri;obtain⟨its,n,r,ho,hz⟩:=I.lst hp;obtain⟨h1,h2,h3,h4⟩:=pF hj;have hl:=r.length;have hn:=sQ
 have I':Inv X pins σ (upd H p (.lst (xs.set j v))) { s with heap:=s.heap.update p (Obj.mapSeq (·.setIfInBounds j u)) }:=
  I.lstUpd hp ho (nz its n j u) (r.set rv j) (by rw[abY];exact hz) s.toks
 by_cases h0:0<=k
 ·have hk:k.toNat=j:=by
   rw[aeE h0 h4] at h1;exact aau h1
  exact W.ki_setAt ho h0 0.0 (by rw[aah,<- hl];exact h4) (by rw[hk];exact#[_,I',q])
 ·have hk:(k+(its.toArray.size:Int)).toNat=j:=by
   rw[aet 0.0 h3] at h1;rw[aah,<- hl];exact aau h1
  exact W.ki_setBack ho 0.0 (by rw[aah,<- hl];exact h3) 0.0 (by rw[hk];exact#[_,I',q])
def ou(lo hi:Option Int)(n:Nat):(sliceBounds lo hi J n).1=((HT.fU n 0 lo:Nat):Int)/\(sliceBounds lo hi J n).2.1=((HT.fU n n hi:Nat):Int)/\(sliceBounds lo hi J n).2.2=1:=by
 refine#[?_,?_,rfl]
 ·cases lo with
  | none=>simp[sliceBounds,HT.fU]
  | some i=>
   simp only[sliceBounds,HT.fU,Option.getD_none,show(1:Int)>0 by decide,abT];by_cases h:i<0
   ·simp only[h,abT]<;>omega
   ·simp only[h,abE]<;>omega
 ·cases hi with
  | none=>simp[sliceBounds,HT.fU]
  | some i=>
   simp only[sliceBounds,HT.fU,Option.getD_none,show(1:Int)>0 by decide,abT];by_cases h:i<0
   ·simp only[h,abT]<;>omega
   ·simp only[h,abE]<;>omega
def xP(its:List ab)(lo hi:Option Int):slicePick its.toArray lo hi J=((its.drop (HT.fU its.length 0 lo)).take (HT.fU its.length its.length hi - HT.fU its.length 0 lo)).toArray:=by
 obtain⟨h1,h2,h3⟩:=ou lo hi its.toArray.size;unfold slicePick;rw[h1,h2,h3];simp only[sliceRange_one,pick_run,aah]<;>rfl
noncomputable def rSlL(K:Ym):V->Option Int->Option Int->Hp->VK->Prop:=λx lo hi H Q=>∃ a xs,x=.ref a/\Yv K H a xs/\∀ p,H p=J->Q (.ref p) (upd H p (.lst 2.90))
def ev:SlR X (rSlL X.K):=by
 intro pins s σ H x v vl vu lo hi sl Q I rx hs pl pu h;obtain⟨a,xs,rfl,hx,q⟩:=h;cases rx;obtain⟨its,r,ht,hz⟩:=I.list hx;have hlen:=r.length;refine#["list",_,slot_list_getitem.lookup,ht.isList.typeIs,?_];refine wpAny_getItem_list_slice ht.isList hs pl pu .none 0.3 ?_ (by rw[aah]<;>omega);rw[xP,<- hlen];refine#[.ref s.heap.objs.size,_,I.laid (t':=s.toks) (o:=.lst 2.90) (λb ob q=>aak _ q) (aas _) ?_,rfl,q _ 1.14];exact#[aaJ (uw xs lo hi) hz,_,0,(r.drop 1.36).take (HT.fU xs.length xs.length hi - HT.fU xs.length 0 lo),aaC _ rfl]
def call_len_seq:CallR X (.builtin "len") (λxs H Q=>∃ p ys,xs=[.ref p]/\(Yv X.K H p ys\/DF X.K H p ys)/\Q (.int ys.length) H):=by
 intro pins s σ H xs us Q I r h;obtain⟨p,ys,rfl,hq,q⟩:=h;obtain⟨u,rfl,rx⟩:=tQ r;cases rx;have hn:=sQ;rcases hq with hq | hq
 ·obtain⟨its,r',pl,hz⟩:=I.list hq;have hlen:=r'.length;exact Calls.call_len_list pl.isList (by simp only[aah]<;>omega) #[.int ys.length,H,I.tok _,#[s.toks+1,by rw[aah,hlen]],q]
 ·obtain⟨its,r',pl,hz⟩:=I.tuple hq;have hlen:=r'.length;exact len_tuple pl (by simp only[aah]<;>omega) #[.int ys.length,H,I.tok _,#[s.toks+1,by rw[aah,hlen]],q]
def mz:CallR X (.builtin "len") (λxs H Q=>∃ z,xs=[.str z]/\z.length<=Ph/\Q (.int z.length) H):=by
 intro pins s σ H xs us Q I r h;obtain⟨z,rfl,hz,q⟩:=h;obtain⟨u,rfl,t,rfl⟩:=tQ r;have hn:=sQ;exact len_str 0.0 #[.int z.length,H,I.tok _,#[_,rfl],q]
def CallR.or(h:CallR X f r)(h':CallR X f r'):CallR X f (λxs H Q=>r xs H Q\/r' xs H Q):=by
 intro pins s σ H xs us Q I rs q;rcases q with q | q
 ·exact h pins s σ H xs us Q I rs q
 ·exact h' pins s σ H xs us Q I rs q
def zr:CallR X (.type "list") (λxs H Q=>∃ p ys,xs=[.ref p]/\(Yv X.K H p ys\/DF X.K H p ys)/\∀ l,H l=J->Q (.ref l) (upd H l 1.98)):=by
 intro pins s σ H xs us Q I r h;obtain⟨p,ys,rfl,hq,q⟩:=h;obtain⟨u,rfl,rx⟩:=tQ r;cases rx
 have fin:∀ (its:List ab),Vals ys its->ys.length<=Ph->∀ (h':NY) (c':Nat),(∀ b o',s.heap.get? b=Y o'->h'.get? b=Y o') ->
   h'.get? s.heap.objs.size=Y { cls:=.type "list",dict:=J,data:=.seq its.toArray c',slots:=(List.toArray []) }->EP X pins σ Q 3.3 { s with heap:=h' }:=λits r' hz h' c' kp e=>
  #[.ref s.heap.objs.size,_,I.laid (t':=s.toks) kp (aas _) (show ObjOk X.prog X.w _ h' _ 1.98 from #[hz,its,c',r',e]),rfl,q _ 1.14]
 rcases hq with hq | hq
 ·obtain⟨its,r',pl,hz⟩:=I.list hq;have hlen:=r'.length;obtain⟨o,ho,hc,n,hd⟩:=pl.isList;exact call_list_seq p 4.6 ho hc hd (λh' c' kp e=>fin its r' hz h' c' kp e) (by simp only[aah]<;>omega)
 ·obtain⟨its,r',pl,hz⟩:=I.tuple hq;have hlen:=r'.length;obtain⟨o,ho,hc,n,hd⟩:=pl;exact call_list_seq p 3.22 ho hc hd (λh' c' kp e=>fin its r' hz h' c' kp e) (by simp only[aah]<;>omega)
def yx:CallR X (.type "tuple") (λxs H Q=>∃ p ys,xs=[.ref p]/\((Yv X.K H p ys/\∀ l,H l=J->Q (.ref l) (upd H l (.tup ys)))\/(DF X.K H p ys/\Q (.ref p) H))):=by
 intro pins s σ H xs us Q I r h;obtain⟨p,ys,rfl,h⟩:=h;obtain⟨u,rfl,rx⟩:=tQ r;cases rx;rcases h with ⟨hq,q⟩ | ⟨hq,q⟩
 ·obtain⟨its,r',pl,hz⟩:=I.list hq;have hlen:=r'.length;refine call_tuple_list pl.isList (λh' kp=>?_) (by simp only[aah]<;>omega);have I1:Inv X pins σ H { s with heap:=h' }:=I.kept (t':=s.toks) kp
  have I2:Inv X pins σ (upd H h'.objs.size (.tup ys)) { s with heap:=h'.push { cls:=.type "tuple",data:=.seq its.toArray } }:=
   I1.laid (t':=s.toks) (λb o e=>aak _ e) (aas _) (show ObjOk X.prog X.w _ _ _ (.tup ys) from #[hz,its,r',IsTupN.new _ _])
  exact#[.ref h'.objs.size,_,I2,rfl,q _ 8.9]
 ·obtain⟨its,r',pl,hz⟩:=I.tuple hq;exact call_tuple_same pl #[.ref p,H,I,rfl,q]
def A0i(K:Ym)(T:String)(x:V)(H:Hp):Prop:=match x with
 | .str _=>T = "str"
 | .int _=>T = "int"
 | .ref p=>(T = "list"/\∃ xs,Yv K H p xs)\/(T = "tuple"/\∃ o,K.lookup p=Y o/\o.cls=.type "tuple"/\o.dict=J) \/
   (T = "dict"/\∃ kvs,H p=Y 2.5)\/(T = "set"/\∃ S n,H p=Y (.set S n))
 | _=>False
def xQ{s:ce}(I:Inv X pins σ H s)(r:RelV x v)(ty:A0i X.K T x H) :
  s.TypeIs v T/\∀ a,v=.ref a->∃ ob,s.heap.get? a=Y ob/\ob.dict=J:=by
 cases x with
 | str z=>
  obtain⟨t,rfl⟩:=r;cases(show T = "str" from ty);exact#[typeIs_str s z t,λw e=>nomatch e]
 | int i=>
  obtain⟨t,rfl⟩:=r;cases(show T = "int" from ty);exact#[adv s i t,λw e=>nomatch e]
 | ref p=>
  cases r;rcases ty with ⟨rfl,xs,hq⟩ | ⟨rfl,o,hk,hc,hd⟩ | ⟨rfl,hk⟩ | ⟨rfl,S,n,hk⟩
  ·obtain⟨its,w,pl,w⟩:=I.list hq;refine#[pl.isList.typeIs,λa e=>?_];cases e;obtain⟨o,n,e,c,hd,w⟩:=pl;exact#[o,e,hd]
  ·refine#[#[o,I.kIn p o hk,hc],λa e=>?_];cases e;exact#[o,I.kIn _ o hk,hd]
  ·have z:∃ o,s.heap.get? p=Y o/\o.ExactDict:=by
    obtain⟨kvs,hk⟩:=hk;obtain⟨w,w,w,w,o,w,w,e,ex,w⟩:=I.hok p _ hk;exact#[o,e,ex]
   obtain⟨o,e,ex⟩:=z;refine#[#[o,e,ex.1],λa e2=>?_];cases e2;exact#[o,e,ex.2.1]
  ·obtain⟨o,w,w,w,e,ex,w⟩:=I.hok p _ hk;refine#[#[o,e,ex.1],λa e2=>?_];cases e2;exact#[o,e,ex.2.1]
 | _=>exact False.elim ty
def A0j(K:Ym)(T:String)(r:V->List V->Hp->VK->Prop)(to:TE)(t:TA):TE:=λσ H Q=>to σ H λx H1=>A0i K T x H1/\t σ H1 λxs H2=>r x xs H2 Q
variable{o e:sn}{es:List sn}{to:TE}{t:TA}{name:Str}{apos cpos:Pos}{T id:String}{r:V->List V->Hp->VK->Prop}
def pe_bm(pa:PlainAttrs T)(slot:Slot T name id)(hty:typeOf 6.4=pure (.type "method_descriptor"))(hm:MtR X id r)(ho:PE X o to)(ha:PA X (e::es) t)
  (hbase:attributeBase o name X.env 9.3=eval o X.env:=by rfl)
  (hfew:((backTo cpos (Pi (e::es) X.env)).all (λx=>!x.1)&&(backToKw cpos 7.1).all (λx=>x.1.isSome)
  &&decide ((e::es).length+([]:List Keyword).length+(if ([]:List Keyword).isEmpty then 0 else 1)<30))=true:=by rfl)
  (hline:(apos.endLine==cpos.line)=true:=by rfl) (hs:Pi (e::es) X.env=2.1::Pi es X.env:=by rfl) (hplain:(backTo cpos 2.7).any (·.1)=false:=by rfl) :
  PE X (.Call 1.03 (e::es) [] cpos) (A0j X.K T r to t):=by
 intro pins s σ H Q I h;refine acY hbase hfew hline rfl (ee 1.35 λv s1 ⟨x,H1,I1,r1,ty,q1⟩=>?_);obtain⟨h1,h2⟩:=xQ I1 r1 ty;refine#[T,id,pa,slot,hty,h1,h2,?_];have hA:=ha cpos pins s1 σ H1 _ I1 q1;rw[hs] at hA ⊢;refine acZ (by show(false||(backTo cpos 2.7).any (·.1))=false;rw[hplain]<;>rfl) (adj ?_);exact ee hA λus s2 ⟨vs,H2,I2,r2,q2⟩=>hm pins s2 σ H2 x vs v us Q I2 r1 r2 q2
end
def MtM(X:Cx)(id:String)(r:V->List V->Hp->VK->Prop):Prop:=
 ∀ (pins:List 2.4) (s:ce) (σ:St) (H:Hp) (x:V) (xs:List V) (v:ab) (us:List ab) (Q:VK),Inv X pins σ H s->RelV x v->Vals xs us->r x xs H Q ->
  Xr 0.2 X.A (call 6.4 (v::us)) 4.7 X.xe s
def Vals.one:∀ {x:V} {us:List ab},Vals [x] us->∃ u,us=[u]/\RelV x u:=by
 intro x us h;cases h with | cons r t=>cases t;exact#[_,rfl,r]
def Vals.two:∀ {x y:V} {us:List ab},Vals [x,y] us->∃ u v,us=[u,v]/\RelV x u/\RelV y v:=by
 intro x y us h;cases h with | cons r t=>cases t with | cons q t=>cases t;exact#[_,_,rfl,r,q]
def Vals.rep(h:Vals xs us):∀ k:Nat,Vals (ZB k xs).flatten (ZB k us).flatten
 | 0=>.nil
 | k+1=>by
  rw[aaR,aaR,abl,abl];exact Vals.append h (Vals.rep h k)
def zE(its:List ab):∀ (k:Nat) (acc:List ab),
  List.foldl (λx1 x2=>x1++x2) acc.toArray (ZB k its.toArray)=(acc++(ZB k its).flatten).toArray
 | 0=>λacc=>by simp
 | k+1=>λacc=>by
  have e:acc.toArray++its.toArray=(acc++its).toArray:=by simp
  have e2:(acc++its)++(ZB k its).flatten=acc++(ZB (k+1) its).flatten:=by
   rw[aaR,abl,aay]
  rw[<- e2,<- zE its k (acc++its),<- e,aaR,List.foldl_cons]
section
variable{X:Cx}{pins:List (gV×Obj)}{σ:St}{H:Hp}{s:ce}{l b:gV}{xs ys zs:List V}
def Inv.lset{its its':List ab}{f:Array ab->Array ab}{t':Nat}(I:Inv X pins σ H s)(hH:H l=Y 1.5)
  (e:s.heap.get? l=Y { cls:=.type "list",data:=.seq its.toArray n }) (hf:f its.toArray=its'.toArray) (hv:Vals ys its') (hz:ys.length<=Ph) :
  Inv X pins σ (upd H l 1.98) { s with heap:=s.heap.update l (Obj.mapSeq f),toks:=t' }:=by
 have q:=PySem.IsL.update e f;rw[hf] at q;refine I.write (x:=l) (e:=l) (by rw[hH];exact trivial) 4.6 (λb' u hb hu=>(aeq s.heap (Obj.mapSeq f) (Ne.symm hb)).trans hu) #[_,q] ?_;exact#[hz,its',_,hv,q]
def Inv.lnew{t':Nat}(I:Inv X pins σ H s)(hv:Vals ys its)(hz:ys.length<=Ph) :
  Inv X pins σ (upd H s.heap.objs.size 1.98) { s with heap:=s.heap.push { cls:=.type "list",data:=.seq its.toArray },toks:=t' }:=
 I.laid (λz z q=>aak _ q) (aas _) #[hz,its,0,hv,aaC _ rfl]
def Inv.fresh(I:Inv X pins σ H s):H s.heap.objs.size=J:=I.hok.fresh (aas _)
def Inv.lstM(I:Inv X pins σ H s)(hH:H l=Y 1.5):xs.length<=Ph/\∃ (its:List ab) (n:Nat),Vals xs its/\xs.length=its.length/\s.heap.get? l=Y { cls:=.type "list",data:=.seq its.toArray n }:=by
 obtain⟨z,its,n,r,e⟩:=I.hok l _ hH;exact#[z,its,n,r,r.length,e]
def vS{n:Nat}(h:n<=Ph):Builtin.List.listTooLong n=false:=by
 unfold Builtin.List.listTooLong;exact aao 0.0
end
section
variable{X:Cx}
def SG:V->List V->Hp->VK->Prop:=λx vs H Q=>∃ l xs y,x=.ref l/\vs=[y]/\H l=Y 1.5/\xs.length<Ph/\Q .non (upd H l (.lst (xs++[y])))
def yY:MtM X "list.append" SG:=by
 intro pins s σ H x vs v us Q I rx rv h;obtain⟨l,xs,y,rfl,rfl,hH,hz,q⟩:=h;cases rx;obtain⟨u,rfl,ru⟩:=rv.one;obtain⟨z,its,n,r,hl,e⟩:=I.lstM hH;refine acj aeU #[_,e,rfl] F.entry_list_append (F.args_list_append_2 _ _) (PySem.list_append l its.toArray n u (by rw[aah];omega)) #[e,?_];refine#[.non,_,I.lset (its':=its++[u]) hH e 0.3 (r.append (.cons ru .nil)) ?_,rfl,q];rw[aal,aaW];omega
def SF:V->List V->Hp->VK->Prop:=λx vs H Q=>∃ l b xs zs,x=.ref l/\vs=[.ref b]/\H l=Y 1.5/\H b=Y (.lst zs)/\xs.length+zs.length<=Ph/\Q .non (upd H l (.lst (xs++zs)))
def iu:MtM X "list.extend" SF:=by
 intro pins s σ H x vs v us Q I rx rv h;obtain⟨l,b,xs,zs,rfl,rfl,hH,hB,hz,q⟩:=h;cases rx;obtain⟨u,rfl,ru⟩:=rv.one;cases ru;obtain⟨z,its,n,r,hl,e⟩:=I.lstM hH;obtain⟨z2,its2,n2,r2,hl2,e2⟩:=I.lstM hB;have hsz:its.toArray.size+its2.toArray.size<=Ph:=by rw[aah,aah];omega
 have hlong:¬ (!its.toArray.isEmpty&&Builtin.List.listTooLong (its.toArray.size+its2.toArray.size))=true:=by
  rw[vS hsz,abh];exact aeI
 refine acj adt #[_,e,rfl] aeJ (aeB _ _)
  (AutoSeq1.list_extend_list_list_0 l its.toArray n b its2.toArray n2 hlong (by rw[aah];omega) 0.0) #[e,e2,?_]
 refine#[.non,_,I.lset (its':=its++its2) hH e 0.3 (r.append r2) ?_,rfl,q];rw[aal];omega
noncomputable def rCat:R2:=λx y H Q=>∃ l b xs zs,x=.ref l/\y=.ref b/\H l=Y 1.5/\H b=Y (.lst zs)/\xs.length+zs.length<=Ph/\∀ p,H p=J->Q (.ref p) (upd H p (.lst (xs++zs)))
def iR:OpR X 2.96 rCat:=by
 intro pins s σ H x y v u Q I rx ry h;obtain⟨l,b,xs,zs,rfl,rfl,hH,hB,hz,q⟩:=h;cases rx;cases ry;obtain⟨z,its,n,r,hl,e⟩:=I.lstM hH;obtain⟨z2,its2,n2,r2,hl2,e2⟩:=I.lstM hB;refine PySem.P.add_list e e2 ?_ (by rw[aah,aah];omega);have ea:its.toArray++its2.toArray=(its++its2).toArray:=by simp
 rw[ea];exact#[.ref _,_,I.lnew (t':=s.toks) (r.append r2) (by rw[aal];omega),rfl,q _ I.fresh]
noncomputable def rRep:R2:=λx y H Q=>∃ l k xs,x=.ref l/\y=.int k/\H l=Y 1.5/\-(2^63)<=k/\k<2^63/\xs.length*k.toNat<=Ph /\
 ∀ p,H p=J->Q (.ref p) (upd H p (.lst (ZB k.toNat xs).flatten))
def kE{α:Type}(xs:List α)(k:Nat):(ZB k xs).flatten.length=k*xs.length:=by
 induction k with
 | zero=>simp
 | succ k ih=>rw[aaR,abl,aal,ih,Nat.succ_mul,Nat.add_comm]
def kC:OpR X 3.15 rRep:=by
 intro pins s σ H x y v u Q I rx ry h;obtain⟨l,k,xs,rfl,rfl,hH,h1,h2,hz,q⟩:=h;cases rx;obtain⟨t,rfl⟩:=ry;obtain⟨z,its,n,r,hl,e⟩:=I.lstM hH;have hlen:its.toArray.size*k.toNat<=Ph:=by rw[aah,<- hl];exact hz
 have hcap:¬ its.toArray.size*k.toNat>(2^63 - 1) / 8:=by
  have:(Ph:Nat)<=(2^63 - 1) / 8:=by decide
  omega
 have hfit:¬ (!Builtin.List.listFitsIndex k)=true:=by
  rw[fitsIndex_both h1 h2];exact aeI
 have hlong:¬ Builtin.List.listTooLong (its.toArray.size*k.toNat)=true:=by
  rw[vS hlen];exact aeI
 have hnew:List.foldl (λx1 x2=>x1++x2) (List.toArray []) (ZB (if its.toArray.isEmpty=true then 0 else k.toNat) its.toArray)=(ZB k.toNat its).flatten.toArray:=by
  have f0:∀ m:Nat,List.foldl (λx1 x2=>x1++x2) (List.toArray []) (ZB m its.toArray)=(ZB m its).flatten.toArray:=λm=>by
   have:=zE its m [];rw[abW] at this;exact this
  rw[f0];cases its with
  | nil=>simp
  | cons a r'=>rw[if_neg 0.3]
 refine adY (T:="list") (U:="int") 0.1 #[_,e,rfl] (λs'=>adv s' k t) noFill_list_mul F.fills_int_mul adh repeat_list F.slot_int_index.lookup
  (acj adh (adv s k t) F.entry_int_rmul (F.args_int_rmul_2 _ _) (int___rmul___int_list k t l its.toArray n)
   #[e,rfl,#[_,e,rfl],acj F.slot_list_mul #[_,e,rfl] F.entry_list_mul (F.args_list_mul_2 _ _) (AutoListH.list___mul___list_int_3 l its.toArray n k t hfit hcap hlong) #[e,?_]])
 rw[hnew];exact#[.ref _,_,I.lnew (t':=s.toks) (r.rep k.toNat) (by rw[kE,adB];exact hz),rfl,q _ I.fresh]
end
section
variable{κ:Type}[DecidableEq κ]
def XE(kvs:List (κ×V))(k:κ):Option V:=(kvs.find? λkv=>decide (kv.1=k)).map (·.2)
noncomputable def qH(kvs:List (κ×V))(k:κ)(v:V):List (κ×V):=
 if (kvs.any λkv=>decide (kv.1=k))=true then kvs.map (λkv=>if kv.1=k then(kv.1,v) else kv) else kvs++[(k,v)]
def BA(kvs:List (κ×V))(k:κ):List (κ×V):=kvs.filter λkv=>decide (kv.1≠k)
def kF{p:κ×V}{r:List (κ×V)}{k:κ}(e:p.1=k):XE (p::r) k=Y p.2:=by simp[XE,abp,e]
def vj{p:κ×V}{r:List (κ×V)}{k:κ}(e:¬ p.1=k):XE (p::r) k=XE r k:=by simp[XE,abp,e]
def tZ(kvs:List (κ×V))(k:κ)(v:V):(qH kvs k v).length<=kvs.length+1:=by
 unfold qH;split
 ·rw[aaf];omega
 ·rw[aal,aar,acG];omega
def KV.val(r:KV kvs vs)(k:κ):RelO (XE kvs k) (valueAt vs k):=by
 unfold KV at r
 induction r with
 | nil=>exact True.intro
 | @cons p q ps qs h t ih=>
  obtain⟨h1,h2⟩:=h;by_cases e:p.1=k
  ·have e':q.1=k:=h1.symm.trans e;have b:valueAt (q::qs) k=Y q.2:=by simp[valueAt,abp,e']
   rw[kF e,b];exact h2
  ·have e':¬ q.1=k:=λz=>e (h1.trans z);have b:valueAt (q::qs) k=valueAt qs k:=by simp[valueAt,abp,e']
   rw[vj e,b];exact ih
def KV.any(r:KV kvs vs)(k:κ):(kvs.any λkv=>decide (kv.1=k))=vs.any λkv=>decide (kv.1=k):=by
 unfold KV at r
 induction r with
 | nil=>rfl
 | cons h t ih=>rw[abe,abe,ih,h.1]
def KV.repl(r:KV kvs vs)(k:κ)(ry:RelV y u) :
  KV (kvs.map λkv=>if kv.1=k then(kv.1,y) else kv) (vs.map λkv=>if kv.1=k then(kv.1,u) else kv):=by
 unfold KV at r ⊢
 induction r with
 | nil=>exact .nil
 | @cons p q ps qs h t ih=>
  rw[List.map_cons,List.map_cons];refine .cons ?_ ih;obtain⟨h1,h2⟩:=h;by_cases e:p.1=k
  ·rw[aam e,aam (h1.symm.trans e)];exact#[h1,ry]
  ·rw[if_neg e,if_neg (λz=>e (h1.trans z))];exact#[h1,h2]
def KV.put(r:KV kvs vs)(k:κ)(ry:RelV y u):KV (qH kvs k y) (stored vs k u):=by
 unfold qH stored;rw[r.any k];by_cases e:(vs.any λkv=>decide (kv.1=k))=true
 ·rw[aam e,aam e];exact r.repl k ry
 ·rw[if_neg e,if_neg e];exact Paired.snoc r #[rfl,ry]
def KV.drop(r:KV kvs vs)(k:κ):KV (BA kvs k) (without vs k):=by
 unfold KV at r ⊢;unfold BA without
 induction r with
 | nil=>exact .nil
 | @cons p q ps qs h t ih=>
  obtain⟨h1,h2⟩:=h;rw[aaG,aaG];by_cases e:p.1=k
  ·have a:¬ decide (p.1≠k)=true:=by simp[e]
   have b:¬ decide (q.1≠k)=true:=by simp[h1.symm.trans e]
   rw[if_neg a,if_neg b];exact ih
  ·have e':¬ q.1=k:=λz=>e (h1.trans z);have a:decide (p.1≠k)=true:=by simp[e]
   have b:decide (q.1≠k)=true:=by simp[e']
   rw[aam a,aam b];exact .cons #[h1,h2] ih
def KV.length{kvs:List (κ×V)}{vs:List (κ×ab)}(r:KV kvs vs):kvs.length=vs.length:=aeh r
def yr(kvs:List (κ×V))(k:κ):(BA kvs k).length<=kvs.length:=abk _ _
end
def qZ{k:bK}(r:RelV (Yx k) u):(Lz P w).is k u=true:=by
 cases k with
 | inl i=>obtain⟨t,e⟩:=(show ∃ t,u=Value.int i t from r);subst e;exact mR P w i t
 | inr x=>obtain⟨t,e⟩:=(show ∃ t,u=Value.str x t from r);subst e;exact zB P w x t
section
variable{P:td}{w:tx}{H:Hp}{h:NY}{a:gV}
def rd_of(ok:HOk P w H h)(e:Rd H a u):ObjOk P w H h a u:=e.ok ok
def mE(ok:HOk P w H h)(e:Rd H a 2.5):kvs.length<=Ph/\(a==sysModules)=false/\∃ vs,KV kvs vs/\h.DictOf (Lz P w) a vs:=
 show ObjOk P w H h a 2.5 from rd_of ok e
def rO(ok:HOk P w H h)(e:H a=Y 2.5):kvs.length<=Ph/\(a==sysModules)=false/\∃ vs,KV kvs vs/\h.DictOf (Lz P w) a vs:=mE ok (.inl e)
end
def DGet(H:Hp)(a:gV)(y:V)(r:Option V):Prop:=
 ∃ kvs k,Rd H a 2.5/\y=Yx k/\r=XE kvs k
def DPut(H:Hp)(a:gV)(y v:V)(H':Hp):Prop:=
 ∃ kvs k,H a=Y 2.5/\y=Yx k/\kvs.length<Ph/\H'=upd H a (.dK (qH kvs k v))
def DGet.k{H:Hp}{k:bK}(e:H a=Y 2.5):DGet H a (Yx k) (XE kvs k):=#[kvs,k,.inl e,rfl,rfl]
def DPut.k{H:Hp}{k:bK}(e:H a=Y 2.5)(hl:kvs.length<Ph):DPut H a (Yx k) v (upd H a (.dK (qH kvs k v))):=#[kvs,k,e,rfl,hl,rfl]
section
variable{X:Cx}{pins:List (gV×Obj)}{σ:St}{H:Hp}{s:ce}{a:gV}{y v:V}{u r:ab}{o:Option V}{A:NF}{E:ab->ce->Prop}
def Inv.big(I:Inv X pins σ H s):sysModules<s.heap.objs.size:=by
 have h:Tx<s.heap.objs.size:=(I.mod.glob.keeps I.bk).lt;exact Nat.lt_trans 0.1 h
def yt{Q:ab->ce->Prop}(hu:A.units+1<cLine)(I:Inv X pins σ H s)(g:DGet H a y (Y v))(ry:RelV y u)(h:∀ w' s',Inv X pins σ H s'->RelV v w'->Q w' s') :
  Xr 0.2 A (getItem (.ref a) u) Q E s:=by
 obtain⟨kvs,k,e,ey,l⟩:=g
 ·subst ey;obtain⟨z,hd,vs,rel,dd⟩:=mE I.hok e;obtain⟨w',hw,rw'⟩:=RelO.some_of (v:=v) (o:=valueAt vs k) (by rw[l];exact rel.val k);exact wpAny_getItem_of (qZ ry) dd.mapOf hw (h w' _ (I.tok _) rw')
def oX{t':Nat}{ob:HO}(I:Inv X pins σ H s)(mu:Mut (H a))(hs:Heap.SameBut a s.heap h')(he:∃ q,h'.get? a=Y q)(new:ObjOk X.prog X.w (upd H a ob) h' a ob) :
  Inv X pins σ (upd H a ob) { s with heap:=h',toks:=t' }:=
 I.write (x:=a) (e:=a) mu 4.6 (λb q hb z=>(hs.2 b hb).trans z) he new
def xu{h':NY}{kvs:List (bK×V)}(z:kvs.length<=Ph)(hd:(a==sysModules)=false)(rel:KV kvs vs)(dd:h'.DictOf (Lz P w) a vs) :
  ObjOk P w H' h' a 2.5:=#[z,hd,vs,rel,dd]
def ua{Q:Unit->ce->Prop}(hu:A.units+1<cLine)(I:Inv X pins σ H s)(g:DPut H a y v H')(ry:RelV y u)(rv:RelV v r)(h:∀ s',Inv X pins σ H' s'->Q () s') :
  Xr 0.2 A (setItem (.ref a) u r) Q E s:=by
 obtain⟨kvs,k,e,ey,l,eH⟩:=g
 ·subst ey eH;obtain⟨z,hd,vs,rel,dd⟩:=rO I.hok e;have hz:vs.length<=Ph:=by rw[<- rel.length];exact z
  have hl:(qH kvs k v).length<=Ph:=by have:=tZ kvs k v;omega
  refine wpAny_setItem_pairs (hsz:=hz) (qZ ry) dd λh' dd' hs=>h _ ?_;have he:∃ q,h'.get? a=Y q:=let ⟨q,_,_,hq,_⟩:=dd';#[q,hq];exact oX I (by rw[e];exact True.intro) hs he (xu hl hd (rel.put k rv) dd')
end
section
variable{X:Cx}{pins:List (gV×Obj)}{σ:St}{H:Hp}{s:ce}{a:gV}{kvs:List (bK×V)}{k:bK}{u:ab}{A:NF}{E:ab->ce->Prop}
def d_pop{more:List ab}{Q:ab->ce->Prop}(I:Inv X pins σ H s)(e:H a=Y 2.5)(ry:RelV (Yx k) u)(l:XE kvs k=Y v)(hm:more=[]\/∃ x,more=[x])
  (h:∀ w' s',Inv X pins σ (upd H a (.dK (BA kvs k))) s'->RelV v w'->Q w' s'):Xr 0.2 A (call (.builtin "dict.pop") (.ref a::u::more)) Q E s:=by
 obtain⟨z,hd,vs,rel,dd⟩:=rO I.hok e;obtain⟨w',hw,rw'⟩:=RelO.some_of (v:=v) (o:=valueAt vs k) (by rw[<- l];exact rel.val k)
 have hp:(keyPart u).isSome=true:=by
  cases k with
  | inl i=>obtain⟨t,q⟩:=(show ∃ t,u=Value.int i t from ry);subst q;rfl
  | inr x=>obtain⟨t,q⟩:=(show ∃ t,u=Value.str x t from ry);subst q;rfl
 have ha:argsOk "dict.pop" #[.ref a::u::more,[]]:=by
  rcases hm with q | ⟨x,q⟩
  ·subst q;exact F.args_dict_pop_2 _ _
  ·subst q;exact F.args_dict_pop_3 _ _ _
 refine adA adV dd.typeIs F.entry_dict_pop ha (meets_dict_pop_there 1.75 a (qZ ry) more hm hp)
  #[vs,w',dd,by rw[<- rel.length];exact z,hw,λh' dd' hs=>h w' _ ?_ rw']
 have he:∃ q,h'.get? a=Y q:=let ⟨q,_,_,hq,_⟩:=dd';#[q,hq];exact oX I (by rw[e];exact True.intro) hs he (xu (aaJ (yr kvs k) z) hd (rel.drop k) dd')
def ga{Q:ab->ce->Prop}(I:Inv X pins σ H s)(e:H a=Y 2.5)(ry:RelV (Yx k) u)(l:XE kvs k=J)(h:∀ s',Inv X pins σ H s'->Q r s') :
  Xr 0.2 A (call (.builtin "dict.pop") [.ref a,u,r]) Q E s:=by
 obtain⟨z,hd,vs,rel,dd⟩:=rO I.hok e;have hn:valueAt vs k=J:=RelO.none_of (by rw[<- l];exact rel.val k)
 have hp:(keyPart u).isSome=true:=by
  cases k with
  | inl i=>obtain⟨t,q⟩:=(show ∃ t,u=Value.int i t from ry);subst q;rfl
  | inr x=>obtain⟨t,q⟩:=(show ∃ t,u=Value.str x t from ry);subst q;rfl
 exact adA adV dd.typeIs F.entry_dict_pop (F.args_dict_pop_3 _ _ _) (meets_dict_pop_default 1.75 a (qZ ry) hd hp r) #[vs,dd,hn,h _ (I.tok _)]
end
def wy{s:ce}(I:Inv X pins σ H s)(g:DGet H a y o):s.TypeIs (.ref a) "dict":=by
 obtain⟨kvs,k,e,z,z⟩:=g
 ·obtain⟨z,z,vs,z,dd⟩:=mE I.hok e;exact dd.typeIs
def sV(h:NY)(hb:sysModules<h.objs.size):ObjOk P w H (h.push { cls:=.type "dict",data:=.dict (List.toArray []) }) h.objs.size (.dK []):=
 #[abG _,aaQ.mpr (Ne.symm (aaT hb)),[],.nil,Heap.DictOf.new h]
def Xf:TE:=λz H Q=>∀ p,H p=J->Q (.ref p) 2.80
section
variable{X:Cx}{pos:Pos}
def jd:PE X 2.95 Xf:=λpins s σ H Q I h=>
 wpAny_Dict_empty #[.ref s.heap.objs.size,_,I.laid (a:=s.heap.objs.size) (o:=.dK []) (t':=s.toks) (λz z q=>aak _ q) (aas _) (sV s.heap I.big),rfl,h _ 1.14]
end
def Af:List (TE×TE)->St->Hp->(List (V×V)->Hp->Prop)->Prop
 | [],_,H,Q=>Q [] H
 | (tk,tv)::r,σ,H,Q=>tk σ H λx H1=>tv σ H1 λy H2=>Af r σ H2 λps H3=>Q ((x,y)::ps) H3
noncomputable abbrev VV:List (V×V)->List (ab×ab)->Prop:=Paired λp q=>RelV p.1 q.1/\RelV p.2 q.2
def PPs(X:Cx)(pos:Pos)(keys:List 1.26)(values:List sn)(trs:List (TE×TE)):Prop:=
 ∀ (pins:List 2.4) (s:ce) (σ:St) (H:Hp) (Q:List (V×V)->Hp->Prop),Inv X pins σ H s->Af trs σ H Q ->
  Xr 0.2 X.A (evalPairs (pairTrees keys values X.env pos)) (λvs s'=>∃ ps H',Inv X pins σ H' s'/\VV ps vs/\Q ps H') X.xe s
def wK:PPs X pos [] [] []:=λpins s σ H Q I h=>pairTrees_nil_walk #[[],H,I,.nil,h]
def rh{k:sn}{tk:TE}(hk:PE X k tk)(hv:PE X v tv)(hr:PPs X pos ks vs trs) :
  PPs X pos (Y k::ks) (v::vs) ((tk,tv)::trs):=λpins s σ H Q I h=>
 pairTrees_cons_walk (ee (hk pins s σ H _ I h) λu s1 ⟨x,H1,I1,rx,q1⟩=>ee (hv pins s1 σ H1 _ I1 q1) λw2 s2 ⟨y,H2,I2,ry,q2⟩=>
  ee (hr pins s2 σ H2 _ I2 q2) λws s3 ⟨ps,H3,I3,rel,q3⟩=>#[(x,y)::ps,H3,I3,.cons #[rx,ry] rel,q3])
def AL(kvs more:List (bK×V)):List (bK×V):=more.foldl (λacc kv=>qH acc kv.1 kv.2) kvs
def KV.merge:∀ {more:List (bK×V)} {rs:List (bK×ab)} {kvs:List (bK×V)} {vs:List (bK×ab)},KV more rs->KV kvs vs->KV (AL kvs more) (merged vs rs):=by
 intro more rs kvs vs r;unfold KV at r
 induction r generalizing kvs vs with
 | nil=>intro q;exact q
 | @cons p q ps qs h t ih=>
  intro r0
  have e:KV 3.04 (stored vs q.1 q.2):=by
   have:=r0.put p.1 h.2;rw[<- h.1];exact this
  exact ih e
def lq:∀ (more kvs:List (bK×V)),(AL kvs more).length<=kvs.length+more.length
 | []=>λkvs=>by show kvs.length<=kvs.length+0;omega
 | p::r=>λkvs=>by
  have h1:=lq r 3.04;have h2:=tZ kvs p.1 p.2;show(AL 3.04 r).length<=_;rw[aar];omega
def xB:∀ {kvs:List (bK×V)} {ws:List (ab×ab)},VV (kvs.map λkv=>(Yx kv.1,kv.2)) ws->∃ rs,Carries (Lz P w) ws rs/\KV kvs rs
 | [],_,r=>by rw[ack] at r;cases r;exact#[[],True.intro,.nil]
 | p::kvs,_,r=>by
  rw[List.map_cons] at r;cases r with
  | @cons a b as bs h t=>
   obtain⟨rs,c,q⟩:=xB (P:=P) (w:=w) t;obtain⟨b1,b2⟩:=b;exact#[(p.1,b2)::rs,#[qZ h.1,rfl,c],.cons #[rfl,h.2] q]
noncomputable def tDisp(trs:List (TE×TE)):TE:=λσ H Q=>∀ p,H p=J->Af trs σ 2.80 λps H2=>H2 p=Y (.dK [])/\∃ kvs:List (bK×V),ps=kvs.map (λkv=>(Yx kv.1,kv.2))/\kvs.length<=15/\Q (.ref p) (upd H2 p (.dK (AL [] kvs)))
def eC{keys:List 1.26}(h:PPs X pos keys values trs)(hall:keys.all (·.isSome)=true)(hl:keys.length=values.length)(h0:keys≠[])
  (h15:keys.length<=15):PE X 2.09 (tDisp trs):=by
 intro pins s σ H Q I q;have hn:=I.hok.fresh (aas s.heap.objs.size);have I1:=I.laid (a:=s.heap.objs.size) (o:=.dK []) (h':=s.heap.push { cls:=.type "dict",data:=.dict (List.toArray []) }) (t':=s.toks) (λu u q=>aak _ q) (aas _) (sV s.heap I.big);refine wpAny_Dict_walk (knd:=Lz X.prog X.w) hall hl h0 h15 (ee (h pins _ σ _ _ I1 (q _ hn)) λws s2 ⟨ps,H2,I2,rel,e,kvs,ep,lk,q2⟩=>?_);subst ep;obtain⟨rs,c,rk⟩:=xB (P:=X.prog) (w:=X.w) rel;obtain⟨z,hd,vs0,r0,dd⟩:=rO I2.hok e;cases r0;refine#[rs,c,dd,λh' dd' hs=>#[.ref s.heap.objs.size,_,?_,rfl,q2]]
 have hz:(AL [] kvs).length<=Ph:=by
  have h1:=lq kvs [];rw[acG] at h1;rw[adN];omega
 have he:∃ q,h'.get? s.heap.objs.size=Y q:=let ⟨q,_,_,hq,_⟩:=dd';#[q,hq];exact oX I2 (by rw[e];exact True.intro) hs he (xu hz hd (rk.merge .nil) dd')
def IsD(H:Hp)(a:gV):Prop:=∃ kvs,Rd H a 2.5
def nS{s:ce}(I:Inv X pins σ H s)(d:IsD H a) :
  s.TypeIs (.ref a) "dict"/\(∀ b,Value.ref a=.ref b->∃ ob,s.heap.get? b=Y ob/\ob.dict=J)/\(a==sysModules)=false:=by
 obtain⟨kvs,e⟩:=d;obtain⟨z,hd,vs,z,dd⟩:=mE I.hok e;refine#[dd.typeIs,λb q=>?_,hd];cases q;obtain⟨ob,z,z,h1,h2,z⟩:=dd;exact#[ob,h1,h2.2.1]
end L2
namespace Att
open PySem.W PySem.Calls
def uH:∀ (ns:List Int) (vs:List ab),WellAll P h vs (ns.map WData.int)->IntsAre vs ns:=by
 intro ns
 induction ns with
 | nil=>
  intro vs w;rw[ack] at w;cases w;exact .nil
 | cons n ns ih=>
  intro vs w;rw[List.map_cons] at w;cases w with
  | cons a b=>
   cases a;exact .cons _ _ (ih _ b)
def wJ{l:OpenLaw}(hn:l.most=Y n)
  (hpre:l.row.toRowW.claim.pre args=true) (hwl:WellAll P h vals args) :
  ∃ a vs ns,vals=[Value.ref a]/\args=[WData.list (ns.map WData.int)]/\h.get? a=Y { cls:=.type "list",data:=.seq vs.toArray }/\IntsAre vs ns/\ns.length<=n:=by
 have hsh:WShape.hasAll [] args [.list .int]=true:=(pre_splitW hpre).1;have hc:l.pre.holds [] { args:=args } = true:=(pre_splitW hpre).2;obtain⟨d,r,rfl,h1,h2⟩:=hasAllW_cons hsh;obtain rfl:=hasAllW_nil h2;obtain⟨xs,rfl,h3⟩:=hasW_list h1;obtain⟨ns,rfl⟩:=items_int h3
 have hlen:ns.length<=n:=by
  unfold OpenLaw.pre at hc
  have h4:(WTm.not (.lt (.lit 1.3) (.len (.arg 0)))).holds [] { args:=[.list 2.0] } = true:=by
   have h4:=(holds_andW hc).1;rw[hn] at h4;exact h4
  have h5:=condW_of h4 (w_not (w_lt w_lit (w_len_list (w_arg rfl))));rw[aaf] at h5;refine Nat.le_of_not_lt λq=>?_;have q':(n:Int)<((ns.length:Nat):Int):=by omega
  first
   | (rw[aaj q'] at h5;exact absurd h5 0.1)
   | (simp at h5;omega)
 cases hwl with
 | cons w1 w2=>
  cases w2;cases w1 with
  | list ho hall=>exact#[_,_,ns,rfl,rfl,ho,uH ns _ hall,hlen]
def wI(l:OpenLaw)(args:List WData):l.row.toRowW.claim.post args 1.44 args=true:=
 postW_of (r:=l.row.toRowW) (X:=(true==true))
  (show WShape.has [] 1.44 .bool=true by first | rfl | decide | simp[WShape.has,WShape.arms,WShape.armsAll])
  (show(WTm.eq .res (.lit 1.44)).value [] { args:=args,res:=Y 1.44,after:=args } = Y (.bool (true==true)) from w_eq_bool (w_res rfl) w_lit) rfl
theorem FL{l:OpenLaw}{YP:tx->NY->Prop}{d:DefRec}
  (hn:l.most=Y n) (hdf:d.params.defaults=[])
  (call:∀ (w:tx) (s₀ s₁:ce) (mg mb:Str->Option ab) (fa:gV) (o:Obj) (pm cd doc:ab) (a:gV) (vs:List ab) (ns:List Int),
   Ground q loose [] XP w s₀ mg mb s₁.heap->YP w s₁.heap ->
   s₁.heap.get? fa=Y o->o.data=.func (docDef d.name d.params d.body d.scope pm cd doc)->s₁.heap.CodeRec cd d.name->mg d.name=Y (.ref fa) ->
   s₁.heap.get? a=Y { cls:=.type "list",data:=.seq vs.toArray }->IntsAre vs ns->ns.length<=n->s₁.gens = (List.toArray []) ->
   codeAny (model l.prog w) callerA 1.27 (λr s'=>r=.ok (.ret 1.44)/\OldK s₁.heap s'.heap/\s'.os=s₁.os/\AllBare s'.gens) s₁) :
  WalkO q loose XP YP l.row.toRowW d [] (λf vs=>PySem.call f vs):=by
 intro w s₀ s₁ mg mb G Y0 fa o pm cd doc dV Yx ho hd hcd hD hmg hg args vals as hpre hlay hrd hwl hlo;obtain rfl:dV=.none:=Dflts.none hD hdf;obtain rfl:Yx=.none:=Dflts.noKw hD;obtain⟨a,vs,ns,rfl,rfl,hobj,hints,hlen⟩:=wJ hn hpre hwl;refine enter_call (acJ (call w s₀ s₁ mg mb fa o pm cd doc a vs ns G Y0 ho (fd_plain hd) hcd hmg hobj hints hlen hg) λr s' hq=>?_);obtain⟨rfl,h2,h3,h4⟩:=hq;exact#[.inl #[.bool true,.bool true,[],rfl,λz=>rfl,.bool true,wI l _,λz=>#[List.Pairwise.nil,λz hm=>(nomatch hm)]],h2,h3,h4]
end Att
namespace L2
def yC:∀ {vs:List ab} {ns:List Int},IntsAre vs ns->Vals 9.2 vs
 | _,_,.nil=>.nil
 | _,_,.cons n t h=>.cons #[t,rfl] (yC h)
def A0k(H:Hp):Prop:=∀ b,H b=J\/∃ o xs,H b=Y (.frz o 1.5)
def sT{K:Ym}{mb:Str->Option ab}{k:Nat}{x:Str}{s₁:ce}{vs:List ab}
  (KX:K.In s₁.heap) (hns:s₁.heap.Ns Tx mg) (hb:s₁.heap.Ns builtinsNs mb) (hbb:∀ x:Str,x≠"__name__"->mb x=bootBuiltins x) (hlim:s₁.heap.NoLimit) (hg:s₁.gens = (List.toArray []))
  (ha:s₁.heap.get? a=Y { cls:=.type "list",data:=.seq vs.toArray }) (hi:IntsAre vs ns) (hl:ns.length<=Ph) (hr:Room k callerA)
  (F:∀ base:NY,K.In base->base.Ns Tx mg->FnOk P w K mg base CX k fa fd [x] sp) (hbind:∀ (s:ce) (u:ab),BindsTo s fd #[[u],[]] [(x,u)])
  (hsp:∀ H:Hp,A0k H->Yv K H a 9.2->sp [.ref a] H (λv j=>v=.bl true) λj j j=>False)
  (hCX:∀ H e s',CX [] H s₁ (λj j j=>False) e s'->False) :
  codeAny 1.37 callerA 1.27 (λr s'=>r=.ok (.ret 1.44)/\OldK s₁.heap s'.heap/\s'.os=s₁.os/\AllBare s'.gens) s₁:=by
 have rv:=yC hi;have lenV:=hi.length
 have core:∀ H:Hp,A0k H->Yv K H a 9.2->HOk P w H s₁.heap->(∀ b,H b≠J->b=a)->(H a≠J->K.lookup a=J) ->
   codeAny 1.37 callerA 1.27 (λr s'=>r=.ok (.ret 1.44)/\OldK s₁.heap s'.heap/\s'.os=s₁.os/\AllBare s'.gens) s₁:=by
  intro H hO hS hok hA hK;have base_of:∀ {b:gV} {o:Obj},s₁.heap.get? b=Y o->H b=J->(BV s₁.heap H).get? b=Y o:=λe n=>vK e n
  have noA:∀ {b:gV} {o:Obj} {es:Array DictEntry} {ep:Nat},s₁.heap.get? b=Y o->o.data=.dict es ep->H b=J:=λ{b o es ep} e d=>by
   cases q:H b with
   | none=>rfl
   | some u=>
    have e':b=a:=hA b (by rw[q];simp);subst e';rw[ha] at e;cases e;have d':Data.seq vs.toArray _=Data.dict es ep:=d;cases d'
  have nsK:∀ {b:gV} {m:Str->Option ab},s₁.heap.Ns b m->(BV s₁.heap H).Ns b m:=λ{b m} ⟨o,es,ep,e,d,r⟩=>#[o,es,ep,base_of e (noA e d),d,r]
  have hKb:K.In 3.19:=λb o e=>base_of (KX b o e) (by
   cases q:H b with
   | none=>rfl
   | some u=>
    have e':b=a:=hA b (by rw[q];simp);subst e'
    rw[hK (by rw[q];simp)] at e;cases e)
  have hM:Mod K mg 3.19:=#[hKb,nsK hns,#[mb,nsK hb,hbb],let ⟨mc,h1,h2⟩:=hlim;#[mc,nsK h1,h2]]
  have e0:VI P w K mg 3.19 callerA [] s₁ H:=#[rfl,hM,λb o e=>rI e,ade (tO _ _),trivial,λb hb=>absurd (show b∈([]:List gV) from hb) 0.3,hok,.of_eq hg]
  refine acJ ((F _ hKb (nsK hns)).run callerA [] s₁ H #[[.ref a],[]] [.ref a] [.ref a] _ _ hr e0 (hbind s₁ (.ref a)) (.cons rfl .nil) (hsp H hO hS)) λr s' h=>?_;cases r with
  | error e=>exact(hCX H e s' h).elim
  | ok fl=>
   cases fl with
   | next=>exact False.elim h
   | brk=>exact False.elim h
   | cont=>exact False.elim h
   | ret u=>
    obtain⟨v,H',os,bare,un,hok',r',q⟩:=h;have q':v=.bl true:=q;subst q';obtain rfl:u=Value.bool true:=r';refine#[rfl,OldK.of_keep λb o e=>?_,os,bare];cases q:H b with
    | none=>exact un.keep b o e q (by intro z;exact absurd (show b∈([]:List gV) from z) 0.3) 0.3
    | some u=>
     rcases hO b with z | ⟨ob,xs,z⟩
     ·rw[q] at z;cases z
     ·have z2:=un.frzs b ob _ z;obtain⟨e1,j⟩:=hok b _ z;obtain⟨e2,j⟩:=hok' b _ z2;rw[e] at e1;cases e1;exact e2
 cases hk:K.lookup a with
 | some o=>
  have e:=KX a o hk;rw[ha] at e;cases e;refine core (λj=>J) (λj=>.inl rfl) (.inr #[_,vs.toArray,_,hk,rfl,rfl,rfl,by rw[aah,lenV];exact hl,by simpa using rv]) (λb u z=>by have z':(J:Option HO)=Y u:=z;cases z') (λb z=>absurd rfl z) λz=>absurd rfl z
 | none=>
  refine core (λb=>if b=a then Y (.frz { cls:=.type "list",data:=.seq vs.toArray } (.lst 9.2)) else J) (λb=>?_) (.inl (.inr #[{ cls:=.type "list",data:=.seq vs.toArray },aam rfl])) (λb u z=>?_) (λb z=>?_) λj=>hk
  ·by_cases hb:b=a
   ·exact .inr #[_,_,aam hb]
   ·exact .inl (if_neg hb)
  ·by_cases hb:b=a
   ·have z':=(aam hb).symm.trans z;cases z';subst hb;exact#[ha,by rw[aaf];exact hl,vs,_,rv,ha]
   ·have z':=(if_neg hb).symm.trans z;cases z'
  ·by_cases hb:b=a
   ·exact hb
   ·exact absurd (if_neg hb) z
theorem Se{l:W.OpenLaw}{k:Nat}{YP:tx->NY->Prop}{d:DefRec}{K:Params->Ym}{CX:tx->Ng}{sp:tx->Sp}{x:Str}
  (hn:l.most=Y n) (hn2:n<=Ph) (hdf:d.params.defaults=[]) (hr:Room k callerA)
  (hY:∀ (w:tx) (h:NY),YP w h->(K w.params).In h)
  (F:∀ (w:tx) (mg:Str->Option ab) (fa:gV) (h:NY),(K w.params).In h->h.Ns Tx mg->mg d.name=Y (.ref fa) ->
   ∃ fd:FuncData,(∀ (s:ce) (u:ab),BindsTo s fd #[[u],[]] [(x,u)]) /\
    ∀ base:NY,(K w.params).In base->base.Ns Tx mg->FnOk l.prog w 3.18 mg base (CX w) k fa fd [x] (sp w))
  (hsp:∀ (w:tx) (H:Hp) (a:gV) (ns:List Int),ns.length<=n->A0k H->Yv 3.18 H a 9.2->sp w [.ref a] H (λv z=>v=.bl true) λz z z=>False)
  (hCX:∀ (w:tx) (H:Hp) (s:ce) (e:ab) (s':ce),CX w [] H s (λz z z=>False) e s'->False) :
  W.WalkO q loose XP YP l.row.toRowW d [] (λf vs=>PySem.call f vs):=by
 refine Att.FL hn hdf λw s₀ s₁ mg mb fa o pm cd doc a vs ns G Y0 ho hd hcd hmg hobj hints hlen hg=>?_;have KX:=hY w _ Y0;obtain⟨fd,hb,hF⟩:=F w mg fa _ KX G.T.g hmg;exact sT KX G.T.g G.T.b G.T.builtins G.T.nolimit hg hobj hints (aaJ hlen hn2) hr hF hb (λH hO hS=>hsp w H a ns hlen hO hS) λH e s'=>hCX w H s₁ e s'
def Tc(s:Kw):Arguments:=match s with
 | .FunctionDef _ a _ _ _ _ _ _ _ _=>a
 | _=>{ posonlyargs:=[],args:=[],vararg:=J,kwonlyargs:=[],kw_defaults:=[],kwarg:=J,defaults:=[] }
def SH(s:Kw):List Kw:=match s with
 | .FunctionDef _ _ b _ _ _ _ _ _ _=>b
 | _=>[]
def Xt(s:Kw):Scope:=match s with
 | .FunctionDef _ _ _ _ _ _ sc _ _ _=>sc
 | _=>{ kind:=.function,names:=[],isGenerator:=false,isCoroutine:=false }
noncomputable abbrev Ke:Ng:=λ_ _ _ _ _ _=>False
noncomputable abbrev E0:XK:=λ_ _ _=>False
def wG:CD Ke X E0:=λz z z z z z z h=>h.elim
structure Fun(K:Ym)(x qual:Str)(st:Kw)(f:gV)(fd:FuncData):Prop where
 ex:∃ (oc:ab) (od:Option gV) (Yx doc pm:ab) (an:Option gV) (cdv ct:ab) (osl:Array 1.39),
  fd=W.fnOf x qual (Tc st) (SH st) (Xt st) .none Yx doc pm an cdv ct/\K.lookup f=Y #[oc,od,.func fd,osl]/\W.codeIn K cdv qual=true
 kp:W.keepIn K (.ref f)=true
section
variable{P:td}{w:tx}{K:Ym}{mg:Str->Option ab}{base:NY}
def Fun.ok{st:Kw}{k:Nat}{sp:Sp}(F:Fun K x qual st f fd)(S:aU N ps (Xt st))(len:∀ vs H Q E,sp vs H Q E->vs.length=ps.length)
  (hbody:∀ (cdv:ab) (A:NF) (outer:List Env) (s:ce) (H:Hp) (vs:List V) (Q:VK) (E:XK),Room k (A.deeper (envOfC qual (Xt st) s.heap.objs.size f cdv))->sp vs H Q E ->
   ∃ t,PSs (GA Ke P w K mg base N qual (Xt st) f cdv A outer s H E).nox (SH st) t/\t { nx:=λz H'=>Q .non H',rt:=Q } 2.18 H):FnOk P w K mg base Ke (k+1) f fd ps sp:=by
 obtain⟨oc,od,Yx,doc,pm,an,cdv,ct,osl,rfl,lk,hcd⟩:=F.ex;refine fn_of lk hcd S len λA outer s H vs Q E hr hsp=>?_;obtain⟨t,h,q⟩:=hbody cdv A outer s H vs Q E hr hsp;exact#[t,h.nox,q]
def Fun.binds{st:Kw}{ps:List Str}(F:Fun K x qual st f fd)
  (h:∀ (Yx doc pm:ab) (an:Option gV) (cdv ct:ab) (us:List ab),us.length=ps.length->bindArgs 6.5 #[us,[]]=pure 2.01):Binds K fd ps []:=by
 obtain⟨oc,od,Yx,doc,pm,an,cdv,ct,osl,rfl,lk,hcd⟩:=F.ex;exact .all (h Yx doc pm an cdv ct)
def pE{st:Kw}{oc:ab}{od:Option gV}{osl:Array 1.39}{Yx:ab}(l:K.lookup f=Y #[oc,od,.func 6.5,osl])
  (c:W.codeIn K cdv qual=true) (k:W.keepIn K (.ref f)=true):Fun K x qual st f 6.5:=#[#[oc,od,Yx,doc,pm,an,cdv,ct,osl,rfl,l,c],k]
end
section
variable{κ:Type}[DecidableEq κ]
def oQ{p:κ×V}{r:List (κ×V)}{k:κ}(e:p.1=k):BA (p::r) k=BA r k:=by
 unfold BA;rw[aaG,if_neg (by simp[e])]
def uV{p:κ×V}{r:List (κ×V)}{k:κ}(e:¬ p.1=k):BA (p::r) k=p::BA r k:=by
 unfold BA;rw[aaG,aam (by simp[e])]
end
def Xu(cells:List (Str×gV)):List (Str×NameKind)->List (Str×gV)->List (Str×gV)
 | [],acc=>acc
 | (n,k)::r,acc=>if k==.free then Xu cells r ((n,(cells.lookup n).getD 0)::acc) else Xu cells r acc
def jq{env:Env}:∀ (names:List (Str×NameKind)) (acc:List (Str×gV)),(∀ x∈names,x.2=.free->(env.cells.lookup x.1).isSome=true) ->
  (forIn names acc λ(x:Str×NameKind) (r:List (Str×gV))=>(do
   if x.2==.free then do let c <- cellOf env x.1;pure (ForInStep.yield ((x.1,c)::r)) else pure 1.77:Sem (ForInStep (List (Str×gV)))))=pure (Xu env.cells names acc)
 | []=>λacc z=>rfl
 | (n,k)::r=>λacc h=>by
  rw[acn];cases hk:k==NameKind.free with
  | true=>
   have e:k=.free:=by simpa using hk
   have hs:=h (n,k) aab e;obtain⟨c,hc⟩:=abI.mp hs;have hc':env.cells.lookup n=Y c:=hc;have hce:cellOf env n=pure c:=by unfold cellOf;rw[hc']
   simp only[abT,hce,hc',Option.getD_some,pure_bind,Xu,hk];rw[jq r _ λx hx=>h x 1.61]
  | false=>
   simp only[aaL,abE,pure_bind,Xu,hk];exact jq r _ λx hx=>h x 1.61
def pL{scope:Scope}{env:Env}(h:∀ x∈scope.names,x.2=.free->(env.cells.lookup x.1).isSome=true):closureFor scope env=pure (Xu env.cells scope.names []):=by
 have q:=jq (env:=env) scope.names [] h;unfold closureFor;refine abn ?_ (abn (congrArg (λ(m:Sem (List (Str×gV)))=>m >>= λcs=>pure cs) q) ?_)
 ·rfl
 ·rfl
def tB(cells:List (Str×gV)):∀ (names:List (Str×NameKind)) (acc:List (Str×gV)),(∀ x∈names,x.2=.free->(cells.lookup x.1).isSome=true)->(∀ y c,acc.lookup y=Y c->cells.lookup y=Y c) ->
  ∀ y c,(Xu cells names acc).lookup y=Y c->cells.lookup y=Y c
 | []=>λz z ha=>ha
 | (n,k)::r=>λacc h ha=>by
  unfold Xu;split
  ·rename_i hk;refine tB cells r _ (λx hx=>h x 1.61) λy c e=>?_;rw[acA] at e;split at e
   ·rename_i hy;have hy':y=n:=by simpa using hy
    subst hy';obtain⟨c',hc'⟩:=abI.mp (h (y,k) aab (by simpa using hk));have hc'':cells.lookup y=Y c':=hc';rw[hc''] at e ⊢;exact e
   ·exact ha y c e
  ·exact tB cells r _ (λx hx=>h x 1.61) ha
def qx(cells:List (Str×gV)):∀ (names:List (Str×NameKind)) (acc:List (Str×gV)) (y:Str),(acc.lookup y).isSome=true->((Xu cells names acc).lookup y).isSome=true
 | []=>λz z h=>h
 | (n,k)::r=>λacc y h=>by
  unfold Xu;split
  ·refine qx cells r _ y ?_;rw[acA];split
   ·rfl
   ·exact h
  ·exact qx cells r _ y h
def rS(cells:List (Str×gV)):∀ (names:List (Str×NameKind)) (acc:List (Str×gV)) (y:Str),(y,NameKind.free)∈names->((Xu cells names acc).lookup y).isSome=true
 | []=>λz z h=>by simp at h
 | (n,k)::r=>λacc y h=>by
  unfold Xu;rcases aav.mp h with e | h
  ·cases e;rw[aam (by rfl)];exact qx cells r _ _ (by rw[acA];simp)
  ·split
   ·exact rS cells r _ y h
   ·exact rS cells r _ y h
def mr{scope:Scope}{env:Env}{y:Str}:∀ {names:List (Str×NameKind)},
  ((names.map λ(n,k)=>if (k==NameKind.free&&env.scope.kind==.function&&env.kindOf n==Y .cell) then(n,NameKind.cell) else(n,k)).lookup y=Y .cell \/
  (names.map λ(n,k)=>if (k==NameKind.free&&env.scope.kind==.function&&env.kindOf n==Y .cell) then(n,NameKind.cell) else(n,k)).lookup y=Y .free) ->
  (∀ x∈names,x.2≠.cell)->(y,NameKind.free)∈names
 | [],h,_=>by simp at h
 | (n,k)::r,h,hc=>by
  have ih:=@mr scope env y r;have hr:∀ x∈r,x.2≠.cell:=λx hx=>hc x 1.61;rw[List.map_cons] at h;by_cases hq:(k==NameKind.free&&env.scope.kind==.function&&env.kindOf n==Y .cell)=true
  ·have hk:k=.free:=by
    have:=hq;simp only[aag] at this;simpa using this.1.1
   simp only[hq,abT] at h;simp only[acA] at h;cases hy:y==n with
   | true=>
    have e:y=n:=by simpa using hy
    rw[e,hk];exact aab
   | false=>
    simp only[hy] at h;exact aac _ (ih h hr)
  ·simp only[hq,aaL,abE] at h;simp only[acA] at h;cases hy:y==n with
   | true=>
    simp only[hy] at h;have e:y=n:=by simpa using hy
    rcases h with h | h
    ·exact absurd (aau h) (hc (n,k) aab)
    ·rw[e,<- aau h];exact aab
   | false=>
    simp only[hy] at h;exact aac _ (ih h hr)
def Xv(X:Cx)(N':List Str)(scope:Scope)(C:gV)(s:ce)(H:Hp)(fp:List gV):Cx:=
 {X with N:=N',s₀:=s,H₀:=H,env:=compEnvC scope 1.38 C X.env,outer:=X.stack,ex:=fp,fn:=λz=>false,pn:=[],xe:=λz z=>False }
def VH(X:Cx)(ifs:List sn)(t:TT):Prop:=
 ∀ (pins:List 2.4) (s:ce) (σ:St) (H:Hp) (Q:Bool->Hp->Prop),Inv X pins σ H s->t σ H Q->Xr 0.2 X.A (forIn ifs true λc r=>if r=true then do let ok <- isTrue c X.env (eval c X.env);pure 2.42 else pure 1.77) 2.10 X.xe s
def nr:VH X [] (λz H Q=>Q true H):=λz z z H z I h=>wpAny_tests_nil #[H,I,h]
def bw(h:PT X c t):VH X [c] t:=λpins s σ H Q I q=>wpAny_tests_one (h pins s σ H Q I q)
def XG(e tg:sn)(p0:Pos)(ifs:List sn)(d:Nat)(it acc:ab)(env:Env)(bc:Sem Unit):Sem Fin:=do
 standAt p0
 let r <- pyNext it
 match r with
 | none=>pure (Fin.done Flow.next)
 | some v=>do
  letOwnedTupleGo tg it v
  assign tg env v
  let ok <- forIn ifs true λc r=>if r=true then do let ok <- isTrue c env (eval c env);pure 2.42 else pure 1.77
  if ok=true then do bc;again (.compLoop e d it acc env) else again (.compLoop e d it acc env)
def Zy(elt:sn)(acc:ab)(env:Env):Sem Unit:=do
 let x <- eval elt env;let _ <- call (.builtin "list.append") [acc,x]
 pure ()
section
variable{prog:td}{w:tx}{A:NF}{R:Result->ce->Prop}{s:ce}
def A0l(e:sn)(gens:List Comprehension)(scope:Scope)(pos:Pos):Prop:=(∃ elt,e=.ListComp elt gens scope pos)\/∃ kx vx,e=.DictComp kx vx gens scope pos
def oB{d:Nat}(he:A0l e gens scope pos)(htn:compTurn e d it acc env=XG e tg p0 ifs d it acc env bc)(I:Nat->ce->Prop)
  (turn:∀ n s,I n s->Xr 2.3 A (pyNext it) (λr s₁=>match r with
   | none=>R (.ok .next) s₁
   | some v=>Xr 2.3 A (letOwnedTupleGo tg it v) (λz s₁'=>Xr 2.3 A (assign tg env v) (λz s₂=>
     Xr 2.3 A (forIn ifs true λc r=>if r=true then do let ok <- isTrue c env (eval c env);pure 2.42 else pure 1.77) (λok s₃=>
      if ok=true then Xr 2.3 A bc (λz s₅=>∃ m,m<n/\I m s₅) (λz z=>False) s₃
      else ∃ m,m<n/\I m s₃) (λz z=>False) s₂) (λz z=>False) s₁') (λz z=>False) s₁) (λz z=>False) s)
  (n:Nat) (h:I n s) :
  codeAny 2.3 A (.compLoop e d it acc env) R s:=by
 refine codeAny_loop rfl I (λn s hI=>?_) n h
 rcases he with ⟨elt,rfl⟩ | ⟨kx,vx,rfl⟩<;>(
  show Xr _ A ((compTurn _ d it acc env).onRaise (λx=>do noteFrame x env;theTreesLotGoes x)) _ _ s;refine wpAny_noted ?_;rw[htn];refine aad (adn (aad (abb (turn n s hI) (λr s₁ h₁=>?_) λz z h'=>h'.elim)));cases r with
  | none=>exact aaB h₁
  | some v=>
   refine aad (abb h₁ (λz s₁' h₁'=>?_) λz z h'=>h'.elim);refine aad (abb h₁' (λz s₂ h₂=>aad (abb h₂ (λok s₃ h₃=>?_) λz z h'=>h'.elim)) λz z h'=>h'.elim);cases ok with
   | false=>exact aaB #[rfl,h₃]
   | true=>exact aad (abb h₃ (λz s₅ h₅=>aaB #[rfl,h₅]) λz z h'=>h'.elim))
end
noncomputable abbrev TB:=St->Hp->(St->Hp->Prop)->Prop
def PB(X:Cx)(m:Sem Unit)(tb:TB):Prop:=
 ∀ (pins:List 2.4) (s:ce) (σ:St) (H:Hp) (Q:St->Hp->Prop),Inv X pins σ H s->tb σ H Q->Xr 0.2 X.A m (λz s'=>∃ σ' H',Inv X pins σ' H' s'/\Q σ' H') X.xe s
def A0m(te:TE)(p:gV):TB:=λσ H Q=>te σ H λy H5=>∃ ys,H5 p=Y 1.98/\ys.length<Ph/\Q σ (upd H5 p (.lst (ys++[y])))
def bT(he:PE X elt te):PB X (Zy elt (.ref p) X.env) (A0m te p):=λpins s σ H Q I h=>by
 refine aad (ee 7.2 λxv s8 ⟨y,H8,J8,r8,q8⟩=>?_);obtain⟨ys,hy,hz,q9⟩:=q8;refine aad (ee (yY _ s8 σ H8 (.ref p) [y] (.ref p) [xv] (λz H9=>H9=upd H8 p (.lst (ys++[y]))) J8 rfl (.cons r8 .nil) #[_,ys,y,rfl,rfl,hy,hz,rfl]) λ_ s9 ⟨_,H9,J9,_,e9⟩=>?_);subst e9;exact aaB #[_,_,J9,q9]
def NC(J0:It)(g:TG)(tt:TT)(tb:TB)(σ:St)(H:Hp)(Q:St->Hp->Prop):Prop:=∃ W:Nat->Nat->St->Hp->Prop,(∃ m,W 0 m σ H)/\∀ i m σ' H',W i m σ' H' ->
 (J0.stop i H'/\Q σ' H')\/(J0.go i H'/\∀ x H2,J0.yld i H' x H2->g x σ' H2 λσ2 H3=>tt σ2 H3 λok H4=>
  if ok=true then tb σ2 H4 λσ3 H5=>∃ m',m'<m/\W (i+1) m' σ3 H5 else ∃ m',m'<m/\W (i+1) m' σ2 H4)
def cZ{X:Cx}{e:sn}{d:Nat}
  (hc:X.calm=true) (hx:∀ e s,X.xe e s->False) (hl:A0l e gens scope pos) (htn:compTurn e d 8.2 acc X.env=XG e tg p0 ifs d 8.2 acc X.env bc) (hg:PG X tg g) (ht:VH X ifs tt) (hb:PB X bc tb) (T:FM X.prog X.w X.K tg J0 fp it tn) {s:ce} (I:Inv X pins σ H s) (st:tn 0 s.heap) (f2:∀ b∈fp,LK X pins H b) (h:NC J0 g tt tb σ H Q) :
  codeAny 0.2 X.A (.compLoop e d 8.2 acc X.env) (λr s'=>∃ σ' H',r=.ok .next/\Inv X pins σ' H' s'/\Q σ' H') s:=by
 obtain⟨W,⟨m0,w0⟩,turn⟩:=h;have no:∀ e s,X.xe e s->(λ(_:ab) (_:ce)=>False) e s:=hx;have stat:∀ {H':Hp},(∀ b∈fp,H' b=J)->∀ b∈fp,LK X pins H' b:=λhn b hb=>#[hn b hb,(f2 b hb).2]
 refine oB hl htn (λn s'=>∃ i σ' H',Inv X pins σ' H' s'/\tn i s'.heap/\(∀ b∈fp,H' b=J)/\W i n σ' H') ?_ m0 #[0,_,_,I,st,λb hb=>(f2 b hb).1,w0];rintro n s3 ⟨i,σ3,H3,J3,st3,fr3,w3⟩;rcases turn i n σ3 H3 w3 with ⟨stop,qn⟩ | ⟨go,step⟩
 ·refine ee (T.done X rfl rfl rfl hc i pins s3 σ3 H3 _ J3 (stat fr3) st3 stop) λr s4 ⟨hr,J4⟩=>?_;subst hr;exact#[σ3,H3,rfl,J4,qn]
 ·refine ee (T.item X rfl rfl rfl hc i pins s3 σ3 H3 _ J3 (stat fr3) st3 go) λr s4 ⟨u,hr,h4⟩=>?_;subst hr;refine ee h4 λ_ s5 ⟨x,H5,J5,r5,y5,st5,fr5⟩=>?_;have J5':=J5.pinned (stat fr5) (T.obj _ _ st5);refine abb (hg _ s5 σ3 H5 x u _ J5' r5 (step x H5 y5)) (λ_ s6 ⟨σ6,H6,J6,q6⟩=>?_) no;refine abb (ht _ s6 σ6 H6 _ J6 q6) (λok s7 ⟨H7,J7,q7⟩=>?_) no
  have again:∀ {s':ce} {σ7:St} {H7:Hp},Inv X (pins++PU fp s5.heap) σ7 H7 s'->(∃ m',m'<n/\W (i+1) m' σ7 H7)->∃ m,m<n/\∃ i σ' H',Inv X pins σ' H' s'/\tn i s'.heap/\(∀ b∈fp,H' b=J)/\W i m σ' H':=λ{s' σ7 H7} J7 n7=>by
   obtain⟨m',hm,w7⟩:=n7;refine#[m',hm,i+1,σ7,H7,J7.unpinned,T.keep _ _ _ st5 λb hb o e=>(J7.pin (b,o) 1.22).1,λb hb=>?_,w7];obtain⟨o,e,d⟩:=T.obj _ _ st5 b hb;exact(J7.pin (b,o) 1.22).2.1
  cases ok with
  | false=>
   rw[if_neg aeI] at q7 ⊢;exact again J7 q7
  | true=>
   rw[aam rfl] at q7 ⊢;exact abb (hb _ s7 σ6 H7 _ J7 q7) (λ_ s9 ⟨σ9,H9,J9,q9⟩=>again J9 q9) no
structure BlockOk(X:Cx)(N':List Str)(scope:Scope)(cap:List 0.9):Prop where
 kind:scope.kind=.function
 nocell:∀ x∈scope.names,x.2≠.cell
 names:∀ x∈scope.names,x.2=.local->scope.names.lookup x.1=Y .local
 free:∀ x∈scope.names,x.2=.free->(X.env.kindOf x.1=Y .cell\/X.env.kindOf x.1=Y .free)
 nd:N'.Nodup
 len:cap.length=N'.length
 cap:∀ (j i:Nat),cap[j]?=Y (Y i)->∃ y,N'[j]?=Y y/\X.N[i]?=Y y/\WJ X.env.scope y/\(X.env.kindOf y=Y .cell\/X.env.kindOf y=Y .free)/\((relabel scope X.env).names.lookup y=Y .cell\/(relabel scope X.env).names.lookup y=Y .free)
def σB(cap:List 0.9)(σ:St):St:=cap.map λo=>o.bind λi=>(σ[i]?).join
section
variable{X:Cx}{pins:List (gV×Obj)}{σ:St}{H:Hp}{s:ce}{N':List Str}{scope:Scope}{cap:List (Option Nat)}{C:gV}{fp:List gV}
def BlockOk.cells(B:BlockOk X N' scope cap)(ok:X.Ok):∀ x∈scope.names,x.2=.free->(X.env.cells.lookup x.1).isSome=true:=λx hx hf=>by
 obtain⟨c,e⟩:=ok.has x.1 (B.free x hx hf);rw[e];rfl
def BlockOk.cl(B:BlockOk X N' scope cap)(ok:X.Ok):∀ y c,(Xu X.env.cells scope.names []).lookup y=Y c->X.env.cells.lookup y=Y c:=
 tB _ _ _ (B.cells ok) λy c e=>by simp at e
def Inv.notStk(I:Inv X pins σ H s){b:gV}(h1:b≠X.env.locals)(h2:b∉X.fs):b∉Nd X.stack:=λz=>(aav.mp (I.stkSub b z)).elim h1 h2
def Inv.block{h4:NY}{tk:Nat}(I:Inv X pins σ H s)(B:BlockOk X N' scope cap)(hfp:∀ b∈fp,LK X pins H b/\b<s.heap.objs.size)(hC:s.heap.objs.size<=C)
  (hk:∀ b o,s.heap.get? b=Y o->h4.get? b=Y o) (hn:h4.Ns C m0):Inv 0.5 [] (σB cap σ) H { s with heap:=h4,toks:=tk }:=by
 have okX:=I.ok;have hcl:=B.cl okX;have cellC:∀ x c,(Xu X.env.cells scope.names []).lookup x=Y c->∃ v,s.heap.IsCell c v:=λx c e=>I.cell x c (hcl x c e);have neC:∀ b o,s.heap.get? b=Y o->b≠C:=λb o e=>aaT (aaH (aaz e) hC)
 refine⟨#[okX.mod,B.kind,okX.glob,okX.blt,hC,λx y c e1 e2=>okX.inj x y c (hcl x c e1) (hcl y c e2),λx hx=>?_,λx c e w=>(by cases e),okX.hd,okX.frames,.inl rfl,λb hb=>#[λz=>?_,λx c e z=>?_],λb o e=>I.bs b o e,aaJ okX.bsz I.sz,λb o e hb=>?_,λb hb z=>?_,I.stack,I.stkFree],
  rfl,I.bare,Un.kept hk,#[m0,hn,λj y v e1 e2 e3=>?_],λx c e=>?_,I.hok.fresh hC,λx c e=>I.freeC x c (hcl x c e),λp hp=>absurd (show p∈([]:List 2.4) from hp) 0.3,I.hok.kept hk,?_⟩
 ·have q:=mr (scope:=scope) (env:=X.env) (y:=x) (names:=scope.names) hx B.nocell;exact abI.mp (rS _ _ _ _ q)
 ·have z':b=C:=z;exact absurd (hfp b hb).2 (by rw[z'];exact Nat.not_lt.mpr hC)
 ·exact(hfp b hb).1.2.2.2.2.1 x c (hcl x c e) z
 ·obtain⟨h0,h1,h2,h3,h4',h5⟩:=(hfp b hb).1;rcases h3 with h3 | h3
  ·exact okX.noex b o e h3
  ·have:=(okX.bs b o e).1;exact absurd (aaH (aaz this) h3) (abL _)
 ·obtain⟨h0,h1,h2,h3,h4',h5⟩:=(hfp b hb).1;exact I.notStk h1 h2 z
 ·have e1':N'[j]?=Y y:=e1;unfold σB at e2;rw[aaP] at e2;cases ec:cap[j]? with
  | none=>rw[ec] at e2;cases e2
  | some o=>
   rw[ec] at e2;cases o with
   | none=>cases e2
   | some i=>
    obtain⟨y',n1,n2,vis,kx,kb⟩:=B.cap j i ec;rw[e1'] at n1;cases n1;have e2':(σ[i]?).join=Y v:=aau e2
    have e2'':σ[i]?=Y (Y v):=by
     cases q:σ[i]? with
     | none=>rw[q] at e2';cases e2'
     | some z=>rw[q] at e2';exact congrArg Y e2'
    obtain⟨m,hm,hl⟩:=I.loc;obtain⟨u,ru,lk⟩:=hl i y v n2 e2'' vis;refine#[u,ru,.inr #[kb,?_]];rcases lk with ⟨k,_⟩ | ⟨k,c,ec',z⟩
    ·rcases kx with kx | kx
     ·rw[kx] at k;cases k
     ·rw[kx] at k;cases k
    ·have q:=mr (scope:=scope) (env:=X.env) (y:=y) (names:=scope.names) kb B.nocell;obtain⟨c',hc'⟩:=abI.mp (rS X.env.cells scope.names [] y q);have:=hcl y c' hc';rw[ec'] at this;cases this;exact#[c,hc',z.keeps hk]
 ·obtain⟨v,z⟩:=cellC x c e;exact#[v,z.keeps hk]
 ·show(σB cap σ).length=N'.length;unfold σB;rw[aaf,B.len]
def Inv.unblock(I:Inv X pins σ H s)(hfp:∀ b∈fp,LK X pins H b)(J0:Inv 0.5 pins' σ' Hf s'):Inv X pins σ Hf s':=
 I.call' (ch:=fp) J0.os J0.base J0.hok J0.bare λb hb=>by
  obtain⟨h0,h1,h2,h3,h4,h5⟩:=hfp b hb;exact#[h3,h1,h4,h5]
end
def II(o0:HO)(wi:TI)(g:TG)(tt:TT)(tb:gV->TB)(cap:List 0.9):TE:=λσ H Q=>wi σ H λJ0 H1=>∀ p,H1 p=J->NC J0 g tt (tb p) (σB cap σ) (upd H1 p o0) λz H'=>Q (.ref p) H'
noncomputable abbrev Ah(wi:TI)(g:TG)(tt:TT)(tb:gV->TB)(cap:List 0.9):TE:=II (.lst []) wi g tt tb cap
def IJ(wi:TI)(g:TG)(tt:TT)(te:TE)(cap:List 0.9):TE:=Ah wi g tt (A0m te) cap
def Behind(X:Cx)(pins:List 2.4)(σ:St)(Q:VK)(acc:ab)(C:gV)(r:Result)(s':ce):Prop:=
 ∃ p Hf m,r=.ok .next/\acc=.ref p/\Inv X pins σ Hf s'/\Q (.ref p) Hf/\s'.heap.Ns C m/\Hf C=J/\C≠X.env.locals/\X.s₀.heap.objs.size<=C/\(∀ x c,X.env.cells.lookup x=Y c->c≠C)/\(∀ q∈X.pn++pins,q.1≠C)
def xx{ob:Obj}{X:Cx}{iter tg:sn}{ifs:List sn}{rest:List Comprehension}{cap:List 0.9}{tb:gV->TB}{bc:ab->Env->Sem Unit}
  (hce:A0l e (#[tg,iter,ifs,0]::rest) scope pos) (hnw:∀ {Q:ab->ce->Prop} {E:ab->ce->Prop} {s:ce},Q 3.3 { s with heap:=s.heap.push ob,toks:=s.toks }->Xr 0.2 X.A nw Q E s) (h0:∀ {H:Hp} (h:NY),sysModules<h.objs.size->ObjOk X.prog X.w H (h.push ob) h.objs.size o0)
  (hc:X.calm=true) (B:BlockOk X N' scope cap) (hi:PI X tg iter wi) (hg:∀ C s H fp,PG 0.5 tg g) (ht:∀ C s H fp,VH 0.5 ifs tt)
  (htn:∀ it acc env,compTurn e 0 it acc env=XG e tg iter.pos ifs 0 it acc env (bc acc env))
  (hb:∀ C s H fp p,PB 0.5 (bc (.ref p) (Xv X N' scope C s H fp).env) (tb p)) {s:ce} (I:Inv X pins σ H s) (h:II o0 wi g tt tb cap σ H Q) {E:ab->ce->Prop} (hE:∀ e s,X.xe e s->E e s) :
  Xr 0.2 X.A 2.93 (λx s₁=>Xr 0.2 X.A (pyIter x) (λit s₂=>Xr 0.2 X.A nw (λacc s₃=>
   Xr 0.2 X.A (newFunctionEnv scope X.env.globals 1.38 [] X.env.qual J .none (Y X.env)) (λcenv s₄=>
    codeAny 0.2 X.A (.compStart e 0 it acc { cenv with scope:=relabel scope X.env }) (Behind X pins σ Q acc cenv.locals) s₄) E s₃) E s₂) E s₁) E s:=by
 refine abb (hi pins s σ H _ I h) (λv s1 h1=>abb h1 (λitv s2 h2=>?_) hE) hE;obtain⟨it,fp,tn,J0,H1,e,I2,T,st2,f2,hW⟩:=h2;subst e;refine hnw (wpAny_newFunctionEnv B.nocell (by intro y hy;simp at hy) (λh₁ hns₁ hsb₁=>?_) B.kind);dsimp only at hns₁ hsb₁ ⊢;have hp1:H1 s2.heap.objs.size=J:=I2.hok.fresh (aas _);have hL:=hW s2.heap.objs.size hp1
 have I3:Inv X pins σ 1.47 { s2 with heap:=s2.heap.push ob,toks:=s2.toks }:=
  I2.laid (λb o e=>aak _ e) (aas _) (h0 s2.heap I2.big)
 generalize hH2:s2.heap.push ob=H2 at hns₁ hsb₁ I3 ⊢;have hC:H2.objs.size=s2.heap.objs.size+1:=by rw[<- hH2,abB]
 have ltfp:∀ b∈fp,b<s2.heap.objs.size:=λb hb=>by
  obtain⟨o,e,u⟩:=T.obj _ _ st2 b hb;exact aaz e
 have hf3:∀ b∈fp,LK X pins 1.47 b/\b<H2.objs.size:=λb hb=>by
  obtain⟨a0,a⟩:=f2 b hb;refine#[#[?_,a],by rw[hC];exact Nat.lt_succ_of_lt (ltfp b hb)];rw[bo (aaT (ltfp b hb))];exact a0
 have up:∀ b o,H2.get? b=Y o->h₁.get? b=Y o:=λb o e=>hsb₁.extBut b o (aaT (aaz e)) (aak _ e);have I4:=I3.block (C:=H2.objs.size) (fp:=fp) (h4:=h₁) (tk:=s2.toks+([]:List (Str×ab)).length) B hf3 (aas _) up hns₁;have st4:tn 0 h₁:=T.keep _ _ _ st2 λb hb o e=>up b o (by rw[<- hH2];exact aak _ e)
 have loop:codeAny 0.2 X.A (.compLoop e 0 8.2 (.ref s2.heap.objs.size) (compEnvC scope 1.38 H2.objs.size X.env))
    (Behind X pins σ Q (.ref s2.heap.objs.size) H2.objs.size) { s2 with heap:=h₁,toks:=s2.toks+([]:List (Str×ab)).length }:=by
  refine acJ (cZ (X:=Xv X N' scope H2.objs.size { s2 with heap:=H2,toks:=s2.toks } 1.47 fp) hc (λu u z=>z) hce (htn _ _ _) (hg _ _ _ _) (ht _ _ _ _) (hb _ _ _ _ _) T I4 st4 (λb hb=>?_) hL) λr s4 ⟨σ4,H4,hr,J4,qn⟩=>?_
  ·obtain⟨h0,h1,h2,h3,h4',h5⟩:=(hf3 b hb).1;exact#[h0,aaT (hf3 b hb).2,I3.notStk h1 h2,.inl hb,λx c e=>h4' x c (B.cl I3.ok x c e),λp hp=>absurd (show p∈([]:List 2.4) from hp) 0.3]
  ·obtain⟨m,hm,u⟩:=J4.loc;have IX:=I3.unblock (λb hb=>(hf3 b hb).1) J4;refine#[_,H4,m,hr,rfl,IX,qn,hm,J4.free,?_,?_,λx c e z=>?_,λq hq z=>?_]
   ·exact Ne.symm (aaT I3.lt)
   ·exact I3.sz
   ·obtain⟨v,q⟩:=I3.cell x c e;exact absurd q.lt (by rw[z];exact abL _)
   ·exact absurd (aaz (I3.pin q hq).1) (by rw[z];exact abL _)
 rcases hce with ⟨elt,rfl⟩ | ⟨kx,vx,rfl⟩
 ·exact codeAny_compStart_list loop (T.self _ 0 _ _ _ st4 loop)
 ·exact codeAny_compStart_dict loop (T.self _ 0 _ _ _ st4 loop)
def zi(h:NY):ObjOk P w H (h.push { cls:=.type "list",dict:=J,data:=.seq ([]:List ab).toArray }) h.objs.size (.lst []):=#[abG _,[],_,.nil,aaC _ rfl]
def cK{X:Cx}{iter:sn}{rest:List Comprehension}{cap:List 0.9}{tb:gV->TB}{bc:ab->Env->Sem Unit}
  (hc:X.calm=true) (B:BlockOk X N' scope cap) (hi:PI X tg iter wi) (hg:∀ C s H fp,PG 0.5 tg g) (ht:∀ C s H fp,VH 0.5 ifs tt) (htn:∀ it acc env,compTurn (.ListComp elt (#[tg,iter,ifs,0]::rest) scope pos) 0 it acc env=XG (.ListComp elt (#[tg,iter,ifs,0]::rest) scope pos) tg iter.pos ifs 0 it acc env (bc acc env))
  (hb:∀ C s H fp p,PB 0.5 (bc (.ref p) (Xv X N' scope C s H fp).env) (tb p))
  (hs:∀ x,Qf iter X.env x=pure x:=by intro z;rfl):PE X (.ListComp elt (#[tg,iter,ifs,0]::rest) scope pos) (Ah wi g tt tb cap):=by
 intro pins s σ H Q I h;rw[eval_ListComp];refine aeb (use:=J) rfl hs (pL (B.cells I.ok)) B.kind B.names ?_;refine abb (xx (.inl #[_,rfl]) (λh=>aba h) (λh z=>zi h) hc B hi hg ht htn hb I h λz z x=>x) (λx s1 h1=>abb h1 (λit s2 h2=>abb h2 (λacc s3 h3=>abb h3 (λcenv s4 h4=>acJ h4 λr s' hr=>?_) λz z x=>x) λz z x=>x) λz z x=>x) λz z x=>x;obtain⟨p,Hf,m,rfl,rfl,J0,q,hn,c1,c2,c3,c4,c5⟩:=hr;exact#[m,hn,λh' sb=>#[_,Hf,J0.turned (t':=s'.toks) (λb o hb e=>(sb.2 b hb).trans e) c1 c2 (.inr c3) c4 c5,(show RelV (.ref p) (.ref p) from rfl),q]]
def bf{X:Cx}{iter:sn}{rest:List Comprehension}{spos:Pos}{cap:List 0.9}{tb:gV->TB}{bc:ab->Env->Sem Unit}{i:Nat}
  (hN:X.N.Nodup) (hy:X.N[i]?=Y y) (hx:Nb X.env.scope y)
  (hc:X.calm=true) (B:BlockOk X N' scope cap) (hi:PI X tg iter wi) (hg:∀ C s H fp,PG 0.5 tg g) (ht:∀ C s H fp,VH 0.5 ifs tt) (htn:∀ it acc env,compTurn (.ListComp elt (#[tg,iter,ifs,0]::rest) scope pos) 0 it acc env=XG (.ListComp elt (#[tg,iter,ifs,0]::rest) scope pos) tg iter.pos ifs 0 it acc env (bc acc env))
  (hb:∀ C s H fp p,PB 0.5 (bc (.ref p) (Xv X N' scope C s H fp).env) (tb p))
  (hsw:swapsWith (.ListComp elt (#[tg,iter,ifs,0]::rest) scope pos) (Y 1.85) spos.line X.env=pure true:=by rfl)
  (hs:∀ x,Qf iter X.env x=pure x:=by intro z;rfl) (hf:X.fn y=true\/X.env.scope.names.lookup y=Y .local:=by first | exact .inl rfl | exact .inr rfl | assumption) :
  PS X (.Assign [.Name y py] (.ListComp elt (#[tg,iter,ifs,0]::rest) scope pos) spos) (Kv (Ah wi g tt tb cap) (DD i)):=by
 intro pins s σ H D I h;unfold Kv Ah at h;rw[exec_Assign_Name_used _ _ _ _ hsw];refine aad (adn (aad ?_));show Xr _ _ (do let _ <- comprehension (.ListComp elt (⟨tg,iter,ifs,0⟩::rest) scope pos) scope X.env _ (newList []) false 2.93 (Y (assign 1.85 X.env))) _ _ s
 refine aad (abb (aeb (use:=Y (assign 1.85 X.env)) (Q:=λz s'=>SP X pins D .next s') rfl hs (pL (B.cells I.ok)) B.kind B.names
  (abb (xx (.inl #[_,rfl]) (λh=>aba h) (λh z=>zi h) hc B hi hg ht htn hb I h λz z x=>x) (λx s1 h1=>abb h1 (λit s2 h2=>abb h2 (λacc s3 h3=>abb h3 (λcenv s4 h4=>acJ h4 λr s' hr=>?_) λz z x=>x) λz z x=>x) λz z x=>x) λz z x=>x))
  (λz s' hq=>aaB (aaB hq)) λz z e=>e)
 obtain⟨p,Hf,m,rfl,rfl,J0,q,hn,c1,c2,c3,c4,c5⟩:=hr;refine wpAny_assign_Name (yJ J0 hN hy hx (v:=.ref p) rfl (λs2 J2 ⟨a,sb,ha⟩=>?_) hf);refine#[m,hn.sameBut sb ?_,λh' sb2=>#[_,Hf,J2.turned (t':=s2.toks) (λb o hb e=>(sb2.2 b hb).trans e) c1 c2 (.inr c3) c4 c5,q]];rcases ha with rfl | ha
 ·exact c2
 ·exact Ne.symm (c4 _ _ ha)
def ib{X:Cx}{iter:sn}{cap:List 0.9}
  (hc:X.calm=true) (B:BlockOk X N' scope cap) (hi:PI X tg iter wi) (hg:∀ C s H fp,PG 0.5 tg g) (ht:∀ C s H fp,VH 0.5 ifs tt) (he:∀ C s H fp,PE 0.5 elt te)
  (hs:∀ x,Qf iter X.env x=pure x:=by intro z;rfl):PE X 1.1 (IJ wi g tt te cap):=
 cK hc B hi hg ht (λz z z=>compTurn_list ..) (λC s H fp p=>bT (he C s H fp)) hs
def vF{X:Cx}{iter:sn}{spos:Pos}{cap:List 0.9}{i:Nat}
  (hN:X.N.Nodup) (hy:X.N[i]?=Y y) (hx:Nb X.env.scope y)
  (hc:X.calm=true) (B:BlockOk X N' scope cap) (hi:PI X tg iter wi) (hg:∀ C s H fp,PG 0.5 tg g) (ht:∀ C s H fp,VH 0.5 ifs tt) (he:∀ C s H fp,PE 0.5 elt te)
  (hsw:swapsWith 1.1 (Y 1.85) spos.line X.env=pure true:=by rfl)
  (hs:∀ x,Qf iter X.env x=pure x:=by intro z;rfl) (hf:X.fn y=true\/X.env.scope.names.lookup y=Y .local:=by first | exact .inl rfl | exact .inr rfl | assumption) :
  PS X 2.66 (Kv (IJ wi g tt te cap) (DD i)):=
 bf hN hy hx hc B hi hg ht (λz z z=>compTurn_list ..) (λC s H fp p=>bT (he C s H fp)) hsw hs hf
noncomputable def excK(x C dx:gV)(h:NY):Prop:=∃ oe vs,h.get? x=Y oe/\oe.cls=.ref C/\oe.dict=Y dx/\oe.data=.fields vs
end L2
namespace M
open L2
def Oy:Option Int->V
 | none=>.non
 | some i=>.int i
def Wm(a:gV)(h:NY):Prop:=∃ o,h.get? a=Y o/\o.cls=.type "dict"
inductive Bd1{α β:Type}(o:Option α)(f:α->Option β)(c:β):Prop
 | mk (a:α) (h:o=Y a) (h':f a=Y c)
inductive Bd2{α β γ:Type}(o:Option (α×β))(f:α×β->Option γ)(c:γ):Prop
 | mk (a:α) (b:β) (h:o=Y (a,b)) (h':f (a,b)=Y c)
def gA{α β:Type}:∀ {o:Option α} {f:α->Option β} {c:β},o.bind f=Y c->Bd1 o f c:=λ{o f c} h=>by
 cases o with
 | none=>cases h
 | some a=>exact#[a,rfl,h]
def dQ{α β γ:Type}:∀ {o:Option (α×β)} {f:α×β->Option γ} {c:γ},o.bind f=Y c->Bd2 o f c:=λ{o f c} h=>by
 cases o with
 | none=>cases h
 | some a=>exact#[a.1,a.2,rfl,h]
inductive D where
 | non
 | bl (b:Bool)
 | int (i:Int)
 | str (x:Str)
 | tup (xs:List D)
 | lst (xs:List D)
 | rol (xs:List D)
 | dct (ks:List bK) (vs:List D)
 | ref (r:Nat)
 | txt
 | obj
 | exc (C:gV) (fl:Str) (i:Option Int)
 | fn (a:gV)
inductive Cell where
 | lst (xs:List D)
 | dct (ks:List bK) (vs:List D)
noncomputable abbrev aa:=List Cell
structure Fp where
 cs:List gV
 fb:List gV
noncomputable def Fp.no(μ:Fp)(a:gV):Prop:=a∉μ.cs/\a∉μ.fb
noncomputable abbrev bn:=List (Option D)
def ni{α:Type}{N:List α}(hN:N.Nodup){i j:Nat}{x:α}(a:N[i]?=Y x)(b:N[j]?=Y x):i=j:=by
 obtain⟨h1,e1⟩:=aaa.mp a;obtain⟨h2,e2⟩:=aaa.mp b;exact(adH hN).mp (e1.trans e2.symm)
def KList(K:Ym)(a:gV)(xs:List V):Prop:=∃ (o:Obj) (its:Array ab) (n:Nat),K.lookup a=Y o/\o.cls=.type "list"/\o.dict=J/\o.data=.seq its n/\its.size<=Ph/\Vals xs its.toList
def KTup(K:Ym)(a:gV)(xs:List V):Prop:=∃ (o:Obj) (its:Array ab) (n:Nat),K.lookup a=Y o/\o.cls=.type "tuple"/\o.dict=J/\o.data=.seq its n/\its.size<=Ph/\Vals xs its.toList
mutual
inductive Rep(K:Ym)(μ:Fp)(H:Hp):V->D->Prop
 | non:Rep K μ H .non .non
 | bl (b:Bool):Rep K μ H (.bl b) (.bl b)
 | int (i:Int):Rep K μ H (.int i) (.int i)
 | str (x:Str):Rep K μ H (.str x) (.str x)
 | tup {a:gV} {vs:List V} {ds:List D} (h:H a=Y (.tup vs)) (n:μ.no a) (r:Reps K μ H vs ds):Rep K μ H (.ref a) (.tup ds)
 | ktup {a:gV} {vs:List V} {ds:List D} (h:KTup K a vs) (r:Reps K μ H vs ds):Rep K μ H (.ref a) (.tup ds)
 | lst {a:gV} {vs:List V} {ds:List D} (h:H a=Y 1.08) (n:μ.no a) (r:Reps K μ H vs ds):Rep K μ H (.ref a) (.lst ds)
 | rol {a:gV} {vs:List V} {ds:List D} (h:Rd H a 1.08) (n:μ.no a) (r:Reps K μ H vs ds):Rep K μ H (.ref a) (.rol ds)
 | krol {a:gV} {vs:List V} {ds:List D} (h:KList K a vs) (r:Reps K μ H vs ds):Rep K μ H (.ref a) (.rol ds)
 | dct {a:gV} {kvs:List (bK×V)} {ds:List D} (h:H a=Y 2.5) (n:μ.no a) (r:Reps K μ H (kvs.map (·.2)) ds):Rep K μ H (.ref a) (.dct (kvs.map (·.1)) ds)
 | ref {a:gV} {r:Nat} (h:μ.cs[r]?=Y a):Rep K μ H (.ref a) (.ref r)
 | txt (x:Str):Rep K μ H (.str x) .txt
 | obj {a:gV} (h:H a=Y (.ext (Wm a))) (n:μ.no a):Rep K μ H (.ref a) .obj
 | exc {a dx C:gV} {fl:Str} {i:Option Int} (h:H a=Y (.ext (excK a C dx))) (n:μ.no a) (h2:H dx=Y (.xd [(fl,Oy i)])) (n2:μ.no dx):Rep K μ H (.ref a) (.exc C fl i)
 | fn (a:gV):Rep K μ H (.ref a) (.fn a)
inductive Reps(K:Ym)(μ:Fp)(H:Hp):List V->List D->Prop
 | nil:Reps K μ H [] []
 | cons {v:V} {d:D} {vs:List V} {ds:List D} (h:Rep K μ H v d) (t:Reps K μ H vs ds):Reps K μ H (v::vs) (d::ds)
end
structure Ext(μ:Fp)(H:Hp)(μ':Fp)(H':Hp):Prop where
 fb:μ'.fb = μ.fb
 pre:∃ l,μ'.cs = μ.cs++l/\∀ a∈l,H a=J
 keep:∀ a o,a∉μ.cs->H a=Y o->H' a=Y o
 dom:∀ a∈μ'.cs,H' a≠J
section
variable{K:Ym}{μ μ' μ'':Fp}{H H' H'':Hp}
def Ext.stays(e:Ext μ H μ' H')(h:H a=Y o)(n:μ.no a):H' a=Y o/\μ'.no a:=by
 refine#[e.keep a o n.1 h,λz=>?_,by rw[e.fb];exact n.2];obtain⟨l,q,hl⟩:=e.pre;rw[q] at z;rcases aan.mp z with z | z
 ·exact n.1 z
 ·rw[hl a z] at h;cases h
def Ext.keeps(e:Ext μ H μ' H')(h:H a=Y o)(n:a∉μ.cs):H' a=Y o/\a∉μ'.cs:=by
 refine#[e.keep a o n h,λz=>?_];obtain⟨l,q,hl⟩:=e.pre;rw[q] at z;rcases aan.mp z with z | z
 ·exact n z
 ·rw[hl a z] at h;cases h
def Ext.trans(e:Ext μ H μ' H')(f:Ext μ' H' μ'' H''):Ext μ H μ'' H'':=by
 obtain⟨l,q,hl⟩:=e.pre;obtain⟨l',q',hl'⟩:=f.pre;refine#[f.fb.trans e.fb,#[l++l',by rw[q',q,aay],λa ha=>?_],λa o n h=>?_,f.dom]
 ·rcases aan.mp ha with ha | ha
  ·exact hl a ha
  ·have h1:=hl' a ha;cases q2:H a with
   | none=>rfl
   | some o=>
    by_cases hm:a∈μ.cs
    ·exact absurd h1 (e.dom a (by rw[q];exact aaK _ hm))
    ·rw[e.keep a o hm q2] at h1;cases h1
 ·have:=e.keeps h n;exact f.keep a o this.2 this.1
def Ext.refl(h:∀ a∈μ.cs,H a≠J):Ext μ H μ H:=#[rfl,#[[],by simp,λw z=>by simp at z],λw w w h=>h,h]
noncomputable def kids:D->List D
 | .tup xs=>xs
 | .lst xs=>xs
 | .rol xs=>xs
 | .dct _ xs=>xs
 | _=>[]
def Rep.to{P:D->Prop}(hc:∀ d,P d->∀ x∈kids d,P x)(hk:∀ {a:gV} {o:HO},H a=Y o->μ.no a->H' a=Y o/\μ'.no a)(hr:∀ {r:Nat} {a:gV},P (.ref r)->μ.cs[r]?=Y a->μ'.cs[r]?=Y a){d:D}(r:Rep K μ H v d):P d->Rep K μ' H' v d:=
 Rep.rec (motive_1:=λv d z=>P d->Rep K μ' H' v d) (motive_2:=λvs ds z=>(∀ d∈ds,P d)->Reps K μ' H' vs ds)
  (λz=>.non) (λb z=>.bl b) (λi z=>.int i) (λx z=>.str x) (λh n z ih p=>.tup (hk h n).1 (hk h n).2 1.54) (λh z ih p=>.ktup h 1.54)
  (λh n z ih p=>.lst (hk h n).1 (hk h n).2 1.54) (λh n z ih p=>.rol (h.imp (λh=>(hk h n).1) λ⟨o,h⟩=>#[o,(hk h n).1]) (h.elim (λh=>(hk h n).2) λ⟨_,h⟩=>(hk h n).2) 1.54) (λh z ih p=>.krol h 1.54)
  (λh n z ih p=>.dct (hk h n).1 (hk h n).2 1.54) (λh p=>.ref (hr p h)) (λx z=>.txt x) (λh n z=>.obj (hk h n).1 (hk h n).2) (λh n h2 n2 z=>.exc (hk h n).1 (hk h n).2 (hk h2 n2).1 (hk h2 n2).2)
  (λa z=>.fn a)
  (λz=>.nil) (λz z i1 i2 p=>.cons (i1 (p _ aab)) (i2 λx hx=>p x 1.61)) r
def Reps.ind{Q:List V->List D->Prop}(h0:Q [] [])(h1:∀ {v:V} {d:D} {vs:List V} {ds:List D},Rep K μ H v d->Reps K μ H vs ds->Q vs ds->Q (v::vs) (d::ds)):∀ {vs:List V} {ds:List D},Reps K μ H vs ds->Q vs ds
 | _,_,.nil=>h0
 | _,_,.cons h t=>h1 h t (Reps.ind h0 h1 t)
def Reps.to{P:D->Prop}(hR:∀ {v:V} {d:D},Rep K μ H v d->P d->Rep K μ' H' v d)(r:Reps K μ H vs ds):(∀ d∈ds,P d)->Reps K μ' H' vs ds:=
 Reps.ind (Q:=λvs ds=>(∀ d∈ds,P d)->Reps K μ' H' vs ds) (λz=>.nil) (λh z i p=>.cons (hR h (p _ aab)) (i λx hx=>p x 1.61)) r
def Rep.imp(hk:∀ {a:gV} {o:HO},H a=Y o->μ.no a->H' a=Y o/\μ'.no a)(hr:∀ {r:Nat} {a:gV},μ.cs[r]?=Y a->μ'.cs[r]?=Y a){d:D}(r:Rep K μ H v d):Rep K μ' H' v d:=Rep.to (P:=λz=>True) (λz z z z=>trivial) hk (λz=>hr) r trivial
def Reps.imp(hk:∀ {a:gV} {o:HO},H a=Y o->μ.no a->H' a=Y o/\μ'.no a)(hr:∀ {r:Nat} {a:gV},μ.cs[r]?=Y a->μ'.cs[r]?=Y a)(r:Reps K μ H vs ds):Reps K μ' H' vs ds:=Reps.to (P:=λz=>True) (λr z=>r.imp hk hr) r λz z=>trivial
def nl{l m:List gV}{k:List gV}(q:k=l++m){r:Nat}(h:l[r]?=Y a):k[r]?=Y a:=by
 rw[q,aap (aaa.mp h).1];exact h
def Ext.ix(e:Ext μ H μ' H'){r:Nat}(h:μ.cs[r]?=Y a):μ'.cs[r]?=Y a:=by
 obtain⟨l,q,z⟩:=e.pre;exact nl q h
def Rep.mono(e:Ext μ H μ' H'){d:D}(r:Rep K μ H v d):Rep K μ' H' v d:=r.imp e.stays e.ix
def Reps.mono(e:Ext μ H μ' H')(r:Reps K μ H vs ds):Reps K μ' H' vs ds:=r.imp e.stays e.ix
def Reps.length{vs:List V}{ds:List D}(r:Reps K μ H vs ds):vs.length=ds.length:=Reps.ind (Q:=λvs ds=>vs.length=ds.length) rfl (λz z i=>congrArg (· + 1) i) r
def Reps.get:∀ {vs:List V} {ds:List D} {i:Nat} {d:D},Reps K μ H vs ds->ds[i]?=Y d->∃ v,vs[i]?=Y v/\Rep K μ H v d
 | _,_,_,_,.nil,e=>by simp at e
 | _,_,0,_,.cons h _,e=>by simp at e;subst e;exact#[_,rfl,h]
 | _,_,i+1,d,.cons _ t,e=>by
  obtain⟨u,h1,h2⟩:=Reps.get (i:=i) (d:=d) t (by simpa using e);exact#[u,by simpa using h1,h2]
def Reps.append{ws:List V}(r:Reps K μ H vs ds)(s:Reps K μ H ws es):Reps K μ H (vs++ws) (ds++es):=Reps.ind (Q:=λvs ds=>Reps K μ H (vs++ws) (ds++es)) s (λr z i=>.cons r i) r
def Reps.take:∀ {vs:List V} {ds:List D} (n:Nat),Reps K μ H vs ds->Reps K μ H (vs.take n) (ds.take n)
 | _,_,0,_=>.nil
 | _,_,_+1,.nil=>.nil
 | _,_,n+1,.cons r t=>.cons r (Reps.take n t)
def Reps.drop:∀ {vs:List V} {ds:List D} (n:Nat),Reps K μ H vs ds->Reps K μ H (vs.drop n) (ds.drop n)
 | _,_,0,r=>r
 | _,_,_+1,.nil=>.nil
 | _,_,n+1,.cons _ t=>Reps.drop n t
def Reps.set{d:D}(r:Rep K μ H x d):∀ {vs:List V} {ds:List D} (i:Nat),Reps K μ H vs ds->Reps K μ H (vs.set i x) (ds.set i d)
 | _,_,_,.nil=>.nil
 | _,_,0,.cons _ t=>.cons r t
 | _,_,i+1,.cons q t=>.cons q (Reps.set r i t)
def Reps.flat:∀ (k:Nat) {ds:List D},Reps K μ H xs ds->Reps K μ H (ZB k xs).flatten (ZB k ds).flatten
 | 0,_,_=>.nil
 | k+1,_,r=>by rw[aaR,aaR,abl,abl];exact r.append (Reps.flat k r)
def CellOk(K:Ym)(μ:Fp)(H:Hp)(a:gV):Cell->Prop
 | .lst ds=>∃ vs,H a=Y 1.08/\Reps K μ H vs ds
 | .dct ks ds=>∃ kvs,H a=Y 2.5/\ks=kvs.map (·.1)/\Reps K μ H (kvs.map (·.2)) ds
structure SOk(K:Ym)(μ:Fp)(S:aa)(H:Hp):Prop where
 nd:μ.cs.Nodup
 len:μ.cs.length=S.length
 cell:∀ (r:Nat) (a:gV) (c:Cell),μ.cs[r]?=Y a->S[r]?=Y c->CellOk K μ H a c
 fdom:∀ a∈μ.fb,H a≠J
 disj:∀ a∈μ.fb,a∉μ.cs
def CellOk.ne_none(h:CellOk K μ H a c):H a≠J:=by
 cases c with
 | lst ds=>obtain⟨vs,h,z⟩:=h;rw[h];simp
 | dct ks ds=>obtain⟨vs,h,z⟩:=h;rw[h];simp
def CellOk.mono(e:Ext μ H μ' H')(he:H' a=H a)(h:CellOk K μ H a c):CellOk K μ' H' a c:=by
 cases c with
 | lst ds=>obtain⟨vs,h,r⟩:=h;exact#[vs,he.trans h,r.mono e]
 | dct ks ds=>obtain⟨vs,h,q,r⟩:=h;exact#[vs,he.trans h,q,r.mono e]
def SOk.dom(s:SOk K μ S H):∀ a∈μ.cs,H a≠J:=λa ha=>by
 obtain⟨r,hr⟩:=abX.mp ha;have hl:=(aaa.mp hr).1;rw[s.len] at hl;exact(s.cell r a S[r] hr (by simp[hl])).ne_none
def SOk.ext(s:SOk K μ S H):Ext μ H μ H:=.refl s.dom
def SOk.notMem(s:SOk K μ S H)(h:H p=J):μ.no p:=#[λz=>s.dom p z h,λz=>s.fdom p z h]
def SOk.laid(s:SOk K μ S H)(h:H p=J):Ext μ H μ 6.6/\SOk K μ S 6.6:=by
 have e:Ext μ H μ 6.6:=⟨rfl,#[[],by simp,λw z=>by simp at z],λa o' w q=>by rw[bo (cP q h)];exact q,λa ha=>by
  by_cases z:a=p
  ·subst z;rw[bD];simp
  ·rw[bo z];exact s.dom a ha⟩
 refine#[e,s.nd,s.len,λr a c h1 h2=>(s.cell r a c h1 h2).mono e ?_,λa ha=>?_,s.disj]
 case refine_2=>
  by_cases z:a=p
  ·subst z;rw[bD];simp
  ·rw[bo z];exact s.fdom a ha
 have:=(s.cell r a c h1 h2).ne_none;refine bo λz=>?_;rw[z] at this;exact this h
def SOk.alloc(s:SOk K μ S H)(h:H p=J)(r:Reps K μ H vs ds):Ext μ H #[μ.cs++[p],μ.fb] 2.74/\SOk K #[μ.cs++[p],μ.fb] (S++[.lst ds]) 2.74:=by
 have hp:=s.notMem h
 have e:Ext μ H #[μ.cs++[p],μ.fb] 2.74:=⟨rfl,#[[p],rfl,λa z=>by rw[aat.mp z];exact h],λa o' w q=>by rw[bo (cP q h)];exact q,λa ha=>by
  by_cases z:a=p
  ·subst z;rw[bD];simp
  ·rw[bo z];rcases aan.mp ha with q | q
   ·exact s.dom a q
   ·exact absurd (aat.mp q) z⟩
 refine#[e,?_,by simp[s.len],λi a c h1 h2=>?_,λa ha=>?_,λa ha z=>?_]
 case refine_3=>
  by_cases z:a=p
  ·subst z;rw[bD];simp
  ·rw[bo z];exact s.fdom a ha
 case refine_4=>
  rcases aan.mp z with q | q
  ·exact s.disj a ha q
  ·rw[aat.mp q] at ha;exact hp.2 ha
 ·show(μ.cs++[p]).Nodup;rw[abd];exact#[s.nd,by simp,λa ha b hb=>by rw[aat.mp hb];rintro rfl;exact hp.1 ha]
 ·have h1:(μ.cs++[p])[i]?=Y a:=h1;by_cases hi:i < μ.cs.length
  ·rw[aap hi] at h1;rw[aap (by rw[<- s.len];exact hi)] at h2;have q:=s.cell i a c h1 h2;refine q.mono e (bo λz=>?_);exact hp.1 (z ▸ aax h1)
  ·have hl:i = μ.cs.length:=by
    have:=(aaa.mp h1).1;simp at this;omega
   subst hl;rw[aaZ (aas _)] at h1;rw[s.len,aaZ (aas _)] at h2;simp at h1 h2;subst h1 h2;exact#[vs,bD,r.mono e]
def SOk.write(s:SOk K μ S H){i:Nat}(hi:μ.cs[i]?=Y a)(h:H a=Y 1.08)(r:Reps K μ H vs' ds):Ext μ H μ 2.36/\SOk K μ (S.set i (.lst ds)) 2.36:=by
 have ha:=aax hi
 have e:Ext μ H μ 2.36:=⟨rfl,#[[],by simp,λw z=>by simp at z],λb o' n q=>by rw[bo (by rintro rfl;exact n ha)];exact q,λb hb=>by
  by_cases z:b=a
  ·subst z;rw[bD];simp
  ·rw[bo z];exact s.dom b hb⟩
 refine#[e,s.nd,by simp[s.len],λj b c h1 h2=>?_,λb hb=>?_,s.disj]
 case refine_2=>
  by_cases z:b=a
  ·subst z;rw[bD];simp
  ·rw[bo z];exact s.fdom b hb
 by_cases hj:j=i
 ·subst hj;rw[hi] at h1;cases h1;have hl:j<S.length:=by rw[<- s.len];exact(aaa.mp hi).1
  rw[aaw hl] at h2;cases h2;exact#[vs',bD,r.mono e]
 ·rw[aaq 1.43] at h2;refine(s.cell j b c h1 h2).mono e (bo λz=>hj ?_);subst z;exact ni s.nd h1 hi
inductive EOk(K:Ym)(μ:Fp)(H:Hp):L2.St->bn->Prop
 | nil:EOk K μ H [] []
 | no {x:Option V} {σ:L2.St} {env:bn} (t:EOk K μ H σ env):EOk K μ H (x::σ) (J::env)
 | yes {v:V} {d:D} {σ:L2.St} {env:bn} (h:Rep K μ H v d) (t:EOk K μ H σ env):EOk K μ H (Y v::σ) (Y d::env)
def EOk.to(hR:∀ {v:V} {d:D},Rep K μ H v d->Rep K μ' H' v d)(h:EOk K μ H σ env):EOk K μ' H' σ env:=by
 induction h with
 | nil=>exact .nil
 | no _ ih=>exact .no ih
 | yes h _ ih=>exact .yes (hR h) ih
def EOk.mono(e:Ext μ H μ' H')(h:EOk K μ H σ env):EOk K μ' H' σ env:=h.to (·.mono e)
def EOk.get:∀ {σ:L2.St} {env:bn} {i:Nat} {d:D},EOk K μ H σ env->env[i]?=Y (Y d)->∃ v,σ[i]?=Y (Y v)/\Rep K μ H v d
 | _,_,_,_,.nil,h=>by simp at h
 | _,_,0,_,.no _,h=>by simp at h
 | _,_,0,_,.yes h _,q=>by simp at q;subst q;exact#[_,rfl,h]
 | _,_,i+1,d,.no t,h=>by
  obtain⟨v,h1,h2⟩:=EOk.get (i:=i) (d:=d) t (by simpa using h);exact#[v,by simpa using h1,h2]
 | _,_,i+1,d,.yes _ t,h=>by
  obtain⟨v,h1,h2⟩:=EOk.get (i:=i) (d:=d) t (by simpa using h);exact#[v,by simpa using h1,h2]
def EOk.set{d:D}(r:Rep K μ H v d):∀ {σ:L2.St} {env:bn} (i:Nat),EOk K μ H σ env->EOk K μ H (σ.set i (Option.some v)) (env.set i (Option.some d))
 | _,_,_,.nil=>.nil
 | _,_,0,.no t=>.yes r t
 | _,_,0,.yes _ t=>.yes r t
 | _,_,i+1,.no t=>.no (EOk.set r i t)
 | _,_,i+1,.yes h t=>.yes h (EOk.set r i t)
def EOk.length{σ:L2.St}{env:bn}(h:EOk K μ H σ env):σ.length=env.length:=by induction h<;>simp[*]
def EOk.start{N:Nat}:∀ {vs:List V} {ds:List D},Reps K μ H vs ds->EOk K μ H (vs.map Option.some++ZB N Option.none) (ds.map Option.some++ZB N Option.none)
 | _,_,.nil=>by
  induction N with
  | zero=>exact .nil
  | succ n ih=>exact .no ih
 | _,_,.cons h t=>.yes h (EOk.start t)
def EOk.block(h:EOk K μ H σ env):∀ (cap:List 0.9),EOk K μ H (σB cap σ) (cap.map λo=>o.bind λi=>(env[i]?).join)
 | []=>.nil
 | Option.none::r=>.no (EOk.block h r)
 | Option.some i::r=>by
  show EOk K μ H ((σ[i]?).join::σB r σ) ((env[i]?).join::_);cases q:(env[i]?).join with
  | none=>exact .no (EOk.block h r)
  | some d=>
   have q':env[i]?=Option.some (Option.some d):=by
    cases z:env[i]? with
    | none=>rw[z] at q;cases q
    | some y=>rw[z] at q;exact congrArg Option.some q
   obtain⟨v,h1,h2⟩:=h.get q';rw[h1];exact .yes h2 (EOk.block h r)
def ub{p:gV}{cs fb:List gV}(n:(#[cs,p::fb]:Fp).no a):(#[cs,fb]:Fp).no a:=#[n.1,λz=>n.2 1.71]
def Rep.less{p:gV}{cs fb:List gV}{d:D}(r:Rep K #[cs,p::fb] H v d):Rep K #[cs,fb] H v d:=r.imp (λh n=>#[h,ub n]) λh=>h
def Reps.less{p:gV}{cs fb:List gV}{d:List D}(r:Reps K #[cs,p::fb] H v d):Reps K #[cs,fb] H v d:=r.imp (λh n=>#[h,ub n]) λh=>h
def wX{cs fb:List gV}(hp:H p=J)(h:H a=Y o')(n:(#[cs,fb]:Fp).no a):upd H p o a=Y o'/\(#[cs,p::fb]:Fp).no a:=#[(bo (cP h hp)).trans h,n.1,λz=>(aav.mp z).elim (cP h hp) n.2]
def Rep.more{cs fb:List gV}(hp:H p=J){d:D}(r:Rep K #[cs,fb] H v d):Rep K #[cs,p::fb] 6.6 v d:=r.imp (wX hp) λh=>h
def Reps.more{cs fb:List gV}(hp:H p=J){d:List D}(r:Reps K #[cs,fb] H v d):Reps K #[cs,p::fb] 6.6 v d:=r.imp (wX hp) λh=>h
def Fp.no.ne{μ:Fp}{p:gV}(n:μ.no a)(hp:p∈μ.fb):a≠p:=λz=>n.2 (by rw[z];exact hp)
def Rep.chg{p:gV}(hp:p∈μ.fb){d:D}(r:Rep K μ H v d):Rep K μ 6.6 v d:=r.imp (λh n=>#[(bo (n.ne hp)).trans h,n]) λh=>h
def Reps.chg{p:gV}(hp:p∈μ.fb){d:List D}(r:Reps K μ H v d):Reps K μ 6.6 v d:=r.imp (λh n=>#[(bo (n.ne hp)).trans h,n]) λh=>h
def EOk.more{cs fb:List gV}(hp:H p=J)(h:EOk K #[cs,fb] H σ env):EOk K #[cs,p::fb] 6.6 σ env:=h.to (·.more hp)
def EOk.chg{p:gV}(hp:p∈μ.fb)(h:EOk K μ H σ env):EOk K μ 6.6 σ env:=h.to (·.chg hp)
def CellOk.upd{p a:gV}(μ':Fp)(hpa:a≠p)(h:CellOk K μ H a c)(f:∀ vs ds,Reps K μ H vs ds->Reps K μ' 6.6 vs ds):CellOk K μ' 6.6 a c:=by
 cases c with
 | lst ds=>obtain⟨vs,h,r⟩:=h;exact#[vs,(bo hpa).trans h,f _ _ r]
 | dct ks ds=>obtain⟨vs,h,q,r⟩:=h;exact#[vs,(bo hpa).trans h,q,f _ _ r]
def SOk.less{p:gV}{cs fb:List gV}(s:SOk K #[cs,p::fb] S H):SOk K #[cs,fb] S H:=
 ⟨s.nd,s.len,λr a c h1 h2=>by
  have:=s.cell r a c h1 h2;cases c with
  | lst ds=>obtain⟨vs,h,r⟩:=this;exact#[vs,h,r.less]
  | dct ks ds=>obtain⟨vs,h,q,r⟩:=this;exact#[vs,h,q,r.less],λa ha=>s.fdom a (aac _ ha),λa ha=>s.disj a (aac _ ha)⟩
def SOk.more{cs fb:List gV}(s:SOk K #[cs,fb] S H)(hp:H p=J):SOk K #[cs,p::fb] S 6.6:=by
 have hn:=s.notMem hp;refine#[s.nd,s.len,λr a c h1 h2=>(s.cell r a c h1 h2).upd _ (λz=>?_) λvs ds r=>r.more hp,λa ha=>?_,λa ha z=>?_]
 ·exact hn.1 (z ▸ aax h1)
 ·by_cases z:a=p
  ·subst z;rw[bD];simp
  ·rw[bo z];exact s.fdom a ((aav.mp ha).resolve_left z)
 ·rcases aav.mp ha with rfl | ha
  ·exact hn.1 z
  ·exact s.disj a ha z
def SOk.chg{p:gV}(s:SOk K μ S H)(hp:p∈μ.fb):SOk K μ S 6.6:=by
 refine#[s.nd,s.len,λr a c h1 h2=>(s.cell r a c h1 h2).upd _ (λz=>?_) λvs ds r=>r.chg hp,λa ha=>?_,s.disj]
 ·exact s.disj p hp (z ▸ aax h1)
 ·by_cases z:a=p
  ·subst z;rw[bD];simp
  ·rw[bo z];exact s.fdom a ha
end
noncomputable abbrev ME:=bn->aa->Option (D×aa)
noncomputable abbrev MT:=bn->aa->Option (Bool×aa)
noncomputable abbrev MA:=bn->aa->Option (List D×aa)
inductive qz where
 | nx (env:bn) (S:aa)
 | rt (d:D) (S:aa)
 | bk (env:bn) (S:aa)
 | ct (env:bn) (S:aa)
noncomputable abbrev MS:=bn->aa->Option qz
def Post(K:Ym)(μ:Fp)(H:Hp)(S':aa)(d:D)(Q:VK):Prop:=∀ v H' μ',Ext μ H μ' H'->SOk K μ' S' H'->Rep K μ' H' v d->Q v H'
def PostT(K:Ym)(μ:Fp)(H:Hp)(S':aa)(b:Bool)(Q:Bool->Hp->Prop):Prop:=∀ H' μ',Ext μ H μ' H'->SOk K μ' S' H'->Q b H'
def PostA(K:Ym)(μ:Fp)(H:Hp)(S':aa)(ds:List D)(Q:List V->Hp->Prop):Prop:=∀ vs H' μ',Ext μ H μ' H'->SOk K μ' S' H'->Reps K μ' H' vs ds->Q vs H'
def PostN(K:Ym)(μ:Fp)(H:Hp)(S':aa)(env':bn)(Q:L2.St->Hp->Prop):Prop:=∀ σ' H' μ',Ext μ H μ' H'->SOk K μ' S' H'->EOk K μ' H' σ' env'->Q σ' H'
def PostS(K:Ym)(μ:Fp)(H:Hp)(o:qz)(E:tP):Prop:=match o with
 | .nx env' S'=>PostN K μ H S' env' E.nx
 | .rt d S'=>Post K μ H S' d E.rt
 | .bk env' S'=>PostN K μ H S' env' E.bk
 | .ct env' S'=>PostN K μ H S' env' E.ct
inductive tM(K:Ym)(m:ME)(σ:L2.St)(H:Hp)(Q:VK):Prop
 | mk (μ:Fp) (S:aa) (env:bn) (d:D) (S':aa) (hS:SOk K μ S H) (hE:EOk K μ H σ env) (h:m env S=Y (d,S')) (post:Post K μ H S' d Q)
inductive Ga(K:Ym)(m:MT)(σ:L2.St)(H:Hp)(Q:Bool->Hp->Prop):Prop
 | mk (μ:Fp) (S:aa) (env:bn) (b:Bool) (S':aa) (hS:SOk K μ S H) (hE:EOk K μ H σ env) (h:m env S=Y (b,S')) (post:PostT K μ H S' b Q)
inductive tMA(K:Ym)(m:MA)(σ:L2.St)(H:Hp)(Q:List V->Hp->Prop):Prop
 | mk (μ:Fp) (S:aa) (env:bn) (ds:List D) (S':aa) (hS:SOk K μ S H) (hE:EOk K μ H σ env) (h:m env S=Y (ds,S')) (post:PostA K μ H S' ds Q)
inductive tMS(K:Ym)(m:MS)(E:tP)(σ:L2.St)(H:Hp):Prop
 | mk (μ:Fp) (S:aa) (env:bn) (o:qz) (hS:SOk K μ S H) (hE:EOk K μ H σ env) (h:m env S=Y o) (post:PostS K μ H o E)
inductive nA(K:Ym)(f:aa->D->D->Option D)(x y:V)(H:Hp)(Q:VK):Prop
 | mk (μ:Fp) (S:aa) (dx dy dz:D) (hS:SOk K μ S H) (h1:Rep K μ H x dx) (h2:Rep K μ H y dy) (h3:f S dx dy=Y dz) (post:Post K μ H S dz Q)
inductive rM1(K:Ym)(f:aa->D->Option D)(x:V)(H:Hp)(Q:VK):Prop
 | mk (μ:Fp) (S:aa) (dx dz:D) (hS:SOk K μ S H) (h1:Rep K μ H x dx) (h3:f S dx=Y dz) (post:Post K μ H S dz Q)
inductive Og(K:Ym)(f:List D->aa->Option (D×aa))(vs:List V)(H:Hp)(Q:VK):Prop
 | mk (μ:Fp) (S:aa) (ds:List D) (d:D) (S':aa) (hS:SOk K μ S H) (h1:Reps K μ H vs ds) (h3:f ds S=Y (d,S')) (post:Post K μ H S' d Q)
def DE(X:Cx)(e:sn)(m:ME):Prop:=PE X e (tM X.K m)
def DT(X:Cx)(e:sn)(m:MT):Prop:=PT X e (Ga X.K m)
def DW(X:Cx)(e:sn)(m:MT):Prop:=PW X e (Ga X.K m)
def DA(X:Cx)(es:List sn)(m:MA):Prop:=PA X es (tMA X.K m)
def DS(X:Cx)(st:Kw)(m:MS):Prop:=PS X st (tMS X.K m)
def SM(X:Cx)(st:List Kw)(m:MS):Prop:=PSs X st (tMS X.K m)
section
variable{X:Cx}{K:Ym}{μ μ':Fp}{H H':Hp}{S S':aa}
def Post.ext{d:D}(e:Ext μ H μ' H')(p:Post K μ H S' d Q):Post K μ' H' S' d Q:=λv H2 μ2 e2 s r=>p v H2 μ2 (e.trans e2) s r
def Post.here{d:D}(p:Post K μ H S d Q)(s:SOk K μ S H)(r:Rep K μ H v d):Q v H:=p v H μ s.ext s r
def PE.imp{t':TE}(h:PE X e t)(i:∀ σ H Q,t' σ H Q->t σ H Q):PE X e t':=λpins s σ H Q I q=>h pins s σ H Q I 2.20
def PT.imp{t':TT}(h:PT X e t)(i:∀ σ H Q,t' σ H Q->t σ H Q):PT X e t':=λpins s σ H Q I q=>h pins s σ H Q I 2.20
def PW.imp{t':TT}(h:PW X e t)(i:∀ σ H Q,t' σ H Q->t σ H Q):PW X e t':=λw pins s σ H Q I q=>h w pins s σ H Q I 2.20
def PA.imp{t':TA}(h:PA X e t)(i:∀ σ H Q,t' σ H Q->t σ H Q):PA X e t':=λpos pins s σ H Q I q=>h pos pins s σ H Q I 2.20
def PS.imp{t':TS}(h:PS X e t)(i:∀ E σ H,t' E σ H->t E σ H):PS X e t':=λpins s σ H E I q=>h pins s σ H E I (i E σ H q)
def PSs.imp{t':TS}(h:PSs X e t)(i:∀ E σ H,t' E σ H->t E σ H):PSs X e t':=λpins s σ H E I q=>h pins s σ H E I (i E σ H q)
def OpR.imp{r':R2}(h:OpR X f r)(i:∀ x y H Q,r' x y H Q->r x y H Q):OpR X f r':=λpins s σ H x y v u Q I rx ry q=>h pins s σ H x y v u Q I rx ry (i x y H Q q)
def UnR.imp{r':V->Hp->VK->Prop}(h:UnR X f r)(i:∀ x H Q,r' x H Q->r x H Q):UnR X f r':=λpins s σ H x v Q I rx q=>h pins s σ H x v Q I rx (i x H Q q)
def CallR.imp{r':List V->Hp->VK->Prop}(h:CallR X f r)(i:∀ x H Q,r' x H Q->r x H Q):CallR X f r':=λpins s σ H x v Q I rx q=>h pins s σ H x v Q I rx (i x H Q q)
def IxR.imp{r':R2}(h:IxR X r)(i:∀ x y H Q,r' x y H Q->r x y H Q):IxR X r':=λva sl pins s σ H x y v u Q I rx ry q=>h va sl pins s σ H x y v u Q I rx ry (i x y H Q q)
noncomputable def af(i:Nat):ME:=λenv S=>(env[i]?).join.bind λd=>Y (d,S)
noncomputable def mC(d:D):ME:=λz S=>Y (d,S)
def zn{α:Type}{o:Option (Option α)}{a:α}(h:o.join=Y a):o=Y (Y a):=by
 cases o with
 | none=>cases h
 | some o=>exact congrArg Y h
theorem ZI{i:Nat}(hN:X.N[i]?=Y x)(hv:WJ X.env.scope x)(hd:(x==("__debug__":Str))=false:=by decide)(hcd:(x==("__classdict__":Str))=false:=by decide):DE X 7.4 (af i):=
 PE.imp (yv hN hv hd hcd) λσ H Q z0=>by
  obtain⟨μ,S,env,d,S',hS,hE,hm,post⟩:=z0;obtain⟨d',h1,h2⟩:=gA hm;cases h2;obtain⟨v,e,r⟩:=hE.get (zn h1);exact#[v,e,post.here hS r]
def oz{d:D}(h:PE X e (Yw v))(r:∀ μ H,Rep X.K μ H v d):DE X e (mC d):=
 PE.imp h λσ H Q ⟨μ,S,env,d',S',hS,hE,hm,post⟩=>by cases hm;exact post.here hS (r μ H)
theorem ZP{j pos}:DE X (.Constant (.int i) j pos) (mC (.int i)):=oz lc λz z=>.int i
def de_bl{b j pos}:DE X (.Constant (.bool b) j pos) (mC (.bl b)):=oz pe_bl λz z=>.bl b
theorem ZM{j pos}:DE X (.Constant .none j pos) 3.1:=oz pj λz z=>.non
theorem ZK{x j pos}:DE X 1.81 (mC (.str x)):=oz pP λz z=>.str x
structure GC(K:Ym)(mg:Str->Option ab)(x:Str)(d:D):Prop where
 ex:∃ u v,mg x=Y u/\RelV v u/\∀ μ H,Rep K μ H v d
theorem Vi{d:D}(g:GC X.K X.mg x d)(hg:Gl X x:=by rfl)(hd:(x==("__debug__":Str))=false:=by decide):DE X 7.4 (mC d):=by
 obtain⟨u,v,h1,h2,h3⟩:=g.ex;exact oz (jN hg h1 h2 hd) h3
noncomputable def az(f:aa->D->D->Option D)(a b:ME):ME:=λenv S=>(a env S).bind λp=>(b env p.2).bind λq=>(f q.2 p.1 q.1).bind λz=>Y (z,q.2)
def sR{S S':aa}{d:D}(h:az f a b env S=Y (d,S')):∃ x S1 y,a env S=Y (x,S1)/\b env S1=Y (y,S')/\f S' x y=Y d:=by
 obtain⟨x,S1,h1,h⟩:=dQ h;obtain⟨y,S2,h2,h⟩:=dQ h;obtain⟨z,h3,h⟩:=gA h;cases h;exact#[x,S1,y,h1,h2,h3]
def mQ{mb:ME}(h:tM K 3.09 σ H Q):Sm (nA K f) (tM K ma) (tM K mb) σ H Q:=by
 obtain⟨μ,S,env,d,S',hS,hE,hm,post⟩:=h;obtain⟨x,S1,y,h1,h2,h3⟩:=sR hm;exact#[μ,S,env,x,S1,hS,hE,h1,λv H1 μ1 e1 s1 r1=>#[μ1,S1,env,y,S',s1,hE.mono e1,h2,λw H2 μ2 e2 s2 r2=>#[μ2,S',x,y,d,s2,r1.mono e2,r2,h3,(post.ext e1).ext e2]]]
section
variable{a b c:sn}{ma mb mc:ME}{pos:Pos}
def zP(ho:OpR X (VR op) 1.90)(ha:DE X a ma)(hb:DE X b mb):DE X 2.57 3.09:=
 PE.imp (xM ho ha hb) λz z z h=>mQ h
theorem ZR(ho:OpR X (Uv op) 1.90)(ha:DE X a ma)(hb:DE X b mb)(hm:behindInMarks op b=false):DE X 1.23 3.09:=
 PE.imp (gB ho ha hb hm) λz z z h=>mQ h
noncomputable def aC(m:ME):MT:=λenv S=>(m env S).bind λp=>match p.1 with | .bl k=>Y (k,p.2) | _=>J
def wn{S S':aa}{k:Bool}(h:aC m env S=Y (k,S')):m env S=Y (.bl k,S'):=by
 obtain⟨x,S1,h1,h⟩:=dQ h;cases x<;>first | (cases h;exact h1) | cases h
def Rep.bl_inv{k:Bool}(h:Rep K μ H v (.bl k)):v=.bl k:=by cases h;rfl
def Rep.int_inv{k:Int}(h:Rep K μ H v (.int k)):v=.int k:=by cases h;rfl
def Rep.str_inv{k:Str}(h:Rep K μ H v (.str k)):v=.str k:=by cases h;rfl
theorem ZA(ho:OpR X (Uv op) 1.90)(ha:DE X a ma)(hb:DE X b mb)(hm:behindInMarks op b=false):DT X 1.23 (aC 3.09):=
 PT.imp (lx ho ha hb hm) λσ H Q z0=>by
  obtain⟨μ,S,env,k,S',hS,hE,hm,post⟩:=z0;have h:=wn hm;refine mQ #[μ,S,env,_,S',hS,hE,h,λv H' μ' e s r=>?_];exact#[k,r.bl_inv,post H' μ' e s]
noncomputable def cU(f g:aa->D->D->Option D)(a b c:ME):ME:=λenv S=>(a env S).bind λp=>(b env p.2).bind λq=>(f q.2 p.1 q.1).bind λz=>match z with
 | .bl true=>(c env q.2).bind λr=>(g r.2 q.1 r.1).bind λz=>Y (z,r.2)
 | .bl false=>Y (.bl false,q.2)
 | _=>J
def yI(h:tM K 2.94 σ H Q):Gb (nA K f) (nA K g) (tM K ma) (tM K mb) (tM K mc) σ H Q:=by
 obtain⟨μ,S,env,d,S',hS,hE,hm,post⟩:=h;obtain⟨x,S1,h1,hm⟩:=dQ hm;obtain⟨y,S2,h2,hm⟩:=dQ hm;obtain⟨z,h3,hm⟩:=gA hm;refine#[μ,S,env,x,S1,hS,hE,h1,λv H1 μ1 e1 s1 r1=>#[μ1,S1,env,y,S2,s1,hE.mono e1,h2,λw H2 μ2 e2 s2 r2=>#[μ2,S2,x,y,z,s2,r1.mono e2,r2,h3,λu H3 μ3 e3 s3 r3=>?_]]];cases z with
 | bl k=>
  refine#[k,r3.bl_inv,?_];cases k with
  | false=>cases hm;rw[if_neg aeI];exact post _ H3 μ3 ((e1.trans e2).trans e3) s3 3.9
  | true=>
   obtain⟨t,S4,h4,hm⟩:=dQ hm;obtain⟨z,h5,hm⟩:=gA hm;cases hm;rw[aam rfl];exact#[μ3,S2,env,t,S4,s3,hE.mono ((e1.trans e2).trans e3),h4,λu' H4 μ4 e4 s4 r4=>#[μ4,_,y,t,_,s4,(r2.mono e3).mono e4,r4,h5,post.ext (((e1.trans e2).trans e3).trans e4)]]
 | _=>cases hm
theorem Rt(ho:OpR X (Uv op) 1.90)(ho':OpR X (Uv op') (nA X.K g))(ha:DE X a ma)(hb:DE X b mb)(hc:DE X c mc)
  (hm:lastMarks [op,op'] [b,c]=false:=by with_unfolding_all rfl):DE X 1.02 2.94:=
 PE.imp (eN ho ho' ha hb hc hm) λz z z h=>yI h
theorem QO(ho:OpR X (Uv op) 1.90)(ho':OpR X (Uv op') (nA X.K g))(ha:DE X a ma)(hb:DE X b mb)(hc:DE X c mc)
  (hm:lastMarks [op,op'] [b,c]=false:=by with_unfolding_all rfl):DT X 1.02 (aC 2.94):=
 PT.imp (gu ho ho' ha hb hc hm) λσ H Q z0=>by
  obtain⟨μ,S,env,k,S',hS,hE,hm,post⟩:=z0;have h:=wn hm;refine yI #[μ,S,env,_,S',hS,hE,h,λv H' μ' e s r=>?_];exact#[k,r.bl_inv,post H' μ' e s]
noncomputable def qB(S:aa):D->Option Bool
 | .non=>Y false
 | .bl b=>Y b
 | .int i=>Y (i != 0)
 | .str y=>if y.length<=Ph then Y ((y.length:Int) != 0) else J
 | .tup xs=>Y (!xs.isEmpty)
 | .lst xs=>Y (!xs.isEmpty)
 | .rol xs=>Y (!xs.isEmpty)
 | .dct ks _=>Y (!ks.isEmpty)
 | .ref r=>match S[r]? with
  | some 1.5=>Y (!xs.isEmpty)
  | some (.dct ks _)=>Y (!ks.isEmpty)
  | _=>J
 | .txt=>J
 | .obj=>J
 | .exc _ _ _=>J
 | .fn _=>J
def Reps.isEmpty{vs:List V}{ds:List D}(r:Reps K μ H vs ds):(!ds.isEmpty) = !vs.isEmpty:=by cases r<;>rfl
def uc{α β:Type}(f:α->β)(l:List α):(!(l.map f).isEmpty) = !l.isEmpty:=by cases l<;>rfl
def uL{d:D}{k:Bool}(s:SOk K μ S H)(r:Rep K μ H x d)(h:qB S d=Y k):MZ K x H k:=by
 cases r with
 | non=>cases h;rfl
 | bl b=>cases h;rfl
 | int i=>cases h;rfl
 | str y=>
  simp only[qB] at h;split at h
  ·rename_i hy;cases h;exact#[hy,rfl]
  ·cases h
 | @tup a vs ds h' n r=>cases h;exact .inr (.inl #[vs,.inl 3.01,r.isEmpty])
 | @ktup a vs ds h' r=>cases h;exact .inr (.inl #[vs,.inr h',r.isEmpty])
 | @lst a vs ds h' n r=>cases h;exact .inl #[vs,.inl 3.01,r.isEmpty]
 | @rol a vs ds h' n r=>cases h;exact .inl #[vs,.inl h',r.isEmpty]
 | @krol a vs ds h' r=>cases h;exact .inl #[vs,.inr h',r.isEmpty]
 | @dct a kvs ds h' n r=>cases h;exact .inr (.inr #[kvs,h',uc _ _])
 | txt x=>cases h
 | obj h' n=>cases h
 | exc h' n h2 n2=>cases h
 | fn a=>cases h
 | @ref a i h'=>
  simp only[qB] at h;cases q:S[i]? with
  | none=>rw[q] at h;cases h
  | some c=>
   rw[q] at h;have ck:=s.cell i a c h' q;cases c with
   | lst xs=>cases h;obtain⟨vs,e,r⟩:=ck;exact .inl #[vs,.inl (.inl e),r.isEmpty]
   | dct ks xs=>cases h;obtain⟨kvs,e,rfl,r⟩:=ck;exact .inr (.inr #[kvs,e,uc _ _])
noncomputable def eD(m:ME):MT:=λenv S=>(m env S).bind λp=>(qB p.2 p.1).bind λk=>Y (k,p.2)
theorem Fs(ha:DE X a ma)(he:∀ whole,isTrue a X.env whole=(do let v <- whole;standAt a.pos;holding [v] (truthy v)):=by intro z;rfl):DT X a (eD ma):=
 PT.imp (jP ha he) λσ H Q z0=>by
  obtain⟨μ,S,env,k,S',hS,hE,hm,post⟩:=z0;obtain⟨x,S1,h1,hm⟩:=dQ hm;obtain⟨k',h2,hm⟩:=gA hm;cases hm;exact#[μ,S,env,x,S1,hS,hE,h1,λv H' μ' e s r=>#[k,uL s r h2,post H' μ' e s]]
variable{ta tb tc:MT}{rest:List sn}
noncomputable def cM(a b:MT):MT:=λenv S=>(a env S).bind λp=>if p.1=true then b env p.2 else Y (false,p.2)
noncomputable def gE(a b:MT):MT:=λenv S=>(a env S).bind λp=>if p.1=true then Y (true,p.2) else b env p.2
noncomputable def eL(a:MT):MT:=λenv S=>(a env S).bind λp=>Y (!p.1,p.2)
def gp(h:Ga K (cM ta tb) σ H Q):tAnd (Ga K ta) (Ga K tb) σ H Q:=by
 obtain⟨μ,S,env,k,S',hS,hE,hm,post⟩:=h;obtain⟨x,S1,h1,hm⟩:=dQ hm;refine#[μ,S,env,x,S1,hS,hE,h1,λH1 μ1 e1 s1=>?_];cases x with
 | true=>rw[aam rfl] at hm ⊢;exact#[μ1,S1,env,k,S',s1,hE.mono e1,hm,λH2 μ2 e2 s2=>post H2 μ2 (e1.trans e2) s2]
 | false=>rw[if_neg aeI] at hm ⊢;cases hm;exact post H1 μ1 e1 s1
def gH(h:Ga K (gE ta tb) σ H Q):A0b (Ga K ta) (Ga K tb) σ H Q:=by
 obtain⟨μ,S,env,k,S',hS,hE,hm,post⟩:=h;obtain⟨x,S1,h1,hm⟩:=dQ hm;refine#[μ,S,env,x,S1,hS,hE,h1,λH1 μ1 e1 s1=>?_];cases x with
 | false=>rw[if_neg aeI] at hm ⊢;exact#[μ1,S1,env,k,S',s1,hE.mono e1,hm,λH2 μ2 e2 s2=>post H2 μ2 (e1.trans e2) s2]
 | true=>rw[aam rfl] at hm ⊢;cases hm;exact post H1 μ1 e1 s1
def kL(ha:DT X a ta):DW X (.BoolOp .And [a] pos) ta:=aO ha
def uM(ha:DT X a ta):DW X (.BoolOp .Or [a] pos) ta:=aB ha
theorem QM(ha:DT X a ta)(hb:DW X (.BoolOp .And (b::rest) pos) tb):DW X (.BoolOp .And (a::b::rest) pos) (cM ta tb):=PW.imp (oC ha hb) λz z z h=>gp h
theorem WC(ha:DT X a ta)(hb:DW X (.BoolOp .Or (b::rest) pos) tb):DW X (.BoolOp .Or (a::b::rest) pos) (gE ta tb):=PW.imp (pw_or ha hb) λz z z h=>gH h
def si(h:DW X a ta):DT X a ta:=PW.pt h
theorem Zz(ha:DT X a ta):DT X 1.45 (eL ta):=PT.imp (oY ha) λσ H Q z0=>by
 obtain⟨μ,S,env,k,S',hS,hE,hm,post⟩:=z0;obtain⟨x,S1,h1,hm⟩:=dQ hm;cases hm;exact#[μ,S,env,x,S1,hS,hE,h1,λH1 μ1 e1 s1=>post H1 μ1 e1 s1]
def Dj(a b:ME):ME:=λenv S=>(a env S).bind λp=>match p.1 with | .bl true=>b env p.2 | .bl false=>Y (.bl false,p.2) | _=>J
def AA(a b:ME):ME:=λenv S=>(a env S).bind λp=>match p.1 with | .bl false=>b env p.2 | .bl true=>Y (.bl true,p.2) | _=>J
def xK{op}(h:DE X a ma):DE X (.BoolOp op [a] pos) ma:=vk h
def SQ(a:ME):ME:=λenv S=>(a env S).bind λp=>match p.1 with | .bl k=>Y (.bl (!k),p.2) | _=>J
noncomputable def lZ(t:MT)(a b:ME):ME:=λenv S=>(t env S).bind λp=>if p.1=true then a env p.2 else b env p.2
def de_if(hc:DT X c tc)(ha:DE X a ma)(hb:DE X b mb):DE X (.IfExp c a b pos) (lZ tc ma mb):=PE.imp (vI hc ha hb) λσ H Q z0=>by
 obtain⟨μ,S,env,d,S',hS,hE,hm,post⟩:=z0;obtain⟨x,S1,h1,hm⟩:=dQ hm;refine#[μ,S,env,x,S1,hS,hE,h1,λH1 μ1 e1 s1=>?_];cases x with
 | true=>rw[aam rfl] at hm ⊢;exact#[μ1,S1,env,d,S',s1,hE.mono e1,hm,post.ext e1]
 | false=>rw[if_neg aeI] at hm ⊢;exact#[μ1,S1,env,d,S',s1,hE.mono e1,hm,post.ext e1]
variable{es:List sn}{ms:MA}
noncomputable def am:MA:=λz S=>Y ([],S)
noncomputable def ac(a:ME)(r:MA):MA:=λenv S=>(a env S).bind λp=>(r env p.2).bind λq=>Y (p.1::q.1,q.2)
theorem ZS:DA X [] am:=PA.imp aV λσ H Q ⟨μ,S,env,d,S',hS,hE,hm,post⟩=>by cases hm;exact post [] H μ hS.ext hS .nil
theorem Vp(ha:DE X a ma)(hr:DA X es ms)(hs:Pi (a::es) X.env=4.9::Pi es X.env:=by rfl):DA X (a::es) (ac ma ms):=PA.imp (kA ha hr hs) λσ H Q z0=>by
 obtain⟨μ,S,env,ds,S',hS,hE,hm,post⟩:=z0;obtain⟨x,S1,h1,hm⟩:=dQ hm;obtain⟨xs,S2,h2,hm⟩:=dQ hm;cases hm;exact#[μ,S,env,x,S1,hS,hE,h1,λv H1 μ1 e1 s1 r1=>#[μ1,S1,env,xs,S2,s1,hE.mono e1,h2,λvs H2 μ2 e2 s2 r2=>post (v::vs) H2 μ2 (e1.trans e2) s2 (.cons (r1.mono e2) r2)]]
noncomputable def aW(ms:MA):ME:=λenv S=>(ms env S).bind λp=>if p.1.length<=Ph then Y (.tup p.1,p.2) else J
noncomputable def eV(ms:MA):ME:=λenv S=>(ms env S).bind λp=>if p.1.length<=Ph then Y (.lst p.1,p.2) else J
noncomputable def dD(ms:MA):ME:=λenv S=>(ms env S).bind λp=>if p.1.length<=Ph then Y (.ref p.2.length,p.2++[.lst p.1]) else J
def Post.tup(post:Post K μ H S (.tup ds) Q)(s:SOk K μ S H)(hp:H p=J)(r:Reps K μ H vs ds):Q (.ref p) (upd H p (.tup vs)):=by
 obtain⟨e,s'⟩:=s.laid (o:=.tup vs) hp;exact post _ _ _ e s' (.tup bD 2.88 (r.mono e))
def Post.lst(post:Post K μ H S (.lst ds) Q)(s:SOk K μ S H)(hp:H p=J)(r:Reps K μ H vs ds):Q (.ref p) 2.74:=by
 obtain⟨e,s'⟩:=s.laid (o:=.lst vs) hp;exact post _ _ _ e s' (.lst bD 2.88 (r.mono e))
def Post.lstR(post:Post K μ H (S++[.lst ds]) 0.6 Q)(s:SOk K μ S H)(hp:H p=J)(r:Reps K μ H vs ds):Q (.ref p) 2.74:=by
 obtain⟨e,s'⟩:=s.alloc hp r;exact post _ _ _ e s' (.ref (by rw[<- s.len,aaZ (aas _)];simp))
theorem ZJ{k}(h:DA X es ms):DE X 1.01 (aW ms):=PE.imp (oi h) λσ H Q z0=>by
 obtain⟨μ,S,env,d,S',hS,hE,hm,post⟩:=z0;obtain⟨xs,S1,h1,hm⟩:=dQ hm;dsimp only at hm;split at hm
 ·rename_i hl;cases hm;exact#[μ,S,env,_,_,hS,hE,h1,λvs H1 μ1 e1 s1 r1=>#[by rw[r1.length];exact hl,λp hp=>(post.ext e1).tup s1 hp r1]]
 ·cases hm
theorem ZN(h:DA X es ms):DE X (.List es pos) (eV ms):=PE.imp (hX h) λσ H Q z0=>by
 obtain⟨μ,S,env,d,S',hS,hE,hm,post⟩:=z0;obtain⟨xs,S1,h1,hm⟩:=dQ hm;dsimp only at hm;split at hm
 ·rename_i hl;cases hm;exact#[μ,S,env,_,_,hS,hE,h1,λvs H1 μ1 e1 s1 r1=>#[by rw[r1.length];exact hl,λp hp=>(post.ext e1).lst s1 hp r1]]
 ·cases hm
theorem Vh(h:DA X es ms):DE X (.List es pos) (dD ms):=PE.imp (hX h) λσ H Q z0=>by
 obtain⟨μ,S,env,d,S',hS,hE,hm,post⟩:=z0;obtain⟨xs,S1,h1,hm⟩:=dQ hm;dsimp only at hm;split at hm
 ·rename_i hl;cases hm;exact#[μ,S,env,_,_,hS,hE,h1,λvs H1 μ1 e1 s1 r1=>#[by rw[r1.length];exact hl,λp hp=>(post.ext e1).lstR s1 hp r1]]
 ·cases hm
theorem Vj:DE X 2.95 (mC (.dct [] [])):=PE.imp jd λσ H Q z0=>by
 obtain⟨μ,S,env,d,S',hS,hE,hm,post⟩:=z0;cases hm;intro p hp;obtain⟨e,s'⟩:=hS.laid (o:=.dK []) hp;exact post _ _ _ e s' (.dct (kvs:=[]) bD (hS.notMem hp) .nil)
end
end
mutual
def Oo:D->D->Bool
 | .non,.non=>true
 | .bl a,.bl b=>a==b
 | .bl a,.int b=>(if a then 1 else 0)==b
 | .int a,.bl b=>a==(if b then 1 else 0)
 | .int a,.int b=>a==b
 | .str a,.str b=>a==b
 | .tup xs,.tup ys=>eqDs xs ys
 | .lst xs,.lst ys=>eqDs xs ys
 | _,_=>false
def eqDs:List D->List D->Bool
 | [],[]=>true
 | x::xs,y::ys=>Oo x y&&eqDs xs ys
 | _,_=>false
end
def Dl:Nat->D->Bool
 | _,.non=>true
 | _,.bl _=>true
 | _,.int _=>true
 | _,.str _=>true
 | n+1,.tup xs=>xs.all (Dl n)
 | n+1,.lst xs=>xs.all (Dl n)
 | _,_=>false
def vQ:∀ {n m:Nat} {d:D},n<=m->Dl n d=true->Dl m d=true
 | n,m,.non,_,_=>by simp[Dl]
 | n,m,.bl _,_,_=>by simp[Dl]
 | n,m,.int _,_,_=>by simp[Dl]
 | n,m,.str _,_,_=>by simp[Dl]
 | 0,m,.tup _,_,h=>by simp[Dl] at h
 | 0,m,.lst _,_,h=>by simp[Dl] at h
 | n+1,m+1,.tup xs,hl,h=>by
  simp only[Dl,aaE] at h ⊢;exact λd hd=>vQ (acu hl) (h d hd)
 | n+1,m+1,.lst xs,hl,h=>by
  simp only[Dl,aaE] at h ⊢;exact λd hd=>vQ (acu hl) (h d hd)
 | n+1,0,.tup _,hl,_=>absurd hl 0.0
 | n+1,0,.lst _,hl,_=>absurd hl 0.0
 | n,m,.rol _,_,h=>by cases n<;>simp[Dl] at h
 | n,m,.txt,_,h=>by cases n<;>simp[Dl] at h
 | n,m,.obj,_,h=>by cases n<;>simp[Dl] at h
 | n,m,.exc _ _ _,_,h=>by cases n<;>simp[Dl] at h
 | n,m,.fn _,_,h=>by cases n<;>simp[Dl] at h
 | n,m,.dct _ _,_,h=>by cases n<;>simp[Dl] at h
 | n,m,.ref _,_,h=>by cases n<;>simp[Dl] at h
def aT:∀ (xs ys:List D),eqDs xs ys=((List.range (min xs.length ys.length)).all (λj=>match xs[j]?,ys[j]? with | some a,Y b=>Oo a b | _,_=>true)&&xs.length==ys.length)
 | [],[]=>rfl
 | [],y::ys=>by simp[eqDs]
 | x::xs,[]=>by simp[eqDs]
 | x::xs,y::ys=>by
  have ih:=aT xs ys;rw[eqDs,ih];have hm:min (x::xs).length (y::ys).length=min xs.length ys.length+1:=by simp only[aar];omega
  rw[hm,acv,abA,List.all_map];simp only[aej,aar,Bool.and_assoc]
  congr 1
  congr 1
  rw[aaN];simp
section
variable{X:Cx}{pins:List (gV×Obj)}{σ:L2.St}{H:Hp}{s:ce}{μ:Fp}{A:NF}
def Rep.sqT{K:Ym}(r:Rep K μ H v (.tup ds)):∃ a vs,v=.ref a/\DF K H a vs/\Reps K μ H vs ds:=by
 cases r with
 | tup h n r=>exact#[_,_,rfl,.inl (.inl h),r]
 | ktup h r=>exact#[_,_,rfl,.inr h,r]
def Rep.sqL{K:Ym}(r:Rep K μ H v (.lst ds)):∃ a vs,v=.ref a/\H a=Y 1.08/\μ.no a/\Reps K μ H vs ds:=by
 cases r with
 | lst h n r=>exact#[_,_,rfl,h,n,r]
def Rep.sqR{K:Ym}(r:Rep K μ H v (.rol ds)):∃ a vs,v=.ref a/\Yv K H a vs/\Reps K μ H vs ds:=by
 cases r with
 | rol h n r=>exact#[_,_,rfl,.inl h,r]
 | krol h r=>exact#[_,_,rfl,.inr h,r]
def ntl(I:Inv X pins σ H s)(h:DF X.K H a xs)(h':Yv X.K H a ys):False:=by
 obtain⟨its,z,⟨o,e,c,z⟩,z⟩:=I.tuple h;obtain⟨its',z,⟨o',n',e',c',z⟩,z⟩:=I.list h';rw[e] at e';cases e';rw[c] at c';exact absurd c' 0.3
def Rep.non_inv{K:Ym}(h:Rep K μ H v .non):v=.non:=by cases h;rfl
def fG:Dl n (.rol xs)=false:=by cases n<;>rfl
def rZ:Dl n (.dct ks xs)=false:=by cases n<;>rfl
def lL:Dl n (.ref r)=false:=by cases n<;>rfl
def mL:Dl n .txt=false:=by cases n<;>rfl
def mK:Dl n .obj=false:=by cases n<;>rfl
def bG:Dl n (.exc C fl i)=false:=by cases n<;>rfl
def be:Dl n (.fn a)=false:=by cases n<;>rfl
def uP(h:Dl n 5.2=true):∃ m,m+1=n/\∀ x∈xs,Dl m x=true:=by
 cases n with
 | zero=>cases h
 | succ n=>exact#[n,rfl,aaE.mp h]
def uQ(h:Dl n 1.5=true):∃ m,m+1=n/\∀ x∈xs,Dl m x=true:=by
 cases n with
 | zero=>cases h
 | succ n=>exact#[n,rfl,aaE.mp h]
inductive Fm(K:Ym)(μ:Fp)(H:Hp):D->V->Prop
 | non:Fm K μ H .non .non
 | bl (b:Bool):Fm K μ H (.bl b) (.bl b)
 | int (i:Int):Fm K μ H (.int i) (.int i)
 | str (x:Str):Fm K μ H (.str x) (.str x)
 | tup {xs:List D} {l:gV} {vs:List V} (q:DF K H l vs) (r:Reps K μ H vs xs):Fm K μ H 5.2 (.ref l)
 | lst {xs:List D} {l:gV} {vs:List V} (q:Yv K H l vs) (r:Reps K μ H vs xs):Fm K μ H 1.5 (.ref l)
def ut{K:Ym}(hx:Dl n x=true)(r:Rep K μ H a x):Fm K μ H x a:=by
 cases x with
 | non=>rw[r.non_inv];exact .non
 | bl b=>rw[r.bl_inv];exact .bl b
 | int b=>rw[r.int_inv];exact .int b
 | str b=>rw[r.str_inv];exact .str b
 | tup xs=>obtain⟨l,vs,rfl,q,r⟩:=r.sqT;exact .tup q r
 | lst xs=>obtain⟨l,vs,rfl,q,z,r⟩:=r.sqL;exact .lst 1.34 r
 | rol _=>rw[fG] at hx;cases hx
 | dct _ _=>rw[rZ] at hx;cases hx
 | ref _=>rw[lL] at hx;cases hx
 | txt=>rw[mL] at hx;cases hx
 | obj=>rw[mK] at hx;cases hx
 | exc C fl i=>rw[bG] at hx;cases hx
 | fn a=>rw[be] at hx;cases hx
def Reps.injN{K:Ym}(ih:∀ {v:V} {x y:D},Dl n x=true->Dl n y=true->Rep K μ H v x->Rep K μ H v y->x=y):∀ {vs:List V} {xs ys:List D},(∀ x∈xs,Dl n x=true)->(∀ y∈ys,Dl n y=true)->Reps K μ H vs xs->Reps K μ H vs ys->xs=ys:=λ{vs xs ys} hx hy r r'=>
 Reps.ind (Q:=λvs xs=>∀ ys:List D,(∀ x∈xs,Dl n x=true)->(∀ y∈ys,Dl n y=true)->Reps K μ H vs ys->xs=ys) (λys z z r=>by cases r;rfl) (λh t i ys hx hy r=>by
  cases r with | cons h' t'=>rw[ih (hx _ aab) (hy _ aab) h h',i _ (λx m=>hx x 1.93) (λx m=>hy x 1.93) t']) r ys hx hy r'
def cS(I:Inv X pins σ H s)(n:Nat)(ih:∀ m,m+1=n->∀ {v:V} {x y:D},Dl m x=true->Dl m y=true->Rep X.K μ H v x->Rep X.K μ H v y->x=y)(hx:Dl n x=true)(hy:Dl n y=true)(rx:Rep X.K μ H v x)(ry:Rep X.K μ H v y):x=y:=by
 have fy:=ut hy ry;cases x with
 | tup xs=>
  obtain⟨a,vs,rfl,q,r⟩:=rx.sqT;obtain⟨m,hm,ox⟩:=uP hx;cases fy with
  | tup q' r'=>
   cases I.tuple_inj q' q;obtain⟨m',hm',oy⟩:=uP hy;have:m'=m:=by omega
   subst this;rw[Reps.injN (ih m' hm) ox oy r r']
  | lst q' _=>exact(ntl I q q').elim
 | lst xs=>
  obtain⟨a,vs,rfl,q,z,r⟩:=rx.sqL;obtain⟨m,hm,ox⟩:=uQ hx;cases y with
  | lst ys=>
   obtain⟨m',hm',oy⟩:=uQ hy;have:m'=m:=by omega
   subst this;obtain⟨a',vs',e,q',z,r'⟩:=ry.sqL;cases e;rw[q] at q';cases q';rw[Reps.injN (ih m' hm) ox oy r r']
  | _=>cases fy<;>exact(ntl I (by assumption) 1.34).elim
 | non=>rw[rx.non_inv] at fy;cases fy;rfl
 | bl b=>rw[rx.bl_inv] at fy;cases fy;rfl
 | int b=>rw[rx.int_inv] at fy;cases fy;rfl
 | str b=>rw[rx.str_inv] at fy;cases fy;rfl
 | rol _=>rw[fG] at hx;cases hx
 | dct _ _=>rw[rZ] at hx;cases hx
 | ref _=>rw[lL] at hx;cases hx
 | txt=>rw[mL] at hx;cases hx
 | obj=>rw[mK] at hx;cases hx
 | exc C fl i=>rw[bG] at hx;cases hx
 | fn a=>rw[be] at hx;cases hx
def Rep.inj(I:Inv X pins σ H s)(n:Nat):∀ {v:V} {x y:D},Dl n x=true->Dl n y=true->Rep X.K μ H v x->Rep X.K μ H v y->x=y:=by
 induction n with
 | zero=>exact λhx hy rx ry=>cS I 0 (λm h=>absurd h (Nat.succ_ne_zero m)) hx hy rx ry
 | succ n ih=>exact λhx hy rx ry=>cS I (n+1) (λm h=>by cases h;exact ih) hx hy rx ry
def ow:∀ (n:Nat) (x:D),Dl n x=true->Oo x x=true
 | n,.non,_=>rfl
 | n,.bl _,_=>by simp[Oo]
 | n,.int _,_=>by simp[Oo]
 | n,.str _,_=>by simp[Oo]
 | 0,.tup _,h=>by simp[Dl] at h
 | 0,.lst _,h=>by simp[Dl] at h
 | n+1,.tup xs,h=>by
  simp only[Dl,aaE] at h;rw[Oo]
  induction xs with
  | nil=>rfl
  | cons x xs ih=>rw[eqDs,ow n x (h x aab),ih λy m=>h y 1.93];rfl
 | n+1,.lst xs,h=>by
  simp only[Dl,aaE] at h;rw[Oo]
  induction xs with
  | nil=>rfl
  | cons x xs ih=>rw[eqDs,ow n x (h x aab),ih λy m=>h y 1.93];rfl
 | n,.rol _,h=>by cases n<;>simp[Dl] at h
 | n,.txt,h=>by cases n<;>simp[Dl] at h
 | n,.obj,h=>by cases n<;>simp[Dl] at h
 | n,.exc _ _ _,h=>by cases n<;>simp[Dl] at h
 | n,.fn _,h=>by cases n<;>simp[Dl] at h
 | n,.dct _ _,h=>by cases n<;>simp[Dl] at h
 | n,.ref _,h=>by cases n<;>simp[Dl] at h
open PySem.SeqAt
def zt(A:NF):A.in1.units=A.units+1:=rfl
def zp{ws:List V}{P:ab->ab->Bool->Prop}(r1:Vals vs its)(q1:Reps X.K μ H vs xs)(r2:Vals ws its2)(q2:Reps X.K μ H ws ys)
  (h:∀ (j:Nat) (v w:V) (u u':ab) (x y:D),xs[j]?=Y x->ys[j]?=Y y->Rep X.K μ H v x->Rep X.K μ H w y->RelV v u->RelV w u'->P u u' (Oo x y)) :
  ∀ j (h1:j<its.toArray.size) (h2:j<its2.toArray.size),P its.toArray[j] its2.toArray[j] (match xs[j]?,ys[j]? with | some a,Y b=>Oo a b | _,_=>true):=λj h1 h2=>by
 have l1:=r1.length;have l2:=r2.length;have m1:=q1.length;have m2:=q2.length;have h1':j<its.length:=by simpa using h1
 have h2':j<its2.length:=by simpa using h2
 have hx:xs[j]?=Y xs[j]:=aae 0.0;have hy:ys[j]?=Y ys[j]:=aae 0.0;obtain⟨v,e1,p1⟩:=q1.get hx;obtain⟨w,e2,p2⟩:=q2.get hy;obtain⟨u,f1,g1⟩:=r1.get e1;obtain⟨u',f2,g2⟩:=r2.get e2;rw[hx,hy];have:=h j v w u u' _ _ hx hy p1 p2 g1 g2;have f1':its.toArray[j]=u:=by simpa[aae h1'] using f1
 have f2':its2.toArray[j]=u':=by simpa[aae h2'] using f2
 rw[f1',f2'];exact this
structure qal(A:NF)(s:ce)(u v:ab)(b:Bool):Prop where
 eq:EqAt A s u v b
 rc:RcAt A s u v b
 ne:RcNeAt A s u v (!b)
def aI(I:Inv X pins σ H s)(n:Nat)(ih:∀ m,m+1=n->∀ (A:NF) {a b:V} {u v:ab} {x y:D},A.units+m<cLine->Dl m x=true->Dl m y=true->Rep X.K μ H a x->Rep X.K μ H b y->RelV a u->RelV b v->qal A s u v (Oo x y))
  (A:NF) (hn:A.units+n<cLine) (hx:Dl n x=true) (hy:Dl n y=true) (rx:Rep X.K μ H a x) (ry:Rep X.K μ H b y) (ra:RelV a u) (rb:RelV b v):qal A s u v (Oo x y):=by
 have hu:A.units<cLine:=by omega
 cases ut hx rx with
 | non=>
  cases ra;cases ut hy ry with
  | non=>cases rb;exact#[EqAt.same _,RcAt.none_none,RcNeAt.none_none]
  | bl b=>cases rb;exact#[EqAt.none_bool b,RcAt.none_bool b,RcNeAt.none_bool b]
  | int b=>obtain⟨t,rfl⟩:=rb;exact#[EqAt.none_int b t,RcAt.none_int b t,RcNeAt.none_int b t]
  | str b=>obtain⟨t,rfl⟩:=rb;exact#[EqAt.none_str b t,RcAt.none_str b t,RcNeAt.none_str b t]
  | tup q r=>cases rb;obtain⟨its,rv,p,z⟩:=I.tuple q;exact#[EqAt.none_tuple p hu,RcAt.none_tuple p hu,RcNeAt.none_tuple p hu]
  | lst q r=>cases rb;obtain⟨its,rv,p,z⟩:=I.list q;exact#[EqAt.none_list p.isList hu,RcAt.none_list p.isList hu,RcNeAt.none_list p.isList hu]
 | bl a=>
  cases ra;cases ut hy ry with
  | non=>cases rb;exact#[EqAt.bool_none a,RcAt.bool_none a,RcNeAt.bool_none a]
  | bl b=>cases rb;exact#[EqAt.bool_bool a b,RcAt.bool_bool a b,RcNeAt.bool_bool a b]
  | int b=>obtain⟨t,rfl⟩:=rb;exact#[EqAt.bool_int a b t,RcAt.bool_int a b t,RcNeAt.bool_int a b t]
  | str b=>obtain⟨t,rfl⟩:=rb;exact#[EqAt.bool_str a b t,RcAt.bool_str a b t,RcNeAt.bool_str a b t]
  | tup q r=>cases rb;obtain⟨its,rv,p,z⟩:=I.tuple q;exact#[EqAt.bool_tuple a p hu,RcAt.bool_tuple a p hu,RcNeAt.bool_tuple a p hu]
  | lst q r=>cases rb;obtain⟨its,rv,p,z⟩:=I.list q;exact#[EqAt.bool_list a p.isList hu,RcAt.bool_list a p.isList hu,RcNeAt.bool_list a p.isList hu]
 | int a=>
  obtain⟨t',rfl⟩:=ra;cases ut hy ry with
  | non=>cases rb;exact#[EqAt.int_none a t',RcAt.int_none a t',RcNeAt.int_none a t']
  | bl b=>cases rb;exact#[EqAt.int_bool a t' b,RcAt.int_bool a t' b,RcNeAt.int_bool a t' b]
  | int b=>obtain⟨t,rfl⟩:=rb;exact#[EqAt.int_int a t' b t,RcAt.int_int a t' b t,RcNeAt.int_int a t' b t]
  | str b=>obtain⟨t,rfl⟩:=rb;exact#[EqAt.int_str a t' b t,RcAt.int_str a t' b t,RcNeAt.int_str a t' b t]
  | tup q r=>cases rb;obtain⟨its,rv,p,z⟩:=I.tuple q;exact#[EqAt.int_tuple a t' p hu,RcAt.int_tuple a t' p hu,RcNeAt.int_tuple a t' p hu]
  | lst q r=>cases rb;obtain⟨its,rv,p,z⟩:=I.list q;exact#[EqAt.int_list a t' p.isList hu,RcAt.int_list a t' p.isList hu,RcNeAt.int_list a t' p.isList hu]
 | str a=>
  obtain⟨t',rfl⟩:=ra;cases ut hy ry with
  | non=>cases rb;exact#[EqAt.str_none a t',RcAt.str_none a t',RcNeAt.str_none a t']
  | bl b=>cases rb;exact#[EqAt.str_bool a t' b,RcAt.str_bool a t' b,RcNeAt.str_bool a t' b]
  | int b=>obtain⟨t,rfl⟩:=rb;exact#[EqAt.str_int a t' b t,RcAt.str_int a t' b t,RcNeAt.str_int a t' b t]
  | str b=>obtain⟨t,rfl⟩:=rb;exact#[EqAt.str_str a t' b t,RcAt.str_str a t' b t,RcNeAt.str_str a t' b t]
  | tup q r=>cases rb;obtain⟨its,rv,p,z⟩:=I.tuple q;exact#[EqAt.str_tuple a t' p hu,RcAt.str_tuple a t' p hu,RcNeAt.str_tuple a t' p hu]
  | lst q r=>cases rb;obtain⟨its,rv,p,z⟩:=I.list q;exact#[EqAt.str_list a t' p.isList hu,RcAt.str_list a t' p.isList hu,RcNeAt.str_list a t' p.isList hu]
 | @tup xs l vs q r=>
  cases ra;obtain⟨its,rv,p,z⟩:=I.tuple q;cases ut hy ry with
  | non=>cases rb;exact#[EqAt.tuple_none p hu,RcAt.tuple_none p hu,RcNeAt.tuple_none p hu]
  | bl b=>cases rb;exact#[EqAt.tuple_bool b p hu,RcAt.tuple_bool b p hu,RcNeAt.tuple_bool b p hu]
  | int b=>obtain⟨t,rfl⟩:=rb;exact#[EqAt.tuple_int b t p hu,RcAt.tuple_int b t p hu,RcNeAt.tuple_int b t p hu]
  | str b=>obtain⟨t,rfl⟩:=rb;exact#[EqAt.tuple_str b t p hu,RcAt.tuple_str b t p hu,RcNeAt.tuple_str b t p hu]
  | @tup ys l' vs' q' r'=>
   cases rb;obtain⟨its',rv',p',z⟩:=I.tuple q';obtain⟨m,hm,ox⟩:=uP hx;obtain⟨m',hm',oy⟩:=uP hy;have:m'=m:=by omega
   subst this
   have all:=zp (P:=λu u' b=>EqAt A.in1 s u u' b) rv r rv' r' λj v w u u' x y hx' hy' q1 q2 g1 g2=>
    (ih m' hm A.in1 (by rw[zt];omega) (ox x (aax hx')) (oy y (aax hy')) q1 q2 g1 g2).eq
   have e0:its.toArray.size=xs.length:=by rw[aah,<- rv.length,r.length]
   have e1:its'.toArray.size=ys.length:=by rw[aah,<- rv'.length,r'.length]
   have key:=RcAt.tuples (A:=A) (s:=s) p p' hu all;have kne:=RcNeAt.tuples (A:=A) (s:=s) p p' hu all;rw[e0,e1,<- aT] at key kne;refine#[?_,key,kne];by_cases hl:l=l'
   ·subst hl;rw[<- Rep.inj I n hx hy rx ry,ow _ _ hx];exact EqAt.same _
   ·exact EqAt.of_refs hl key
  | lst q' r'=>cases rb;obtain⟨its',rv',p',z⟩:=I.list q';exact#[EqAt.tuple_list p p'.isList hu,RcAt.tuple_list p p'.isList hu,RcNeAt.tuple_list p p'.isList hu]
 | @lst xs l vs q r=>
  cases ra;obtain⟨its,rv,p0,z⟩:=I.list q;have p:=p0.isList;cases ut hy ry with
  | non=>cases rb;exact#[EqAt.list_none p hu,RcAt.list_none p hu,RcNeAt.list_none p hu]
  | bl b=>cases rb;exact#[EqAt.list_bool b p hu,RcAt.list_bool b p hu,RcNeAt.list_bool b p hu]
  | int b=>obtain⟨t,rfl⟩:=rb;exact#[EqAt.list_int b t p hu,RcAt.list_int b t p hu,RcNeAt.list_int b t p hu]
  | str b=>obtain⟨t,rfl⟩:=rb;exact#[EqAt.list_str b t p hu,RcAt.list_str b t p hu,RcNeAt.list_str b t p hu]
  | tup q' r'=>cases rb;obtain⟨its',rv',p',z⟩:=I.tuple q';exact#[EqAt.list_tuple p p' hu,RcAt.list_tuple p p' hu,RcNeAt.list_tuple p p' hu]
  | @lst ys l' vs' q' r'=>
   cases rb;obtain⟨its',rv',p0',z⟩:=I.list q';have p':=p0'.isList;obtain⟨m,hm,ox⟩:=uQ hx;obtain⟨m',hm',oy⟩:=uQ hy;have:m'=m:=by omega
   subst this
   have all:=zp (P:=λu u' b=>EqAt A.in1 s u u' b) rv r rv' r' λj v w u u' x y hx' hy' q1 q2 g1 g2=>
    (ih m' hm A.in1 (by rw[zt];omega) (ox x (aax hx')) (oy y (aax hy')) q1 q2 g1 g2).eq
   have e0:its.toArray.size=xs.length:=by rw[aah,<- rv.length,r.length]
   have e1:its'.toArray.size=ys.length:=by rw[aah,<- rv'.length,r'.length]
   have key:RcAt A s (.ref l) (.ref l') (eqDs xs ys)/\RcNeAt A s (.ref l) (.ref l') (!eqDs xs ys):=by
    rw[aT];by_cases hlen:xs.length=ys.length
    ·have k1:=RcAt.lists (A:=A) (s:=s) p p' (by rw[e0,e1,hlen]) hu all;have k2:=RcNeAt.lists (A:=A) (s:=s) p p' (by rw[e0,e1,hlen]) hu all;rw[e0] at k1 k2;rw[<- hlen,Nat.min_self,adG,ael];exact#[k1,k2]
    ·rw[show(xs.length==ys.length)=false from aaQ.mpr hlen,abh];exact#[RcAt.lists_lengths (A:=A) (s:=s) p p' (by rw[e0,e1];exact bne_iff_ne.mpr hlen) hu,RcNeAt.lists_lengths (A:=A) (s:=s) p p' (by rw[e0,e1];exact bne_iff_ne.mpr hlen) hu]
   refine#[?_,key.1,key.2];by_cases hl:l=l'
   ·subst hl;rw[<- Rep.inj I n hx hy rx ry,ow _ _ hx];exact EqAt.same _
   ·exact EqAt.of_refs hl key.1
def dc(I:Inv X pins σ H s)(n:Nat):∀ (A:NF) {a b:V} {u v:ab} {x y:D},A.units+n<cLine->Dl n x=true->Dl n y=true->Rep X.K μ H a x->Rep X.K μ H b y->RelV a u->RelV b v->qal A s u v (Oo x y):=by
 induction n with
 | zero=>exact λA z z z z z z hn hx hy rx ry ra rb=>aI I 0 (λm h=>absurd h (Nat.succ_ne_zero m)) A hn hx hy rx ry ra rb
 | succ n ih=>exact λA z z z z z z hn hx hy rx ry ra rb=>aI I (n+1) (λm h=>by cases h;exact ih) A hn hx hy rx ry ra rb
def eqRc(I:Inv X pins σ H s)(n:Nat)(A:NF)(hn:A.units+n<cLine)(hx:Dl n x=true)(hy:Dl n y=true)(rx:Rep X.K μ H a x)(ry:Rep X.K μ H b y)(ra:RelV a u)(rb:RelV b v) :
  EqAt A s u v (Oo x y)/\RcAt A s u v (Oo x y):=#[(dc I n A hn hx hy rx ry ra rb).eq,(dc I n A hn hx hy rx ry ra rb).rc]
def neRc(I:Inv X pins σ H s)(n:Nat)(A:NF)(hn:A.units+n<cLine)(hx:Dl n x=true)(hy:Dl n y=true)(rx:Rep X.K μ H a x)(ry:Rep X.K μ H b y)(ra:RelV a u)(rb:RelV b v) :
  RcNeAt A s u v (!Oo x y):=(dc I n A hn hx hy rx ry ra rb).ne
end
def Xw(S:aa):D->Option (List D)
 | .tup xs=>Y xs
 | .lst xs=>Y xs
 | .rol xs=>Y xs
 | .ref r=>match S[r]? with | some 1.5=>Y xs | _=>J
 | _=>J
section
variable{X:Cx}{K:Ym}{μ:Fp}{H:Hp}{S:aa}
def kK{d:D}(s:SOk K μ S H)(r:Rep K μ H x d)(h:Xw S d=Y ds):∃ a vs,x=.ref a/\(Yv K H a vs\/DF K H a vs)/\Reps K μ H vs ds:=by
 cases r with
 | tup h' n r=>cases h;exact#[_,_,rfl,.inr (.inl 3.01),r]
 | ktup h' r=>cases h;exact#[_,_,rfl,.inr (.inr h'),r]
 | lst h' n r=>cases h;exact#[_,_,rfl,.inl (.inl 3.01),r]
 | rol h' n r=>cases h;exact#[_,_,rfl,.inl 3.01,r]
 | krol h' r=>cases h;exact#[_,_,rfl,.inl (.inr h'),r]
 | @ref a i h'=>
  simp only[Xw] at h;cases q:S[i]? with
  | none=>rw[q] at h;cases h
  | some c=>
   rw[q] at h;have ck:=s.cell i a c h' q;cases c with
   | lst xs=>cases h;obtain⟨vs,e,r⟩:=ck;exact#[_,vs,rfl,.inl (.inl (.inl e)),r]
   | dct ks xs=>cases h
 | _=>cases h
def Rep.free{d:D}(h:Dl n d=true)(r:Rep K μ H v d):Rep K #[[],[]] H v d:=
 Rep.to (P:=λd=>∃ n,Dl n d=true) (λd ⟨n,h⟩ x hx=>by
  cases n with
  | zero=>cases d<;>first | (cases hx;done) | (simp[Dl] at h;done)
  | succ n=>cases d<;>first | (cases hx;done) | exact#[n,aaE.mp h x hx] | (simp[Dl] at h;done)) (λh z=>#[h,by simp,by simp]) (λ⟨n,h⟩=>by cases n<;>simp[Dl] at h) r #[n,h]
def Reps.free{ds:List D}(h:ds.all (Dl n)=true)(r:Reps K μ H vs ds):Reps K #[[],[]] H vs ds:=Reps.to (P:=λd=>Dl n d=true) (λr h=>Rep.free h r) r (aaE.mp h)
def SR(S:aa):D->D
 | .ref r=>match S[r]? with | some 1.5=>.lst xs | _=>.ref r
 | d=>d
def vc{d:D}(h:Dl n d=true):SR S d=d:=by
 cases d<;>first | rfl | (cases n<;>simp[Dl] at h)
def lT{d:D}(s:SOk K μ S H)(r:Rep K μ H v d)(h:Dl n (SR S d)=true):Rep K #[[],[]] H v (SR S d):=by
 by_cases hd:SR S d=d
 ·rw[hd] at h ⊢;exact Rep.free h r
 ·cases r with
  | @ref a i h'=>
   cases q:S[i]? with
   | none=>exact absurd (by simp only[SR,q]) hd
   | some c=>
    cases c with
    | dct ks vs=>exact absurd (by simp only[SR,q]) hd
    | lst xs=>
     have e:SR S (.ref i)=.lst xs:=by simp only[SR,q]
     rw[e] at h ⊢;obtain⟨vs,e,r⟩:=s.cell i a _ h' q;cases n with
     | zero=>simp[Dl] at h
     | succ n=>exact .lst e #[by simp,by simp] (Reps.free (n:=n) h r)
  | _=>exact absurd rfl hd
def On(S:aa)(x y:D):Option D:=if Dl 40 (SR S x)=true/\Dl 40 (SR S y)=true then Y (.bl (Oo (SR S x) (SR S y))) else J
def SO(S:aa)(x y:D):Option D:=if Dl 40 (SR S x)=true/\Dl 40 (SR S y)=true then Y (.bl (!Oo (SR S x) (SR S y))) else J
def op_Eq(hu:X.A.units+64<cLine):OpR X (Uv .Eq) (nA X.K On):=by
 intro pins s σ H x y v u Q I rx ry h;obtain⟨μ,S,dx,dy,dz,hS,h1,h2,h3,post⟩:=h;simp only[On] at h3;split at h3
 ·rename_i hk;cases h3;exact(eqRc I 40 X.A 0.0 hk.1 hk.2 (lT hS h1 hk.1) (lT hS h2 hk.2) rx ry).2 X.prog X.w X.xe _ #[.bl _,H,I,rfl,post.here hS (.bl _)]
 ·cases h3
def op_Ne(hu:X.A.units+64<cLine):OpR X (Uv .NotEq) (nA X.K SO):=by
 intro pins s σ H x y v u Q I rx ry h;obtain⟨μ,S,dx,dy,dz,hS,h1,h2,h3,post⟩:=h;simp only[SO] at h3;split at h3
 ·rename_i hk;cases h3;exact neRc I 40 X.A 0.0 hk.1 hk.2 (lT hS h1 hk.1) (lT hS h2 hk.2) rx ry X.prog X.w X.xe _ #[.bl _,H,I,rfl,post.here hS (.bl _)]
 ·cases h3
open Classical in
def IR(K:Ym)(μ:Fp)(H:Hp)(x:D)(u:ab):Bool:=decide (∃ v d,RelV v u/\Rep K μ H v d/\Dl 39 d=true/\Oo d x=true)
open Classical in
def rL{s:ce}(I:Inv X pins σ H s){d:D}(rv:RelV v u)(r:Rep X.K μ H v d)(ok:Dl 39 d=true):IR X.K μ H x u=Oo d x:=by
 unfold IR;cases e:Oo d x with
 | true=>exact aaj #[v,d,rv,r,ok,e]
 | false=>
  refine aao ?_;rintro⟨v',d',rv',r',ok',e'⟩;cases rv.inj rv';rw[Rep.inj I 39 ok ok' r r'] at e;rw[e] at e';cases e'
def lX{s:ce}(I:Inv X pins σ H s):∀ {vs:List V} {us:List ab} {ds:List D},Vals vs us->Reps X.K μ H vs ds->(∀ d∈ds,Dl 39 d=true) ->
  us.any (IR X.K μ H x)=ds.any λd=>Oo d x
 | _,_,_,.nil,.nil,_=>rfl
 | _,_,_,.cons rv tv,.cons r t,ok=>by
  rw[abe,abe,rL I rv r 3.05,lX I tv t λd m=>ok d 1.93]
def gX{s:ce}(I:Inv X pins σ H s){A:NF}(hu:A.units+40<cLine)(rx:RelV v u)(rD:Rep X.K μ H v x)(okx:Dl 40 x=true) :
  ∀ {vs:List V} {us:List ab} {ds:List D},Vals vs us->Reps X.K μ H vs ds->(∀ d∈ds,Dl 39 d=true)->∀ w∈us,SeqAt.EqAt A s w u (IR X.K μ H x w)
 | _,_,_,.nil,.nil,_=>λw hw=>by cases hw
 | _,_,_,.cons rv tv,.cons r t,ok=>λw hw=>by
  rcases aav.mp hw with rfl | hw
  ·rw[rL I rv r 3.05];exact(eqRc I 40 A hu (vQ 0.1 3.05) okx r rD rv rx).1
  ·exact gX I hu rx rD okx tv t (λd m=>ok d 1.93) w hw
def SY(S:aa)(x y:D):Option D:=(Xw S y).bind λds=>if Dl 40 x=true/\ds.all (Dl 39)=true then Y (.bl (ds.any λd=>Oo d x)) else J
def Ov(S:aa)(x y:D):Option D:=(Xw S y).bind λds=>if Dl 40 x=true/\ds.all (Dl 39)=true then Y (.bl (!ds.any λd=>Oo d x)) else J
def op_In(hu:X.A.units+64<cLine):OpR X (Uv .In) (nA X.K SY):=by
 intro pins s σ H x y v u Q I rx ry h;obtain⟨μ,S,dx,dy,dz,hS,h1,h2,h3,post⟩:=h;obtain⟨ds,e,h3⟩:=gA h3;split at h3
 ·rename_i hk;cases h3;obtain⟨a,vs,rfl,hq,r⟩:=kK hS h2 e;cases ry;have ok:=aaE.mp hk.2;rcases hq with hq | hq
  ·obtain⟨its,rv,pl,hz⟩:=I.list hq;refine SeqAt.in_listAt 5.6 pl.isList (λw hw=>gX I (by show X.A.units+1+40<cLine;omega) rx h1 hk.1 rv r ok w (by simpa using hw)) #[.bl _,H,I,rfl,?_];rw[show its.toArray.any 5.6=its.any 5.6 by simp,lX I rv r ok];exact post.here hS (.bl _)
  ·obtain⟨its,rv,pl,hz⟩:=I.tuple hq;refine SeqAt.in_tupleAt 5.6 pl (λw hw=>gX I (by show X.A.units+1+40<cLine;omega) rx h1 hk.1 rv r ok w (by simpa using hw)) #[.bl _,H,I,rfl,?_];rw[show its.toArray.any 5.6=its.any 5.6 by simp,lX I rv r ok];exact post.here hS (.bl _)
 ·cases h3
def mM(hu:X.A.units+64<cLine):OpR X (Uv .NotIn) (nA X.K Ov):=by
 intro pins s σ H x y v u Q I rx ry h;obtain⟨μ,S,dx,dy,dz,hS,h1,h2,h3,post⟩:=h;obtain⟨ds,e,h3⟩:=gA h3;split at h3
 ·rename_i hk;cases h3;obtain⟨a,vs,rfl,hq,r⟩:=kK hS h2 e;cases ry;have ok:=aaE.mp hk.2;rcases hq with hq | hq
  ·obtain⟨its,rv,pl,hz⟩:=I.list hq;refine SeqAt.notIn_listAt 5.6 pl.isList (λw hw=>gX I (by show X.A.units+1+40<cLine;omega) rx h1 hk.1 rv r ok w (by simpa using hw)) #[.bl _,H,I,rfl,?_];rw[show its.toArray.any 5.6=its.any 5.6 by simp,lX I rv r ok];exact post.here hS (.bl _)
  ·obtain⟨its,rv,pl,hz⟩:=I.tuple hq;refine SeqAt.notIn_tupleAt 5.6 pl (λw hw=>gX I (by show X.A.units+1+40<cLine;omega) rx h1 hk.1 rv r ok w (by simpa using hw)) #[.bl _,H,I,rfl,?_];rw[show its.toArray.any 5.6=its.any 5.6 by simp,lX I rv r ok];exact post.here hS (.bl _)
 ·cases h3
noncomputable def qk:D->D->Bool
 | .non,.non=>true
 | .bl a,.bl b=>a==b
 | _,_=>false
def HH(S:aa)(x y:D):Option D:=match y with | .non=>Y (.bl (qk x y)) | .bl _=>Y (.bl (qk x y)) | _=>J
noncomputable def qr(S:aa)(x y:D):Option D:=match y with | .non=>Y (.bl (!qk x y)) | .bl _=>Y (.bl (!qk x y)) | _=>J
def cN(h1:Rep K μ H x dx)(h2:Rep K μ H y dy)(rx:RelV x v)(ry:RelV y u)(hy:dy=.non\/∃ b,dy=.bl b):plainIs v u=true/\(v==u)=qk dx dy:=by
 rcases hy with rfl | ⟨b,rfl⟩
 ·cases h2;cases ry;cases h1<;>first | (cases rx;exact#[rfl,rfl]) | (obtain⟨t,rfl⟩:=rx;exact#[rfl,rfl])
 ·cases h2;cases ry;cases h1<;>first | (cases rx;exact#[rfl,rfl]) | (obtain⟨t,rfl⟩:=rx;exact#[rfl,rfl]) | (cases rx;rename_i c;refine#[rfl,?_];cases b<;>cases c<;>rfl)
def op_Is:OpR X (Uv .Is) (nA X.K HH):=by
 intro pins s σ H x y v u Q I rx ry h;obtain⟨μ,S,dx,dy,dz,hS,h1,h2,h3,post⟩:=h
 have hy:(dy=.non\/∃ b,dy=.bl b)/\dz=.bl (qk dx dy):=by
  cases dy<;>first | (cases h3;exact#[.inl rfl,rfl]) | (cases h3;exact#[.inr #[_,rfl],rfl]) | cases h3
 obtain⟨p,e⟩:=cN h1 h2 rx ry hy.1;cases hy.2;exact wpAny_is_plain p #[.bl _,H,I,congrArg Value.bool e,post.here hS (.bl _)]
def mS:OpR X (Uv .IsNot) (nA X.K qr):=by
 intro pins s σ H x y v u Q I rx ry h;obtain⟨μ,S,dx,dy,dz,hS,h1,h2,h3,post⟩:=h
 have hy:(dy=.non\/∃ b,dy=.bl b)/\dz=.bl (!qk dx dy):=by
  cases dy<;>first | (cases h3;exact#[.inl rfl,rfl]) | (cases h3;exact#[.inr #[_,rfl],rfl]) | cases h3
 obtain⟨p,e⟩:=cN h1 h2 rx ry hy.1;cases hy.2;exact wpAny_isNot_plain p #[.bl _,H,I,congrArg (λb=>Value.bool (!b)) e,post.here hS (.bl _)]
end
end M
namespace HT
section
variable{prog:td}{w:tx}{A:NF}{E:ab->ce->Prop}{s:ce}
theorem Vs{ws:List ab}{Q:ab->ce->Prop}(ht:IsTup s.heap t (List.toArray []))(hb:IsTup s.heap b ws.toArray)(h:Q (.ref b) s):Xr 2.3 A (VR .Add (.ref t) (.ref b)) Q E s:=by
 obtain⟨⟨cls,dd,data,sl⟩,ho,hc,n,hd⟩:=id ht;obtain⟨⟨cls2,dd2,data2,sl2⟩,ho2,hc2,n2,hd2⟩:=id hb;simp only at hc hd hc2 hd2;subst hc hd hc2 hd2
 exact aeu #[_,ho,rfl] #[_,ho2,rfl] adF aef adI ady (adu _ _)
   (tuple_addW0 t b (List.toArray []) ws.toArray n n2 dd dd2 sl sl2 rfl) #[ho,ho2,h]
def pz{lo:Option Int}{Q:ab->ce->Prop}(ht:IsTup s.heap t items)(hs:s.heap.IsSliceOf sl vl vu .none)(pl:IsPart vl lo)(pu:IsPart vu hi)
  (hw:fU items.size 0 lo=0/\fU items.size items.size hi=items.size) (h:Q (.ref t) s):Xr 2.3 A (getItem (.ref t) 2.99) Q E s:=by
 obtain⟨os,hos,hcs,hds⟩:=id hs;have hTs:s.TypeIs 2.99 "slice":=#[os,hos,hcs]
 unfold getItem
 try with_reducible refine abt ?_
 first | refine aad (aaB ?_) | skip
 refine aad (wpAny_sequenceKey ht.typeIs 0.1 ?_)
 refine aad (abz (name:=Str.ofString "__getitem__") ht.typeIs abH
  (acg abH ht.typeIs aeF ?_ (aeL _ _)))
 show Xr _ _ (Builtin.Tuple.tupleItemsOf (.ref t) >>= _) _ _ s;refine aad (tupleItemsOf_ ht ?_);refine aad (aer hTs ?_);rw[aam 0.1];refine aad (ly hs pl pu ?_)
 have hyes:(7.7==0&&(1:Int)==1&&(fU items.size items.size hi - fU items.size 0 lo)==items.size)=true:=by
  rw[hw.1,hw.2];simp
 show Xr _ _ (if (7.7==0&&(1:Int)==1&&(fU items.size items.size hi - fU items.size 0 lo)==items.size)=true then _ else _) _ _ s;rw[aam hyes];unfold Builtin.Tuple.tupleIsExact;refine aad (aad (aer ht.typeIs (aaB ?_)));rw[aam 0.1];exact aad (aea (aad (aaB 1.05)))
end
end HT
namespace M
open L2
section
variable{X:Cx}{K:Ym}{μ μ':Fp}{H H':Hp}{S:aa}
def LR(g:Int->Int->D)(S:aa)(x y:D):Option D:=match x,y with | .int i,.int j=>Y (g i j) | _,_=>J
def Fk(C:Int->Int->Bool)(g:Int->Int->D)(S:aa)(x y:D):Option D:=match x,y with | .int i,.int j=>if C i j=true then Y (g i j) else J | _,_=>J
def qJ{g':Int->Int->D}(h:OpR X f (SE g))(hg:∀ i j μ H,Rep X.K μ H (g i j) (g' i j)):OpR X f (nA X.K (LR g')):=
 OpR.imp h λx y H Q z0=>by
  obtain⟨μ,S,dx,dy,dz,hS,h1,h2,h3,post⟩:=z0;cases dx<;>first | (cases h3;done) | (cases dy<;>first | cases h3 | skip)
  exact#[_,_,h1.int_inv,h2.int_inv,post.here hS (hg _ _ _ _)]
def gG{C':Int->Int->Bool}{g':Int->Int->D}(h:OpR X f (Tv C g))(hC:∀ i j,C' i j=true->C i j)(hg:∀ i j μ H,Rep X.K μ H (g i j) (g' i j)):OpR X f (nA X.K (Fk C' g')):=
 OpR.imp h λx y H Q z0=>by
  obtain⟨μ,S,dx,dy,dz,hS,h1,h2,h3,post⟩:=z0;cases dx<;>first | (cases h3;done) | (cases dy<;>first | cases h3 | skip)
  simp only[Fk] at h3;split at h3
  ·rename_i hc;cases h3;exact#[_,_,h1.int_inv,h2.int_inv,hC _ _ hc,post.here hS (hg _ _ _ _)]
  ·cases h3
def pB:=LR λi j=>.int (i - j)
def RX:=LR λi j=>.bl (decide (i<j))
def UF:=LR λi j=>.bl (decide (i<=j))
def Zq:=LR λi j=>.bl (decide (j<i))
def fGe:=LR λi j=>.bl (decide (j<=i))
def eG:OpR X (VR .Sub) (nA X.K pB):=qJ xk λz z z z=>.int _
def op_Lt:OpR X (Uv .Lt) (nA X.K RX):=qJ op_lt λz z z z=>.bl _
def op_Le:OpR X (Uv .LtE) (nA X.K UF):=qJ op_le λz z z z=>.bl _
def op_Gt:OpR X (Uv .Gt) (nA X.K Zq):=qJ op_gt λz z z z=>.bl _
def op_Ge:OpR X (Uv .GtE) (nA X.K fGe):=qJ op_ge λz z z z=>.bl _
def mG:=Fk (λz j=>decide (0<j)) λi j=>.int (i%j)
def Fo:=Fk (λz j=>decide (0<j)&&decide (j<1073741824)) λi j=>.int (i / j)
def yu:=Fk (λi j=>decide (0<=j)&&decide (j<=1000000)&&decide (i.natAbs<2^64)) λi j=>.int (i^j.toNat)
def ku:OpR X (VR .Mod) (nA X.K mG):=gG oV (λz z h=>aaD h) λz z z z=>.int _
def lY:OpR X (VR .FloorDiv) (nA X.K Fo):=gG sP (λz z h=>by simpa[CDiv] using h) λz z z z=>.int _
def da:OpR X (VR .Pow) (nA X.K yu):=gG fF (λi j h=>by
 simp only[aag,aaU] at h
 exact#[h.1.1,h.1.2,h.2]) λz z z z=>.int _
noncomputable def qN(i j:Int):Bool:=decide (i.natAbs<18446744073709551616)||decide (j.natAbs<18446744073709551616)||(decide (i.natAbs<2^4000)&&decide (j.natAbs<2^4000))
def wE(h:qN i j=true):IntMulOk i j:=by
 unfold qN at h;simp only[acs,aag,aaU] at h;rcases h with (h | h) | h
 ·exact .of_left (aec (k:=64) 0.0)
 ·exact .of_right (aec (k:=64) 0.0)
 ·exact .of_bits (aaJ (aec (k:=4000) h.1) 0.1) (aaJ (aec (k:=4000) h.2) 0.1)
def xq:OpR X 3.15 (Tv (λi j=>qN i j=true) λi j=>.int (i*j)):=opI λz z z z z z z hc q=>mul_int q (wE hc)
def Zh(S:aa)(x y:D):Option D:=match x,y with
 | .int i,.int j=>if qN i j=true then Y (.int (i*j)) else J
 | _,_=>J
def kP:OpR X 3.15 (nA X.K Zh):=OpR.imp xq λx y H Q z0=>by
 obtain⟨μ,S,dx,dy,dz,hS,h1,h2,h3,post⟩:=z0;cases dx<;>first | (cases h3;done) | (cases dy<;>first | cases h3 | skip)
 simp only[Zh] at h3;split at h3
 ·rename_i hc;cases h3;exact#[_,_,h1.int_inv,h2.int_inv,hc,post.here hS (.int _)]
 ·cases h3
def Qp(S:aa)(x y:D):Option D:=match x,y with
 | .int i,.int j=>Y (.int (i+j))
 | .str i,.str j=>if i.length+j.length<=Ph then Y (.str (i++j)) else J
 | .tup xs,.tup ys=>if xs.length+ys.length<=Ph then Y (.tup (xs++ys)) else J
 | .lst xs,.lst ys=>if xs.length+ys.length<=Ph then Y (.lst (xs++ys)) else J
 | _,_=>J
def pi:OpR X 2.96 (nA X.K Qp):=by
 intro pins s σ H x y v u Q I rx ry h;obtain⟨μ,S,dx,dy,dz,hS,h1,h2,h3,post⟩:=h;cases dx<;>first | (cases h3;done) | (cases dy<;>first | cases h3 | skip)
 case int.int i j=>exact cV pins s σ H x y v u Q I rx ry #[_,_,h1.int_inv,h2.int_inv,post.here hS (.int _)]
 case str.str i j=>
  simp only[Qp] at h3;split at h3
  ·rename_i hl;cases h3;exact aA pins s σ H x y v u Q I rx ry #[_,_,h1.str_inv,h2.str_inv,hl,post.here hS (.str _)]
  ·cases h3
 case tup.tup xs ys=>
  simp only[Qp] at h3;split at h3
  ·rename_i hl;cases h3;have h2':=h2;have h1':=h1;obtain⟨a,vs,rfl,q1,r1⟩:=h1.sqT;obtain⟨b,ws,rfl,q2,r2⟩:=h2.sqT;have e1:=r1.length;have e2:=r2.length;by_cases hv:vs=[]
   ·subst hv;have hx:xs=[]:=abi (by simpa using e1.symm);subst hx;cases rx;cases ry;obtain⟨its,rv,p1,z⟩:=I.tuple q1;obtain⟨its2,rv2,p2,z⟩:=I.tuple q2;have:its=[]:=rv.nil_iff.mpr rfl;subst this;exact HT.Vs p1 p2 #[.ref b,H,I,rfl,post.here hS h2']
   ·refine tG pins s σ H _ _ v u Q I rx ry #[a,b,vs,ws,rfl,rfl,q1,q2,hv,by omega,λhw=>?_,λhw p hp=>post.tup hS hp (r1.append r2)];subst hw;have hy:ys=[]:=abi (by simpa using e2.symm);subst hy;rw[aaF] at post;exact post.here hS h1'
  ·cases h3
 case lst.lst xs ys=>
  simp only[Qp] at h3;split at h3
  ·rename_i hl;cases h3;obtain⟨a,vs,rfl,q1,n1,r1⟩:=h1.sqL;obtain⟨b,ws,rfl,q2,n2,r2⟩:=h2.sqL;have e1:=r1.length;have e2:=r2.length;exact iR pins s σ H _ _ v u Q I rx ry #[a,b,vs,ws,rfl,rfl,q1,q2,by omega,λp hp=>post.lst hS hp (r1.append r2)]
  ·cases h3
def rN:UnR X (unaryOp .USub) (rM1 X.K λz x=>match x with | .int i=>Y (.int (-i)) | _=>J):=UnR.imp ue λx H Q z0=>by
 obtain⟨μ,S,dx,dz,hS,h1,h3,post⟩:=z0;cases dx<;>first | cases h3 | skip
 exact#[_,h1.int_inv,post.here hS (.int _)]
noncomputable def xN(f:aa->D->Option D)(a:ME):ME:=λenv S=>(a env S).bind λp=>(f p.2 p.1).bind λz=>Y (z,p.2)
def de_un(ho:UnR X (unaryOp op) (rM1 X.K f))(ha:DE X a ma):DE X 2.55 (xN f ma):=
 PE.imp (pe_un ho ha) λσ H Q z0=>by
  obtain⟨μ,S,env,d,S',hS,hE,hm,post⟩:=z0;obtain⟨x,S1,h1,hm⟩:=dQ hm;obtain⟨z,h2,hm⟩:=gA hm;cases hm;exact#[μ,S,env,x,_,hS,hE,h1,λv H1 μ1 e1 s1 r1=>#[μ1,_,x,_,s1,r1,h2,post.ext e1]]
def bS{d:D}(r:Reps K μ H vs ds)(h:AK ds i=Y d):∃ v,AK vs i=Y v/\Rep K μ H v d:=by
 unfold AK at h ⊢;rw[r.length];obtain⟨j,h1,h2⟩:=gA h;obtain⟨v,h3,h4⟩:=r.get h2;exact#[v,by rw[h1];exact h3,h4]
def A0n(S:aa)(x y:D):Option D:=match y with | .int i=>(Xw S x).bind λxs=>AK xs i | _=>J
def ix_D:IxR X (nA X.K A0n):=IxR.imp (ix_list.or uJ) λx y H Q z0=>by
 obtain⟨μ,S,dx,dy,dz,hS,h1,h2,h3,post⟩:=z0;cases dy<;>first | cases h3 | skip
 rename_i i;obtain⟨xs,e,h3⟩:=gA h3;obtain⟨a,vs,rfl,hq,r⟩:=kK hS h1 e;obtain⟨v,h4,h5⟩:=bS r h3;rcases hq with hq | hq
 ·exact .inl #[a,vs,i,v,rfl,h2.int_inv,hq,h4,post.here hS h5]
 ·exact .inr #[a,vs,i,v,rfl,h2.int_inv,hq,h4,post.here hS h5]
def XB{α:Type}(xs:List α)(lo hi:Option Int):List α:=(xs.drop 1.36).take (HT.fU xs.length xs.length hi - HT.fU xs.length 0 lo)
noncomputable abbrev MO:=bn->aa->Option (Option Int×aa)
noncomputable def bA:MO:=λz S=>Y (J,S)
noncomputable def bV(m:ME):MO:=λenv S=>(m env S).bind λp=>match p.1 with | .int i=>Y (Y i,p.2) | _=>J
inductive tMO(K:Ym)(m:MO)(σ:L2.St)(H:Hp)(Q:Option Int->Hp->Prop):Prop
 | mk (μ:Fp) (S:aa) (env:bn) (o:Option Int) (S':aa) (hS:SOk K μ S H) (hE:EOk K μ H σ env) (h:m env S=Y (o,S')) (post:∀ H' μ',Ext μ H μ' H'->SOk K μ' S' H'->Q o H')
def DO(X:Cx)(e:Option sn)(m:MO):Prop:=PO X e (tMO X.K m)
def PO.imp{t':TO}(h:PO X e t)(i:∀ σ H Q,t' σ H Q->t σ H Q):PO X e t':=λpins s σ H Q I q=>h pins s σ H Q I 2.20
theorem Vb:DO X J bA:=PO.imp lm λσ H Q ⟨μ,S,env,d,S',hS,hE,hm,post⟩=>by cases hm;exact post H μ hS.ext hS
theorem Va(h:DE X e m):DO X (Y e) (bV m):=PO.imp (wY h) λσ H Q z0=>by
 obtain⟨μ,S,env,d,S',hS,hE,hm,post⟩:=z0;obtain⟨x,S1,h1,hm⟩:=dQ hm;cases x<;>first | cases hm | skip
 exact#[μ,S,env,_,_,hS,hE,h1,λv H1 μ1 e1 s1 r1=>#[_,r1.int_inv,post H1 μ1 e1 s1]]
noncomputable def bz(a:ME)(lo hi:MO):ME:=λenv S=>(a env S).bind λp=>(lo env p.2).bind λl=>(hi env l.2).bind λh=>match p.1 with
 | .tup xs=>Y (.tup (XB xs l.1 h.1),h.2)
 | .lst xs=>Y 1.80
 | .rol xs=>Y 1.80
 | .ref r=>match h.2[r]? with | some 1.5=>Y 1.80 | _=>J
 | _=>J
def ve{lo:Option Int}(r:Reps K μ H vs ds):Reps K μ H (FB vs lo hi) (XB ds lo hi):=by
 unfold FB XB;rw[r.length];exact(r.drop _).take _
def sW:SlR X (λx lo hi H Q=>∃ a xs,x=.ref a/\DF X.K H a xs/\(HT.fU xs.length 0 lo=0/\HT.fU xs.length xs.length hi=xs.length)/\Q (.ref a) H):=by
 intro pins s σ H x v vl vu lo hi sl Q I rx hs pl pu h;obtain⟨a,xs,rfl,hx,hw,q⟩:=h;cases rx;obtain⟨its,r,ht,hz⟩:=I.tuple hx;have hlen:its.toArray.size=xs.length:=by rw[aah];exact r.length.symm
 refine#["tuple",_,PyProof.Rows.slot_tuple_getitem.lookup,ht.typeIs,?_];exact HT.pz ht hs pl pu (by rw[hlen];exact hw) #[.ref a,H,I,rfl,q]
theorem Ri{lo:Option sn}(ha:DE X a ma)(hl:DO X lo ml)(hh:DO X hi mh):DE X (.Subscript a 2.56 pos) (bz ma ml mh):=
 PE.imp (cY (SlR.or sW (SlR.or jj ev)) ha hl hh) λσ H Q z0=>by
  obtain⟨μ,S,env,d,S',hS,hE,hm,post⟩:=z0;obtain⟨x,S1,h1,hm⟩:=dQ hm;obtain⟨l,S2,h2,hm⟩:=dQ hm;obtain⟨h,S3,h3,hm⟩:=dQ hm;refine#[μ,S,env,x,S1,hS,hE,h1,λv H1 μ1 e1 s1 r1=>#[μ1,S1,env,l,S2,s1,hE.mono e1,h2,λH2 μ2 e2 s2=>#[μ2,S2,env,h,S3,s2,(hE.mono e1).mono e2,h3,λH3 μ3 e3 s3=>?_]]];have r3:=(r1.mono e2).mono e3;have e:=(e1.trans e2).trans e3;clear h1 h2 h3 r1;cases x with
  | tup xs=>
   cases hm;have r3':=r3;obtain⟨a,vs,rfl,q1,r⟩:=r3.sqT;by_cases hw:HT.fU vs.length 0 l=0/\HT.fU vs.length vs.length h=vs.length
   ·refine .inl #[a,vs,rfl,q1,hw,?_];have:XB xs l h=xs:=by unfold XB;rw[<- r.length,hw.1,hw.2];simp[r.length]
    rw[this] at post;exact post _ H3 μ3 e s3 r3'
   ·exact .inr (.inl #[a,vs,rfl,q1,hw,λp hp=>(post.ext e).tup s3 hp (ve r)])
  | lst xs=>
   cases hm;obtain⟨a,vs,rfl,q1,n1,r⟩:=r3.sqL;exact .inr (.inr #[a,vs,rfl,.inl (.inl q1),λp hp=>(post.ext e).lst s3 hp (ve r)])
  | rol xs=>
   cases hm;obtain⟨a,vs,rfl,q1,r⟩:=r3.sqR;exact .inr (.inr #[a,vs,rfl,q1,λp hp=>(post.ext e).lst s3 hp (ve r)])
  | ref r=>
   dsimp only at hm;split at hm
   ·rename_i xs q;cases hm;cases r3 with
    | @ref a _ ha=>
     obtain⟨vs,hv,rv⟩:=s3.cell r a _ ha q;exact .inr (.inr #[a,vs,rfl,.inl (.inl hv),λp hp=>(post.ext e).lst s3 hp (ve rv)])
   ·cases hm
  | _=>cases hm
end
section
variable{X:Cx}{K:Ym}{μ μ':Fp}{H H':Hp}{S:aa}
noncomputable def bB(f:List D->aa->Option (D×aa))(ms:MA):ME:=λenv S=>(ms env S).bind λp=>f p.1 p.2
def nt(h:tM K (bB f ms) σ H Q):A0g (Og K f) (tMA K ms) σ H Q:=by
 obtain⟨μ,S,env,d,S',hS,hE,hm,post⟩:=h;obtain⟨xs,S1,h1,hm⟩:=dQ hm;exact#[μ,S,env,xs,S1,hS,hE,h1,λvs H1 μ1 e1 s1 r1=>#[μ1,S1,xs,d,S',s1,r1,hm,post.ext e1]]
section
variable{x:Str}{p pos:Pos}{e:sn}{es:List sn}{ms:MA}{id T:String}{f:List D->aa->Option (D×aa)}
def rP(hc:CallR X 6.4 (Og X.K f))(hm:X.mg x=J)(hv:bootBuiltins x=Y 6.4)(ha:DA X (e::es) ms)(hg:Gl X x:=by rfl)(hn:x≠"__name__":=by decide)(hdb:(x==("__debug__":Str))=false:=by decide)
  (he:Pi (e::es) X.env=2.1::Pi es X.env:=by rfl) (hpl:(backTo pos 2.7).any (·.1)=false:=by rfl):DE X (.Call 8.0 (e::es) [] pos) (bB f ms):=
 PE.imp (xi hc hg hm hv ha hn hdb he hpl) λz z z h=>nt h
def tz(hc:CallR X 1.96 (Og X.K f))(hm:X.mg x=J)(hv:bootBuiltins x=Y 1.96)(ha:DA X (e::es) ms)(hg:Gl X x:=by rfl)(hn:x≠"__name__":=by decide)(hdb:(x==("__debug__":Str))=false:=by decide)
  (he:Pi (e::es) X.env=2.1::Pi es X.env:=by rfl) (hpl:(backTo pos 2.7).any (·.1)=false:=by rfl):DE X (.Call 8.0 (e::es) [] pos) (bB f ms):=
 PE.imp (tq hc hg hm hv ha hn hdb he hpl) λz z z h=>nt h
end
def Reps.one{d:D}(r:Reps K μ H vs [d]):∃ v,vs=[v]/\Rep K μ H v d:=by
 cases r with
 | cons h t=>cases t;exact#[_,rfl,h]
def Reps.two{d e:D}(r:Reps K μ H vs [d,e]):∃ v w,vs=[v,w]/\Rep K μ H v d/\Rep K μ H w e:=by
 cases r with
 | cons h t=>cases t with | cons h' t=>cases t;exact#[_,_,rfl,h,h']
def Gz(f:aa->List D->Option D):List D->aa->Option (D×aa):=λds S=>(f S ds).bind λd=>Y (d,S)
def fP{S S':aa}{d:D}(h:Gz f ds S=Y (d,S')):S'=S/\f S ds=Y d:=by
 obtain⟨z,h1,h⟩:=gA h;cases h;exact#[rfl,h1]
def Op(S:aa):List D->Option D
 | [.str z]=>if z.length<=Ph then Y (.int z.length) else J
 | [d]=>(Xw S d).bind λxs=>Y (.int xs.length)
 | _=>J
def kJ:CallR X (.builtin "len") (Og X.K (Gz Op)):=CallR.imp (call_len_seq.or mz) λxs H Q z0=>by
 obtain⟨μ,S,ds,d,S',hS,hr,hm,post⟩:=z0;obtain⟨rfl,hm⟩:=fP hm;cases ds with
 | nil=>cases hm
 | cons x r=>
  cases r with
  | cons _ _=>simp[Op] at hm
  | nil=>
   obtain⟨v,rfl,r⟩:=hr.one;cases x with
   | str z=>
    simp only[Op] at hm;split at hm
    ·rename_i hl;cases hm;exact .inr #[z,by rw[r.str_inv],hl,post.here hS (.int _)]
    ·cases hm
   | tup xs=>
    cases hm;obtain⟨a,vs,rfl,hq,r⟩:=kK hS r rfl;exact .inl #[a,vs,rfl,hq,by rw[r.length];exact post.here hS (.int _)]
   | lst xs=>
    cases hm;obtain⟨a,vs,rfl,hq,r⟩:=kK hS r rfl;exact .inl #[a,vs,rfl,hq,by rw[r.length];exact post.here hS (.int _)]
   | rol xs=>
    cases hm;obtain⟨a,vs,rfl,hq,r⟩:=kK hS r rfl;exact .inl #[a,vs,rfl,hq,by rw[r.length];exact post.here hS (.int _)]
   | ref i=>
    obtain⟨xs,h1,hm⟩:=gA hm;cases hm;obtain⟨a,vs,rfl,hq,r⟩:=kK hS r h1;exact .inl #[a,vs,rfl,hq,by rw[r.length];exact post.here hS (.int _)]
   | _=>cases hm
def Om(S:aa):List D->Option D
 | [.int i]=>Y (.int i)
 | [.bl k]=>Y (.int (if k then 1 else 0))
 | _=>J
def lg:CallR X (.type "int") (Og X.K (Gz Om)):=CallR.imp tY λxs H Q z0=>by
 obtain⟨μ,S,ds,d,S',hS,hr,hm,post⟩:=z0;obtain⟨rfl,hm⟩:=fP hm;cases ds with
 | nil=>cases hm
 | cons x r=>
  cases r with
  | cons _ _=>simp[Om] at hm
  | nil=>
   obtain⟨v,rfl,r⟩:=hr.one;cases x with
   | int i=>cases hm;exact .inl #[i,by rw[r.int_inv],post.here hS (.int _)]
   | bl k=>cases hm;exact .inr #[k,by rw[r.bl_inv],post.here hS (.int _)]
   | _=>cases hm
def Ww(S:aa):List D->Option D
 | [.int i,.int j]=>Y (.int (if j>i then j else i))
 | _=>J
def JE(S:aa):List D->Option D
 | [.int i,.int j]=>Y (.int (if j<i then j else i))
 | _=>J
def nB{ds:List D}{f:Int->Int->D}{d:D}(h:(match ds with | [.int i,.int j]=>Y (f i j) | _=>J)=Y d):∃ i j,ds=[.int i,.int j]/\d=f i j:=by
 split at h
 ·cases h;exact#[_,_,rfl,rfl]
 ·cases h
def cW(hc:X.calm=true):CallR X (.builtin "max") (Og X.K (Gz Ww)):=CallR.imp (fz hc) λxs H Q z0=>by
 obtain⟨μ,S,ds,d,S',hS,hr,hm,post⟩:=z0;obtain⟨rfl,hm⟩:=fP hm;obtain⟨i,j,rfl,rfl⟩:=nB (f:=λi j=>.int (if j>i then j else i)) hm;obtain⟨v,w,rfl,r1,r2⟩:=hr.two;exact#[i,j,by rw[r1.int_inv,r2.int_inv],post.here hS (.int _)]
def dO(hc:X.calm=true):CallR X (.builtin "min") (Og X.K (Gz JE)):=CallR.imp (su hc) λxs H Q z0=>by
 obtain⟨μ,S,ds,d,S',hS,hr,hm,post⟩:=z0;obtain⟨rfl,hm⟩:=fP hm;obtain⟨i,j,rfl,rfl⟩:=nB (f:=λi j=>.int (if j<i then j else i)) hm;obtain⟨v,w,rfl,r1,r2⟩:=hr.two;exact#[i,j,by rw[r1.int_inv,r2.int_inv],post.here hS (.int _)]
def Xx(c:List D->D)(S:aa):List D->Option D
 | [d]=>(Xw S d).bind λxs=>Y (c xs)
 | _=>J
def xh{S:aa}{d:D}(h:Xx c S ds=Y d):∃ x xs,ds=[x]/\Xw S x=Y xs/\d=c xs:=by
 match ds,h with
 | [x],h=>
  obtain⟨xs,h1,h⟩:=gA h;cases h;exact#[x,xs,rfl,h1,rfl]
 | [],h=>cases h
 | _::_::_,h=>cases h
def xz:CallR X (.type "list") (Og X.K 2.46):=CallR.imp zr λxs H Q z0=>by
 obtain⟨μ,S,ds,d,S',hS,hr,hm,post⟩:=z0;obtain⟨rfl,hm⟩:=fP hm;obtain⟨x,ys,rfl,h1,rfl⟩:=xh hm;obtain⟨v,rfl,r⟩:=hr.one;obtain⟨a,vs,rfl,hq,r⟩:=kK hS r h1;exact#[a,vs,rfl,hq,λl hl=>post.lst hS hl r]
def gU:CallR X (.type "tuple") (Og X.K 2.2):=CallR.imp yx λxs H Q z0=>by
 obtain⟨μ,S,ds,d,S',hS,hr,hm,post⟩:=z0;obtain⟨rfl,hm⟩:=fP hm;obtain⟨x,ys,rfl,h1,rfl⟩:=xh hm;obtain⟨v,rfl,r⟩:=hr.one;cases x with
 | tup zs=>
  cases h1;have r':=r;obtain⟨a,vs,rfl,q,r⟩:=r.sqT;exact#[a,vs,rfl,.inr #[q,post.here hS r']]
 | lst zs=>
  cases h1;obtain⟨a,vs,rfl,q,n,r⟩:=r.sqL;exact#[a,vs,rfl,.inl #[.inl (.inl q),λl hl=>post.tup hS hl r]]
 | rol zs=>
  cases h1;obtain⟨a,vs,rfl,q,r⟩:=r.sqR;exact#[a,vs,rfl,.inl #[q,λl hl=>post.tup hS hl r]]
 | ref i=>
  simp only[Xw] at h1;cases r with
  | @ref a _ h'=>
   cases q:S'[i]? with
   | none=>rw[q] at h1;cases h1
   | some c=>
    rw[q] at h1;have ck:=hS.cell i a c h' q;cases c with
    | lst xs=>cases h1;obtain⟨vs,e,r⟩:=ck;exact#[a,vs,rfl,.inl #[.inl (.inl e),λl hl=>post.tup hS hl r]]
    | dct ks xs=>cases h1
 | _=>cases h1
def YV:List D->Option (List Bool)
 | []=>Y []
 | .bl b::r=>(YV r).bind λbs=>Y (b::bs)
 | _=>J
def LW(S:aa):List D->Option D
 | [.lst xs]=>(YV xs).bind λbs=>Y (.bl (bs.all id))
 | _=>J
def tK:∀ {vs:List V} {ds:List D} {us:List ab} {bs:List Bool},Reps K μ H vs ds->Vals vs us->YV ds=Y bs->LSm.BoolsAre us bs:=λ{vs ds us bs} r v h=>
 Reps.ind (Q:=λvs ds=>∀ (us:List ab) (bs:List Bool),Vals vs us->YV ds=Y bs->LSm.BoolsAre us bs) (λus bs v h=>by cases v;cases h;exact .nil) (λ{_ d _ _} r t i us bs v h=>by
  cases v with | cons rv tv=>?_
  cases d<;>first | cases h | skip
  obtain⟨cs,h1,h⟩:=gA h;cases h;cases r;cases rv
  exact .cons _ (i _ _ tv h1)) r us bs v h
def pA(hc:X.calm=true):CallR X (.builtin "all") (Og X.K (Gz LW)):=by
 intro pins s σ H xs us Q I rv h;obtain⟨μ,S,ds,d,S',hS,hr,hm,post⟩:=h;obtain⟨rfl,hm⟩:=fP hm;cases ds with
 | nil=>cases hm
 | cons x r=>
  cases r with
  | cons _ _=>simp[LW] at hm
  | nil=>
   obtain⟨v,rfl,r⟩:=hr.one;cases x with
   | lst zs=>
    obtain⟨bs,h1,hm⟩:=gA hm;cases hm;obtain⟨u,rfl,ru⟩:=tQ rv;obtain⟨a,vs,rfl,q,n,r⟩:=r.sqL;cases ru;obtain⟨its,rv',pl,hz⟩:=I.list 1.34;have hl:=pl.isList;have hb:=tK r rv' h1;have hlt:a<s.heap.objs.size:=by obtain⟨z,e,z⟩:=hl;exact aaz e
    refine call_all_walk (acP hl ?_)
    refine⟨s.heap.objs.size,[s.heap.objs.size,a],[s.heap.objs.size],its.toArray.size,_,_,λi=>(bs[i]?).getD true,rfl,Walks.list (A:=X.A.in1) 9.0 _ a (aaT hlt) its.toArray,
     #[#[_,aaC _ rfl,rfl,rfl],hl.push _],λi v s' Q' E' hP hQ=>?_,λh' tk hk=>?_⟩
    ·obtain⟨b,e,rfl⟩:=hb.get i v (by simpa using hP);simp only[e,Option.getD_some] at hQ;exact aca hQ
    ·have e:((List.range its.toArray.size).all λi=>(bs[i]?).getD true)=bs.all id:=by
      rw[aah,hb.length];exact LSm.range_all bs
     rw[e];exact#[.bl _,H,I.kept (LSm.kept_iter hk),rfl,post.here hS (.bl _)]
   | _=>cases hm
def A0o(S:aa):D->Option String
 | .non=>Y "NoneType"
 | .bl _=>Y "bool"
 | .int _=>Y "int"
 | .str _=>Y "str"
 | .tup _=>Y "tuple"
 | .lst _=>Y "list"
 | .rol _=>Y "list"
 | .dct _ _=>Y "dict"
 | .ref r=>match S[r]? with | some (.lst _)=>Y "list" | some (.dct _ _)=>Y "dict" | _=>J
 | .txt=>Y "str"
 | .obj=>Y "dict"
 | .exc _ _ _=>J
 | .fn _=>J
def PQ(T:String)(t:String):Bool:=t==T||(t=="bool"&&T=="int")
def HG(T:String)(S:aa)(d:D):Option D:=(A0o S d).bind λt=>Y (.bl (PQ T t))
noncomputable def iz(T:String)(m:ME):ME:=λenv S=>(m env S).bind λp=>(HG T p.2 p.1).bind λd=>Y (d,p.2)
def iY{S:aa}{d:D}(h:A0o S d=Y t):t = "NoneType"\/t = "bool"\/t = "int"\/t = "str"\/t = "tuple"\/t = "list"\/t = "dict":=by
 cases d<;>simp only[A0o] at h<;>first | (cases h;simp) | (split at h<;>first | (cases h;simp) | cases h) | cases h
def je(K:Ym){T t:String}(hT:T = "int"\/T = "bool"\/T = "str"\/T = "tuple"\/T = "list"\/T = "dict")(ht:t = "NoneType"\/t = "bool"\/t = "int"\/t = "str"\/t = "tuple"\/t = "list"\/t = "dict") :
  W.kitOne K (.type t) 1.96=Y (PQ T t):=by
 rcases hT with rfl | rfl | rfl | rfl | rfl | rfl<;>rcases ht with rfl | rfl | rfl | rfl | rfl | rfl | rfl<;>rfl
def kia_D{s:ce}{d:D}{Q:ab->ce->Prop}(I:Inv X pins σ H s)(hS:SOk X.K μ S H)(r:Rep X.K μ H v d)(ru:RelV v u)(ht:A0o S d=Y t)
  (e:W.kitOne X.K (.type t) c=Y b) (h:∀ tk,Q (.bool b) { s with toks:=tk }):Xr 0.2 X.A (call (.builtin "isinstance") [u,c]) Q E s:=by
 have tupK:∀ {a:gV} {vs:List V},DF X.K H a vs->W.KitAt a "tuple" s.heap:=λ{a vs} q=>by
  obtain⟨its,z,⟨o,h1,h2,z⟩,z⟩:=I.tuple q;exact#[o,h1,h2]
 have lstK:∀ {a:gV} {vs:List V},Yv X.K H a vs->W.KitAt a "list" s.heap:=λ{a vs} q=>by
  obtain⟨its,z,⟨o,n,h1,h2,z⟩,z⟩:=I.list q;exact#[o,h1,h2]
 have dK:∀ {a:gV} {kvs:List (bK×V)},H a=Y 2.5->W.KitAt a "dict" s.heap:=λ{a kvs} q=>by
  obtain⟨z,z,vs,z,p⟩:=(show ObjOk X.prog X.w H s.heap a 2.5 from I.hok a _ q)
  obtain⟨o,es,ep,h1,h2,z⟩:=p;exact#[o,h1,h2.1]
 cases r with
 | non=>cases ht;cases ru;exact abM W.kitx_none I.kIn True.intro e 3.5 h
 | bl y=>cases ht;cases ru;exact abM W.kitx_bool I.kIn True.intro e 3.5 h
 | int i=>cases ht;obtain⟨t,rfl⟩:=ru;exact abM W.kitx_int I.kIn True.intro e 3.5 h
 | str y=>cases ht;obtain⟨t,rfl⟩:=ru;exact abM W.kitx_str I.kIn True.intro e 3.5 h
 | tup q n r=>cases ht;cases ru;exact abM W.kitx_tuple I.kIn (tupK 1.34) e 3.5 h
 | ktup q r=>cases ht;cases ru;exact abM W.kitx_tuple I.kIn (tupK (.inr q)) e 3.5 h
 | lst q n r=>cases ht;cases ru;exact abM adO I.kIn (lstK 1.34) e 3.5 h
 | rol q n r=>cases ht;cases ru;exact abM adO I.kIn (lstK (.inl q)) e 3.5 h
 | krol q r=>cases ht;cases ru;exact abM adO I.kIn (lstK (.inr q)) e 3.5 h
 | dct q n r=>cases ht;cases ru;exact abM aeG I.kIn (dK q) e 3.5 h
 | txt y=>cases ht;obtain⟨t,rfl⟩:=ru;exact abM W.kitx_str I.kIn True.intro e 3.5 h
 | obj q n=>cases ht;cases ru;exact abM aeG I.kIn ((show ObjOk X.prog X.w H s.heap _ (.ext (Wm _)) from I.hok _ _ q).1) e 3.5 h
 | exc q n q2 n2=>cases ht
 | fn a=>cases ht
 | @ref a i h'=>
  cases ru;simp only[A0o] at ht;cases q:S[i]? with
  | none=>rw[q] at ht;cases ht
  | some c'=>
   rw[q] at ht;have ck:=hS.cell i a c' h' q;cases c' with
   | lst xs=>cases ht;obtain⟨vs,q,r⟩:=ck;exact abM adO I.kIn (lstK 1.34) e 3.5 h
   | dct ks xs=>cases ht;obtain⟨kvs,q,r⟩:=ck;exact abM aeG I.kIn (dK q) e 3.5 h
theorem Mr{p:Pos}(hm:X.mg "isinstance" = J)(hmT:X.mg x=J)(hb:bootBuiltins x=Y 1.96)(ha:DE X a ma)
  (hT:T = "int"\/T = "bool"\/T = "str"\/T = "tuple"\/T = "list"\/T = "dict":=by simp)
  (hg:Gl X "isinstance":=by rfl) (hgT:Gl X x:=by rfl) (hn:x≠"__name__":=by decide) (hd:(x==("__debug__":Str))=false:=by decide)
  (hs1:Pi [a,.Name x p2] X.env=4.9::Pi [.Name x p2] X.env:=by rfl) (hs2:Pi [.Name x p2] X.env=(false,eval (.Name x p2) X.env)::Pi [] X.env:=by rfl) (hpl:(backTo pos (Pi [.Name x p2] X.env)).any (·.1)=false:=by rfl) :
  DE X (.Call (.Name "isinstance" p) [a,.Name x p2] [] pos) (iz T ma):=by
 have hc:CallR X (.builtin "isinstance") (λvs H Q=>∃ v μ S d t,vs=[v,.ty T]/\SOk X.K μ S H/\Rep X.K μ H v d/\A0o S d=Y t/\Q (.bl (PQ T t)) H):=by
  intro pins s σ H xs us Q I rv h;obtain⟨v,μ,S,d,t,rfl,hS,r,ht,q⟩:=h;obtain⟨u,w',rfl,r1,r2⟩:=xc rv;cases r2;exact kia_D I hS r r1 ht (je _ hT (iY ht)) λtk=>#[.bl _,H,I.tok _,rfl,q]
 refine PE.imp (xi hc hg hm boot_isinstance (kA ha (kA (jB (v:=.ty T) hgT hmT hb rfl hn hd) aV hs2) hs1) 0.1 0.1 hs1 hpl) λσ H Q ⟨μ,S,env,d,S',hS,hE,hm,post⟩=>?_;obtain⟨x,S1,h1,hm⟩:=dQ hm;obtain⟨z,h2,hm⟩:=gA hm;cases hm;obtain⟨t,h3,h2⟩:=gA h2;cases h2;exact#[μ,S,env,x,S1,hS,hE,h1,λv H1 μ1 e1 s1 r1=>#[v,μ1,S1,x,t,rfl,s1,r1,h3,post _ H1 μ1 e1 s1 (.bl _)]]
end
section
variable{X:Cx}{K:Ym}{μ μ':Fp}{H H':Hp}{S:aa}
def NM(K:Ym)(n:Nat)(f:List D->aa->Option (D×aa)):Sp:=λvs H Q z=>∃ μ S ds d S',SOk K μ S H/\Reps K μ H vs ds/\ds.length=n/\f ds S=Y (d,S')/\Post K μ H S' d Q
structure Fn(P:td)(w:tx)(K:Ym)(mg:Str->Option ab)(base:NY)(k:Nat)(x:Str)(n:Nat)(f:List D->aa->Option (D×aa)):Prop where
 ex:∃ (a:gV) (fd:FuncData) (ps:List Str),ps.length=n/\FnOk P w K mg base Ke k a fd ps (NM K n f)/\mg x=Y (.ref a)/\W.keepIn K (.ref a)=true/\Binds K fd ps []
noncomputable def ax(n:Nat)(f:List D->aa->Option (D×aa))(ms:MA):ME:=λenv S=>(ms env S).bind λp=>if p.1.length=n then f p.1 p.2 else J
def pv(h:tM K (ax n f ms) σ H Q):IK (NM K n f) [] E0 (tMA K ms) σ H Q:=by
 obtain⟨μ,S,env,d,S',hS,hE,hm,post⟩:=h;obtain⟨xs,S1,h1,hm⟩:=dQ hm;dsimp only at hm;split at hm
 ·rename_i hn;refine#[μ,S,env,xs,S1,hS,hE,h1,λvs H1 μ1 e1 s1 r1=>?_];show NM K n f (vs++[]) H1 Q E0;rw[aaF];exact#[μ1,S1,xs,d,S',s1,r1,hn,hm,post.ext e1]
 ·cases hm
theorem Vm{k:Nat}{e:sn}{es:List sn}(F:Fn X.prog X.w X.K X.mg X.base k x n f)(hr:Room k X.A)(ha:DA X (e::es) ms)(hg:Gl X x:=by rfl)
  (hdb:(x==("__debug__":Str))=false:=by decide) (he:Pi (e::es) X.env=2.1::Pi es X.env:=by rfl) (hpl:(backTo pos 2.7).any (·.1)=false:=by rfl) :
  DE X (.Call 8.0 (e::es) [] pos) (ax n f ms):=by
 obtain⟨a,fd,ps,hn,F,hm,hk,hb⟩:=F.ex;exact PE.imp (kW F hr hg hm hk hb .nil wG ha hdb he hpl) λz z z h=>pv h
theorem Ru{k:Nat}(F:Fn X.prog X.w X.K X.mg X.base k x 0 f)(hr:Room k X.A)(hg:Gl X x:=by rfl)
  (hdb:(x==("__debug__":Str))=false:=by decide):DE X (.Call 8.0 [] [] pos) (ax 0 f am):=by
 obtain⟨a,fd,ps,hn,F,hm,hk,hb⟩:=F.ex;refine PE.imp (gh F hr hg hm hk hb .nil wG hdb) λσ H Q h=>?_;obtain⟨μ,S,env,d,S',hS,hE,hm,post⟩:=h;exact#[μ,S,[],d,S',hS,.nil,rfl,hm,post]
mutual
def Ol(n:Nat):D->Bool
 | .tup xs=>closDs n xs
 | .lst xs=>closDs n xs
 | .rol xs=>closDs n xs
 | .dct _ xs=>closDs n xs
 | .ref r=>decide (r<n)
 | _=>true
def closDs(n:Nat):List D->Bool
 | []=>true
 | d::ds=>Ol n d&&closDs n ds
end
def Jy(n:Nat):Cell->Bool
 | .lst xs=>closDs n xs
 | .dct _ xs=>closDs n xs
def qv:∀ {ds:List D},closDs n ds=true->∀ d∈ds,Ol n d=true
 | _::_,c,_,.head _=>(aag _ _ |>.mp c).1
 | _::_,c,_,.tail _ h=>qv (aag _ _ |>.mp c).2 _ h
def Rep.trunc{cs l fb:List gV}{d:D}(r:Rep K #[cs++l,fb] H v d)(c:Ol cs.length d=true):Rep K #[cs,fb] H v d:=
 Rep.to (μ:=#[cs++l,fb]) (μ':=#[cs,fb]) (P:=λd=>Ol cs.length d=true) (λd c x hx=>by cases d<;>first | (cases hx;done) | exact qv c x hx) (λh n=>#[h,λz=>n.1 (aaK _ z),n.2]) (λc (h:(cs++l)[_]?=Y _)=>by rw[aap (aaD c)] at h;exact h) r c
def Reps.trunc{cs l fb:List gV}(r:Reps K #[cs++l,fb] H vs ds)(c:closDs cs.length ds=true):Reps K #[cs,fb] H vs ds:=Reps.to (μ:=#[cs++l,fb]) (μ':=#[cs,fb]) (P:=λd=>Ol cs.length d=true) (λr c=>r.trunc c) r (qv c)
def Rep.closed{d:D}(r:Rep K μ H v d):Ol μ.cs.length d=true:=
 Rep.rec (motive_1:=λz d z=>Ol μ.cs.length d=true) (motive_2:=λz ds z=>closDs μ.cs.length ds=true) rfl (λz=>rfl) (λz=>rfl) (λz=>rfl) (λz z z i=>i) (λz z i=>i) (λz z z i=>i) (λz z z i=>i) (λz z i=>i) (λz z z i=>i) (λh=>aaj (aaa.mp h).1) (λz=>rfl) (λz z=>rfl) (λz z z z=>rfl) (λz=>rfl) rfl (λz z i j=>by rw[closDs,i,j];rfl) r
def Reps.closed:∀ {vs:List V} {ds:List D},Reps K μ H vs ds->closDs μ.cs.length ds=true
 | _,_,.nil=>rfl
 | _,_,.cons h t=>by rw[closDs,Rep.closed h,Reps.closed t];rfl
def SOk.closed(s:SOk K μ S H):∀ c∈S,Jy S.length c=true:=λc hc=>by
 obtain⟨r,hr⟩:=abX.mp hc;have hl:=(aaa.mp hr).1;have hl':r < μ.cs.length:=by rw[s.len];exact hl
 have:=s.cell r _ c (aae hl') hr;cases c with
 | lst ds=>obtain⟨vs,z,q⟩:=this;rw[<- s.len];exact q.closed
 | dct ks ds=>obtain⟨vs,z,z,q⟩:=this;rw[<- s.len];exact q.closed
def SOk.trunc{S' g:aa}(s:SOk K μ (S'++g) H)(hc:∀ c∈S',Jy S'.length c=true):∃ cs l,μ.cs=cs++l/\cs.length=S'.length/\SOk K #[cs,μ.fb] S' H:=by
 obtain⟨cs0,fb⟩:=μ;have hlen:cs0.length=S'.length+g.length:=by have:=s.len;simpa using this
 have hcl:(cs0.take S'.length).length=S'.length:=by rw[abO];omega
 refine#[cs0.take S'.length,cs0.drop S'.length,(abV _ _).symm,hcl,s.nd.sublist (List.take_sublist _ _),hcl,λr a c h1 h2=>?_,s.fdom,λa ha z=>s.disj a ha (abg z)];have hr:=(aaa.mp h2).1
 have h1':cs0[r]?=Y a:=by
  have h1:(cs0.take S'.length)[r]?=Y a:=h1
  rwa[aed hr] at h1
 have ck:=s.cell r a c h1' (by rw[aap hr];exact h2);have cc:=hc c (aax h2);have e:cs0=cs0.take S'.length++cs0.drop S'.length:=(abV _ _).symm;cases c with
 | lst ds=>
  obtain⟨vs,q,r⟩:=ck;have r':Reps K #[cs0.take S'.length++cs0.drop S'.length,fb] H vs ds:=by rw[<- e];exact r
  exact#[vs,q,r'.trunc (by rw[hcl];exact cc)]
 | dct ks ds=>
  obtain⟨vs,q,q2,r⟩:=ck;have r':Reps K #[cs0.take S'.length++cs0.drop S'.length,fb] H (vs.map (·.2)) ds:=by rw[<- e];exact r
  exact#[vs,q,q2,r'.trunc (by rw[hcl];exact cc)]
def Post.trunc{g:aa}{d:D}(post:Post K μ H S' d Q)(hd:Ol S'.length d=true)(hc:∀ c∈S',Jy S'.length c=true)(hl:μ.cs.length<=S'.length):Post K μ H (S'++g) d Q:=λv H' μ' e s r=>by
 obtain⟨cs,l,q,hcl,s'⟩:=s.trunc hc;obtain⟨cs',fb'⟩:=μ';have q':cs'=cs++l:=q;subst q';refine post v H' #[cs,fb'] #[e.fb,?_,e.keep,λa ha=>e.dom a (aaK _ ha)] s' (r.trunc (by rw[hcl];exact hd));obtain⟨l0,q0,h0⟩:=e.pre;have q0:cs++l = μ.cs++l0:=q0;have hle:μ.cs.length<=cs.length:=by rw[hcl];exact hl
 refine#[cs.drop μ.cs.length,?_,λa ha=>h0 a ?_]
 ·have t1:(cs++l).take μ.cs.length = μ.cs:=by rw[q0];simp
  rw[List.take_append_of_le_length hle] at t1;show cs = μ.cs++cs.drop μ.cs.length
  conv=>lhs;rw[<- abV μ.cs.length cs,t1]
 ·have t2:(cs++l).drop μ.cs.length=l0:=by rw[q0];simp
  rw[<- t2,List.drop_append_of_le_length hle];exact aaK _ ha
def Runs(m:MS)(env:bn)(S:aa)(d:D)(S':aa):Prop:=
 ∃ o g,m env S=Y o/\(g=[]\/(Ol S'.length d=true/\(∀ c∈S',Jy S'.length c=true)/\S.length<=S'.length))/\(o=.rt d (S'++g)\/(d=.non/\∃ env',o=.nx env' (S'++g)))
def Runs.ret{m:MS}{d:D}(h:m env S=Y (.rt d S')):Runs m env S d S':=#[_,[],h,.inl rfl,.inl (by rw[aaF])]
def FV(N:List Str)(ds:List D):bn:=ds.map Y++ZB (N.length - ds.length) J
def wZ{k:Nat}{st:Kw}{f:List D->aa->Option (D×aa)}
  (F:L2.Fun K x qual st a fd) (Sc:aU N ps (Xt st))
  (hbody:∀ (cdv:ab) (A:NF) (outer:List PySem.Env) (s:ce) (H:Hp) (E:XK),Room k (A.deeper (envOfC qual (Xt st) s.heap.objs.size a cdv)) ->
   ∃ m,SM (GA Ke P w K mg base N qual (Xt st) a cdv A outer s H E).nox (SH st) m/\∀ ds S d S',ds.length=ps.length->(∀ c∈S,Jy S.length c=true)->closDs S.length ds=true->f ds S=Y (d,S')->Runs m 2.97 S d S') :
  FnOk P w K mg base Ke (k+1) a fd ps (NM K ps.length f):=by
 refine F.ok Sc (λvs H Q E h=>?_) (λcdv A outer s H vs Q E hr h=>?_)
 ·obtain⟨μ,S,ds,d,S',hS,hr,hn,hf,post⟩:=h;rw[hr.length,hn]
 ·obtain⟨m,hm,run⟩:=hbody cdv A outer s H E hr;refine#[_,hm,?_];obtain⟨μ,S,ds,d,S',hS,hrp,hn,hf,post⟩:=h;obtain⟨o,g,ho,hg,hend⟩:=run ds S d S' hn hS.closed (by rw[<- hS.len];exact hrp.closed) hf
  have post':Post K μ H (S'++g) d Q:=by
   rcases hg with rfl | ⟨c1,c2,c3⟩
   ·rw[aaF];exact post
   ·exact post.trunc c1 c2 (by rw[hS.len];exact c3)
  have hEnv:EOk K μ H (L2.start N vs) 2.97:=by unfold L2.start FV;rw[hrp.length];exact EOk.start hrp
  rcases hend with rfl | ⟨rfl,env',rfl⟩
  ·exact#[μ,S,_,_,hS,hEnv,ho,post']
  ·exact#[μ,S,_,_,hS,hEnv,ho,λσ' H' μ' e s' z=>post' .non H' μ' e s' .non]
def my{mg:Str->Option ab}{k:Nat}{st:Kw}{f:List D->aa->Option (D×aa)}
  (F:L2.Fun K x qual st a fd) (Sc:aU N ps (Xt st)) (hmg:mg x=Y (.ref a)) (hb:Binds K fd ps [])
  (hbody:∀ (cdv:ab) (A:NF) (outer:List PySem.Env) (s:ce) (H:Hp) (E:XK),Room k (A.deeper (envOfC qual (Xt st) s.heap.objs.size a cdv)) ->
   ∃ m,SM (GA Ke P w K mg base N qual (Xt st) a cdv A outer s H E).nox (SH st) m/\∀ ds S d S',ds.length=ps.length->(∀ c∈S,Jy S.length c=true)->closDs S.length ds=true->f ds S=Y (d,S')->Runs m 2.97 S d S') :
  Fn P w K mg base (k+1) x ps.length f:=#[a,fd,ps,rfl,wZ F Sc hbody,hmg,F.kp,hb]
end
section
variable{X:Cx}{K:Ym}{μ μ':Fp}{H H':Hp}{S:aa}
def PostN.ext(e:Ext μ H μ' H')(p:PostN K μ H S' env' Q):PostN K μ' H' S' env' Q:=λσ2 H2 μ2 e2 s r=>p σ2 H2 μ2 (e.trans e2) s r
def PostS.ext(e:Ext μ H μ' H')(p:PostS K μ H o E):PostS K μ' H' o E:=by
 cases o with
 | nx env S=>exact PostN.ext e p
 | rt d S=>exact Post.ext e p
 | bk env S=>exact PostN.ext e p
 | ct env S=>exact PostN.ext e p
noncomputable def ba:MS:=λenv S=>Y 1.16
noncomputable def aF(a b:MS):MS:=λenv S=>(a env S).bind λo=>match o with | .nx env' S'=>b env' S' | o=>Y o
theorem US:SM X [] ba:=PSs.imp yz λE σ H ⟨μ,S,env,o,hS,hE,hm,post⟩=>by cases hm;exact post σ H μ hS.ext hS hE
def jK(h:tMS K (aF a b) E σ H):tSeq (tMS K a) (tMS K b) E σ H:=by
 obtain⟨μ,S,env,o,hS,hE,hm,post⟩:=h;obtain⟨o1,h1,hm⟩:=gA hm;refine#[μ,S,env,o1,hS,hE,h1,?_];cases o1 with
 | nx env' S'=>exact λσ' H' μ' e s r=>#[μ',S',env',o,s,r,hm,post.ext e]
 | rt d S'=>cases hm;exact post
 | bk env' S'=>cases hm;exact post
 | ct env' S'=>cases hm;exact post
theorem QQ{st:Kw}{rest:List Kw}(h1:DS X st a)(h2:SM X rest b):SM X (st::rest) (aF a b):=PSs.imp (fA h1 h2) λz z z h=>jK h
def mV{st:Kw}(h1:DS X st a):SM X [st] a:=tX h1
variable{pos:Pos}{e c:sn}{m:ME}{mt:MT}{a b:List Kw}{ma mb:MS}
theorem UU:DS X (.Pass pos) ba:=PS.imp fI λE σ H ⟨μ,S,env,o,hS,hE,hm,post⟩=>by cases hm;exact post σ H μ hS.ext hS hE
def pk:DS X (.Break pos) (λenv S=>Y (.bk env S)):=PS.imp jv λE σ H ⟨μ,S,env,o,hS,hE,hm,post⟩=>by cases hm;exact post σ H μ hS.ext hS hE
def vR:DS X (.Continue pos) (λenv S=>Y (.ct env S)):=PS.imp cH λE σ H ⟨μ,S,env,o,hS,hE,hm,post⟩=>by cases hm;exact post σ H μ hS.ext hS hE
theorem ZD{x j p}:DS X (.Expr (.Constant (.str x) j p) pos) ba:=PS.imp iy λE σ H ⟨μ,S,env,o,hS,hE,hm,post⟩=>by cases hm;exact post σ H μ hS.ext hS hE
noncomputable def bp(m:ME):MS:=λenv S=>(m env S).bind λp=>Y (.rt p.1 p.2)
theorem ZC(he:DE X e m):DS X (.Return (Y e) pos) (bp m):=PS.imp (cy he) λE σ H z0=>by
 obtain⟨μ,S,env,o,hS,hE,hm,post⟩:=z0;obtain⟨d,S1,h1,hm⟩:=dQ hm;cases hm;exact#[μ,S,env,d,S1,hS,hE,h1,post]
def mx:DS X (.Return J pos) (λz S=>Y (.rt .non S)):=PS.imp kH λE σ H ⟨μ,S,env,o,hS,hE,hm,post⟩=>by cases hm;exact Post.here post hS .non
noncomputable def dg(m:ME):MS:=λenv S=>(m env S).bind λp=>Y (.nx env p.2)
theorem UX(he:DE X e m)(hs:swapsWith e J pos.line X.env=pure false:=by rfl):DS X (.Expr e pos) (dg m):=PS.imp (gv he hs) λE σ H z0=>by
 obtain⟨μ,S,env,o,hS,hE,hm,post⟩:=z0;obtain⟨d,S1,h1,hm⟩:=dQ hm;cases hm;exact#[μ,S,env,d,S1,hS,hE,h1,λv H' μ' ex s r=>post σ H' μ' ex s (hE.mono ex)]
noncomputable def bU(t:MT)(a b:MS):MS:=λenv S=>(t env S).bind λp=>if p.1=true then a env p.2 else b env p.2
def ds_if(hc:DT X c mt)(ha:SM X a ma)(hb:SM X b mb):DS X (.If c a b pos) (bU mt ma mb):=PS.imp (ps_if hc ha hb) λE σ H z0=>by
 obtain⟨μ,S,env,o,hS,hE,hm,post⟩:=z0;obtain⟨k,S1,h1,hm⟩:=dQ hm;refine#[μ,S,env,k,S1,hS,hE,h1,λH1 μ1 e1 s1=>?_];cases k with
 | true=>rw[aam rfl] at hm ⊢;exact#[μ1,S1,env,o,s1,hE.mono e1,hm,post.ext e1]
 | false=>rw[if_neg aeI] at hm ⊢;exact#[μ1,S1,env,o,s1,hE.mono e1,hm,post.ext e1]
noncomputable abbrev MG:=D->bn->aa->Option (bn×aa)
noncomputable abbrev tL:=List D->bn->aa->Option (bn×aa)
inductive VM(K:Ym)(g:MG)(v:V)(σ:L2.St)(H:Hp)(Q:L2.St->Hp->Prop):Prop
 | mk (μ:Fp) (S:aa) (env:bn) (d:D) (env':bn) (S':aa) (hS:SOk K μ S H) (hE:EOk K μ H σ env) (h1:Rep K μ H v d) (h:g d env S=Y (env',S')) (post:PostN K μ H S' env' Q)
inductive tMGs(K:Ym)(g:tL)(vs:List V)(σ:L2.St)(H:Hp)(Q:L2.St->Hp->Prop):Prop
 | mk (μ:Fp) (S:aa) (env:bn) (ds:List D) (env':bn) (S':aa) (hS:SOk K μ S H) (hE:EOk K μ H σ env) (h1:Reps K μ H vs ds) (h:g ds env S=Y (env',S')) (post:PostN K μ H S' env' Q)
def DG(X:Cx)(tg:sn)(g:MG):Prop:=PG X tg (VM X.K g)
def WL(X:Cx)(tg:List sn)(g:tL):Prop:=PGs X tg (tMGs X.K g)
def PG.imp{t':TG}(h:PG X tg t)(i:∀ v σ H Q,t' v σ H Q->t v σ H Q):PG X tg t':=λpins s σ H v u Q I r q=>h pins s σ H v u Q I r (i v σ H Q q)
def PGs.imp{t':Sa}(h:PGs X tg t)(i:∀ v σ H Q,t' v σ H Q->t v σ H Q):PGs X tg t':=λpins s σ H v u Q I r q=>h pins s σ H v u Q I r (i v σ H Q q)
noncomputable def ai(i:Nat):MG:=λd env S=>Y (env.set i (Y d),S)
theorem JP{i:Nat}(hN:X.N.Nodup)(hi:X.N[i]?=Y x)(hx:Nb X.env.scope x)(hf:X.fn x=true\/X.env.scope.names.lookup x=Y .local:=by first | exact .inl rfl | exact .inr rfl | assumption):DG X 7.4 (ai i):=
 PG.imp (fR hN hi hx hf) λv σ H Q ⟨μ,S,env,d,env',S',hS,hE,hr,hm,post⟩=>by cases hm;exact post _ H μ hS.ext hS (hE.set hr i)
noncomputable def aK:tL:=λds env S=>match ds with | []=>Y (env,S) | _=>J
noncomputable def ah(g:MG)(gs:tL):tL:=λds env S=>match ds with | d::r=>(g d env S).bind λp=>gs r p.1 p.2 | []=>J
theorem Vd:WL X [] aK:=PGs.imp kU λv σ H Q z0=>by
 obtain⟨μ,S,env,ds,env',S',hS,hE,hr,hm,post⟩:=z0;cases hr with
 | nil=>cases hm;exact#[rfl,post σ H μ hS.ext hS hE]
 | cons _ _=>cases hm
theorem Re{t:sn}(h1:DG X t g)(h2:WL X ts gs)(hs:(assignEach (t::ts) X.env).map (·.2)=assign t X.env::(assignEach ts X.env).map (·.2):=by rfl):WL X (t::ts) (ah g gs):=
 PGs.imp (sZ h1 h2 hs) λv σ H Q z0=>by
  obtain⟨μ,S,env,ds,env',S',hS,hE,hr,hm,post⟩:=z0;cases hr with
  | nil=>cases hm
  | @cons v d vs ds h t=>
   obtain⟨env1,S1,h1,hm⟩:=dQ hm;exact#[v,vs,rfl,μ,S,env,d,env1,S1,hS,hE,h,h1,λσ1 H1 μ1 e1 s1 r1=>#[μ1,S1,env1,ds,env',S',s1,r1,t.mono e1,hm,post.ext e1]]
noncomputable def aQ(n:Nat)(gs:tL):MG:=λd env S=>match d with | .tup xs=>if xs.length=n then gs xs env S else J | _=>J
theorem Il{k n:Nat}(hc:X.calm=true)(h:WL X es gs)(hn:(assignEach es X.env).length=n:=by rfl)(hst:(assignEach es X.env).findIdx? (·.1)=J:=by rfl):DG X 1.01 (aQ n gs):=
 PG.imp (fB hc h hn hst) λv σ H Q z0=>by
  obtain⟨μ,S,env,d,env',S',hS,hE,hr,hm,post⟩:=z0;cases d with
  | tup xs=>
   simp only[aQ] at hm;split at hm
   ·rename_i hl;obtain⟨a,vs,rfl,q,r⟩:=hr.sqT;exact#[a,vs,rfl,q,by rw[r.length];exact hl,μ,S,env,xs,env',S',hS,hE,r,hm,post]
   ·cases hm
  | _=>cases hm
noncomputable def eX(o i:ME):MG:=λd env S=>(o env S).bind λp=>(i env p.2).bind λq=>match p.1,q.1 with
 | .ref r,.int k=>match q.2[r]? with
  | some 1.5=>(FQ xs.length k).bind λj=>Y (env,q.2.set r 2.54)
  | _=>J
 | _,_=>J
theorem ZF(ho:DE X o mo)(hi:DE X i mi)(ha:∀ v,assign 9.9 X.env v=(do
   let ov <- holding [v] 9.3;let iv <- holding [v,ov] (eval i X.env)
   standAt pos
   holding [v,ov,iv] 2.92
   release [v,ov,iv] []):=by intro z;rfl):DG X 9.9 (eX mo mi):=
 PG.imp (aY ho hi xH ha) λv σ H Q z0=>by
  obtain⟨μ,S,env,d,env',S',hS,hE,hr,hm,post⟩:=z0;obtain⟨x,S1,h1,hm⟩:=dQ hm;obtain⟨y,S2,h2,hm⟩:=dQ hm;refine#[μ,S,env,x,S1,hS,hE,h1,λv1 H1 μ1 e1 s1 r1=>#[μ1,S1,env,y,S2,s1,hE.mono e1,h2,λv2 H2 μ2 e2 s2 r2=>?_]];clear h1 h2;cases x with
  | ref r=>
   cases y with
   | int k=>
    dsimp only at hm;cases q:S2[r]? with
    | none=>rw[q] at hm;cases hm
    | some c=>
     rw[q] at hm;cases c with
     | lst xs=>
      obtain⟨j,h3,hm⟩:=gA hm;cases hm;have r1':=r1.mono e2;cases r1' with
      | @ref a _ h'=>
       obtain⟨vs,hv,rv⟩:=s2.cell r a _ h' q;have rd:=(hr.mono e1).mono e2;obtain⟨e3,s3⟩:=s2.write h' hv (rv.set rd j);exact#[a,vs,k,j,rfl,r2.int_inv,hv,by rw[rv.length];exact h3,post σ _ μ2 ((e1.trans e2).trans e3) s3 (hE.mono ((e1.trans e2).trans e3))]
     | dct ks xs=>cases hm
   | _=>cases hm
  | _=>cases hm
noncomputable def aN(m:ME)(g:MG):MS:=λenv S=>(m env S).bind λp=>(g p.1 env p.2).bind λq=>Y (.nx q.1 q.2)
def pY(h:tMS K (aN m g) E σ H):Kv (tM K m) (VM K g) E σ H:=by
 obtain⟨μ,S,env,o,hS,hE,hm,post⟩:=h;obtain⟨d,S1,h1,hm⟩:=dQ hm;obtain⟨env2,S2,h2,hm⟩:=dQ hm;cases hm;exact#[μ,S,env,d,S1,hS,hE,h1,λv H1 μ1 e1 s1 r1=>#[μ1,S1,env,d,env2,S2,s1,hE.mono e1,r1,h2,PostN.ext e1 post]]
theorem QW(he:DE X e m)(hg:DG X tg g)(hs:swapsWithSole [tg] e pos.line X.env=pure false:=by rfl)(hw:swappedStores [tg] e X.env=pure J:=by rfl)
  (h1:(assignEach [tg] X.env).map (·.2)=[assign tg X.env]:=by rfl):DS X (.Assign [tg] e pos) (aN m g):=PS.imp (iq he hg hs hw h1) λz z z h=>pY h
theorem HY{i:Nat}(hN:X.N.Nodup)(hi:X.N[i]?=Y x)(hx:Nb X.env.scope x)(he:DE X e m)(hs:swapsWith e (Y 2.49) pos.line X.env=pure false:=by rfl)(hf:X.fn x=true\/X.env.scope.names.lookup x=Y .local:=by first | exact .inl rfl | exact .inr rfl | assumption) :
  DS X (.Assign [.Name x pos'] e pos) (aN m (ai i)):=PS.imp (kh hN hi hx he hs hf) λE σ H h=>by
 obtain⟨μ,S,env,o,hS,hE,hm,post⟩:=h;obtain⟨d,S1,h1,hm⟩:=dQ hm;cases hm;exact#[μ,S,env,d,S1,hS,hE,h1,λv H1 μ1 e1 s1 r1=>post _ H1 μ1 e1 s1 ((hE.mono e1).set r1 i)]
structure ExtP(μ:Fp)(H:Hp)(μ':Fp)(H':Hp):Prop where
 fb:∃ l,μ'.fb=l++μ.fb/\∀ a∈l,H a=J
 pre:∃ l,μ'.cs = μ.cs++l/\∀ a∈l,H a=J
 keep:∀ a o,a∉μ.cs->H a=Y o->H' a=Y o
 dom:∀ a∈μ'.cs,H' a≠J
def Ext.toP(e:Ext μ H μ' H'):ExtP μ H μ' H':=#[#[[],by rw[e.fb];rfl,λw z=>by simp at z],e.pre,e.keep,e.dom]
def ExtP.stays(e:ExtP μ H μ' H'){a:gV}{o:HO}(h:H a=Y o)(n:μ.no a):H' a=Y o/\μ'.no a:=by
 refine#[e.keep a o n.1 h,λz=>?_,λz=>?_]
 ·obtain⟨l,q,hl⟩:=e.pre;rw[q] at z;rcases aan.mp z with z | z
  ·exact n.1 z
  ·rw[hl a z] at h;cases h
 ·obtain⟨l,q,hl⟩:=e.fb;rw[q] at z;rcases aan.mp z with z | z
  ·rw[hl a z] at h;cases h
  ·exact n.2 z
def ExtP.then(e:ExtP μ H μ' H')(f:Ext μ' H' μ'' H''):ExtP μ H μ'' H'':=by
 obtain⟨l,q,hl⟩:=e.pre;obtain⟨l',q',hl'⟩:=f.pre;refine#[by rw[f.fb];exact e.fb,#[l++l',by rw[q',q,aay],λa ha=>?_],λa o n h=>?_,f.dom]
 ·rcases aan.mp ha with ha | ha
  ·exact hl a ha
  ·have h1:=hl' a ha;cases q2:H a with
   | none=>rfl
   | some o=>
    by_cases hm:a∈μ.cs
    ·exact absurd h1 (e.dom a (by rw[q];exact aaK _ hm))
    ·rw[e.keep a o hm q2] at h1;cases h1
 ·have h1:=e.keep a o n h;refine f.keep a o (λz=>?_) h1;rw[q] at z;rcases aan.mp z with z | z
  ·exact n z
  ·rw[hl a z] at h;cases h
def ExtP.chg(e:ExtP μ H μ' H')(hp:H p=J):ExtP μ H μ' (upd H' p o):=
 ⟨e.fb,e.pre,λa o' n h=>by rw[bo (cP h hp)];exact e.keep a o' n h,λa ha=>by
  by_cases z:a=p
  ·subst z;rw[bD];simp
  ·rw[bo z];exact e.dom a ha⟩
def ExtP.ix(e:ExtP μ H μ' H'){r:Nat}{a:gV}(h:μ.cs[r]?=Y a):μ'.cs[r]?=Y a:=by
 obtain⟨l,q,z⟩:=e.pre;exact nl q h
def Rep.monoP(e:ExtP μ H μ' H'){d:D}(r:Rep K μ H v d):Rep K μ' H' v d:=r.imp e.stays e.ix
def ID(K:Ym)(μ:Fp)(H:Hp)(J0:It)(xs:List D):Prop:=
 ∀ μ' H' S',ExtP μ H μ' H'->SOk K μ' S' H'->∀ i,(∀ d,xs[i]?=Y d->J0.go i H'/\∀ x H2,J0.yld i H' x H2->Ext μ' H' μ' H2/\SOk K μ' S' H2/\Rep K μ' H2 x d)/\(xs.length<=i->J0.stop i H')
inductive iM(K:Ym)(m:MA)(σ:L2.St)(H:Hp)(R:It->Hp->Prop):Prop
 | mk (μ:Fp) (S:aa) (env:bn) (xs:List D) (S':aa) (hS:SOk K μ S H) (hE:EOk K μ H σ env) (h:m env S=Y (xs,S')) (post:∀ J0 H' μ',Ext μ H μ' H'->SOk K μ' S' H'->ID K μ' H' J0 xs->R J0 H')
def DI(X:Cx)(tg iter:sn)(m:MA):Prop:=PI X tg iter (iM X.K m)
def PI.imp{t':TI}(h:PI X tg iter t)(i:∀ σ H R,t' σ H R->t σ H R):PI X tg iter t':=λpins s σ H R I q=>h pins s σ H R I (i σ H R q)
def zq{v:V}{a:gV}{d:D}{xs:List D}(hd:d=.lst xs\/d=.rol xs)(r:Rep K μ H v d)(hv:v=.ref a):ID K μ H (Itl K a) xs:=λμ' H' S' e s i=>by
 have r':=r.monoP e
 obtain⟨vs,q,rs⟩:∃ vs,Yv K H' a vs/\Reps K μ' H' vs xs:=by
  subst hv;rcases hd with rfl | rfl
  ·obtain⟨a',vs,ea,q,z,rs⟩:=r'.sqL;cases ea;exact#[vs,.inl (.inl q),rs]
  ·obtain⟨a',vs,ea,q,rs⟩:=r'.sqR;cases ea;exact#[vs,q,rs]
 refine#[λd hd=>?_,λhl=>#[vs,q,by rw[rs.length];exact hl]];obtain⟨v,hv,rv⟩:=rs.get hd;refine#[#[vs,v,q,hv],λx H2 ⟨e2,hy⟩=>?_];subst e2;have:=hy vs q;rw[hv] at this;cases this;exact#[s.ext,s,rv]
def zD{a:gV}{xs:List D}(r:Rep K μ H (.ref a) 5.2):ID K μ H (Itt K a) xs:=λμ' H' S' e s i=>by
 obtain⟨a',vs,ea,q,rs⟩:=(r.monoP e).sqT;cases ea;refine#[λd hd=>?_,λhl=>#[vs,q,by rw[rs.length];exact hl]];obtain⟨v,hv,rv⟩:=rs.get hd;refine#[#[vs,v,q,hv],λx H2 ⟨e2,hy⟩=>?_];subst e2;have:=hy vs q;rw[hv] at this;cases this;exact#[s.ext,s,rv]
variable{tg iter:sn}
def FW(lo:Int)(n:Nat):List D:=(List.range n).map λ(i:Nat)=>D.int (lo+(i:Int))
def vD(lo:Int)(n i:Nat)(d:D)(h:(FW lo n)[i]?=Y d):i<n/\d=.int (lo+(i:Int)):=by
 unfold FW at h;rw[aaP] at h;cases q:(List.range n)[i]? with
 | none=>rw[q] at h;cases h
 | some j=>
  rw[q] at h;cases h;obtain⟨h1,h2⟩:=aaa.mp q;simp at h1 h2;exact#[h1,by rw[h2]]
def tT(lo:Int)(n:Nat):ID K μ H (Itr lo n) (FW lo n):=λμ' H' S' e s i=>by
 refine#[λd hd=>?_,λhl=>?_]
 ·obtain⟨h1,rfl⟩:=vD lo n i d hd;refine#[h1,λx H2 ⟨e2,hy⟩=>?_];subst e2 hy;exact#[s.ext,s,.int _]
 ·have:(FW lo n).length=n:=by simp[FW]
  rw[this] at hl;exact hl
noncomputable def cC(ms:MA):MA:=λenv S=>(ms env S).bind λp=>match p.1 with | [.int j]=>if -(2^62)<=j/\j<2^62 then Y (FW 0 j.toNat,p.2) else J | _=>J
theorem Mp{a:sn}{p:Pos}(hm:X.mg "range" = J)(ha:DA X [a] ms)(hg:Gl X "range":=by rfl)(hs:Pi [a] X.env=[4.9]:=by rfl):DI X tg (.Call (.Name "range" p) [a] [] pos) (cC ms):=
 PI.imp (fJ hg hm ha hs) λσ H R z0=>by
  obtain⟨μ,S,env,xs,S',hS,hE,hm,post⟩:=z0;obtain⟨ds,S1,h1,hm⟩:=dQ hm;refine#[μ,S,env,ds,S1,hS,hE,h1,λvs H1 μ1 e1 s1 r1=>?_];dsimp only at hm;split at hm
  ·split at hm
   ·rename_i hb;cases hm;obtain⟨v,rfl,r⟩:=r1.one;exact#[_,by rw[r.int_inv],hb.1,hb.2,post _ H1 μ1 e1 s1 (tT 0 _)]
   ·cases hm
  ·cases hm
def AI(g:MG)(body:MS):List D->bn->aa->Option qz
 | [],env,S=>Y 1.16
 | d::ds,env,S=>(g d env S).bind λp=>(body p.1 p.2).bind λo=>match o with
  | .nx e s=>AI g body ds e s
  | .ct e s=>AI g body ds e s
  | .bk e s=>Y 3.00
  | .rt d s=>Y 2.98
noncomputable def hZ(mi:MA)(g:MG)(body:MS):MS:=λenv S=>(mi env S).bind λp=>AI g body p.1 env p.2
inductive FoJ{α:Type}(K:Ym)(μ1:Fp)(H1:Hp)(P:Fp->Hp->α->Prop)(f:bn->aa->Option α)(σ:L2.St)(H:Hp):Prop
 | mk (μ':Fp) (S':aa) (env':bn) (o':α) (e:Ext μ1 H1 μ' H) (s:SOk K μ' S' H) (r:EOk K μ' H σ env') (h:f env' S'=Y o') (p:P μ' H o')
theorem QS{mb:MS}(hp:PassesOwn 0.2 X.A X.env X.xe)(hc:X.calm=true)(hi:DI X tg iter mi)(hg:DG X tg g)(hb:SM X body mb)
  (hs:∀ x,Qf iter X.env x=pure x:=by intro w;rfl):DS X 1.19 (hZ mi g mb):=PS.imp (aS hp hc hi hg hb hs) λE σ H z0=>by
 obtain⟨μ,S,env,o,hS,hE,hm,post⟩:=z0;obtain⟨xs,S1,h1,hm⟩:=dQ hm;refine#[μ,S,env,xs,S1,hS,hE,h1,λJ0 H1 μ1 e1 s1 it=>?_]
 refine⟨λi n σ H=>n=xs.length - i/\i<=xs.length/\FoJ X.K μ1 H1 (λμ H o=>PostS X.K μ H o E) (AI g mb (xs.drop i)) σ H,
  #[xs.length,by simp,abG _,μ1,S1,env,o,s1.ext,s1,hE.mono e1,by rw[acz];exact hm,post.ext e1],?_⟩
 rintro i n σ' H' ⟨rfl,hi,μ',S',env',o',e',s',r',hl,post'⟩;have iti:=it μ' H' S' e'.toP s' i;by_cases hlt:i<xs.length
 ·refine .inr ⟨(iti.1 xs[i] (aae hlt)).1,FoJ X.K μ1 H1 (λμ H o=>PostS X.K μ H o E) (AI g mb (xs.drop (i+1))),
   λσ2 H2 z=>#[xs.length - (i+1),by omega,rfl,hlt,z],λx H2 y=>?_⟩
  obtain⟨e2,s2,rx⟩:=(iti.1 xs[i] (aae hlt)).2 x H2 y;rw[abu hlt] at hl;obtain⟨env3,S3,h3,hl⟩:=dQ hl;obtain⟨o4,h4,hl⟩:=gA hl;refine#[μ',S',env',xs[i],env3,S3,s2,r'.mono e2,rx,h3,λσ3 H3 μ3 e3 s3 r3=>#[μ3,S3,env3,o4,s3,r3,h4,?_]];have eT:Ext μ1 H1 μ3 H3:=(e'.trans e2).trans e3;have pT:PostS X.K μ3 H3 o' E:=(post'.ext e2).ext e3;cases o4 with
  | nx e5 s5=>exact λσ6 H6 μ6 e6 s6 r6=>#[μ6,s5,e5,o',eT.trans e6,s6,r6,hl,pT.ext e6]
  | ct e5 s5=>exact λσ6 H6 μ6 e6 s6 r6=>#[μ6,s5,e5,o',eT.trans e6,s6,r6,hl,pT.ext e6]
  | bk e5 s5=>cases hl;exact pT
  | rt d5 s5=>cases hl;exact pT
 ·have e:i=xs.length:=by omega
  subst e;refine .inl #[iti.2 (aas _),?_];rw[List.drop_length] at hl;cases hl;exact post' σ' H' μ' s'.ext s' r'
def Od(cap:List 0.9)(env:bn):bn:=cap.map λo=>o.bind λi=>(env[i]?).join
def Sb(X:Cx)(ifs:List sn)(m:MT):Prop:=VH X ifs (Ga X.K m)
def iB:Sb X [] (λz S=>Y (true,S)):=λpins s σ H Q I ⟨μ,S,env,b,S',hS,hE,hm,post⟩=>by cases hm;exact nr pins s σ H Q I (post H μ hS.ext hS)
def mw{c:sn}(h:DT X c t):Sb X [c] t:=bw h
def KQ(g:MG)(t:MT)(e:ME):List D->bn->aa->Option (List D×aa)
 | [],_,S=>Y ([],S)
 | d::ds,env,S=>(g d env S).bind λp=>(t p.1 p.2).bind λb=>if b.1=true then(e p.1 b.2).bind λq=>(KQ g t e ds p.1 q.2).bind λr=>Y (q.1::r.1,r.2) else KQ g t e ds p.1 b.2
noncomputable def ci(mi:MA)(g:MG)(t:MT)(e:ME)(cap:List 0.9):ME:=λenv S=>(mi env S).bind λp=>if p.1.length<=Ph then(KQ g t e p.1 1.82 p.2).bind λq=>Y (.lst q.1,q.2) else J
inductive CpJ(K:Ym)(μ1:Fp)(H1:Hp)(p:gV)(R:bn->aa->List D->Prop)(ys:List D)(i:Nat)(σ:L2.St)(H:Hp):Prop
 | mk (cs:List gV) (S:aa) (env:bn) (vs:List V) (zs rest:List D) (eP:ExtP μ1 H1 #[cs,p::μ1.fb] H) (s:SOk K #[cs,p::μ1.fb] S H) (r:EOk K #[cs,p::μ1.fb] H σ env) (hp:H p=Y 1.08) (rz:Reps K #[cs,p::μ1.fb] H vs zs) (hl:R env S rest) (hy:ys=zs++rest) (hv:vs.length<=i)
def CpJ.start{R:bn->aa->List D->Prop}(s1:SOk K μ1 S H1)(hE:EOk K μ1 H1 σ env)(hp:H1 p=J)(h:R env S ys):CpJ K μ1 H1 p R ys 0 σ (upd H1 p (.lst [])):=
 .mk μ1.cs S env [] [] ys ⟨#[[p],rfl,λa z=>by rw[aat.mp z];exact hp],#[[],by simp,λw z=>by simp at z],λa o' n h=>by rw[bo (cP h hp)];exact h,λa ha=>by
  by_cases z:a=p
  ·subst z;rw[bD];simp
  ·rw[bo z];exact s1.dom a ha⟩ (s1.more hp) (hE.more hp) bD .nil h rfl (aas _)
noncomputable abbrev CcJ(K:Ym)(μ1:Fp)(H1:Hp)(p:gV)(f:List D->bn->aa->Option (List D×aa))(xs ys:List D)(S2:aa)(i n:Nat)(σ':L2.St)(H':Hp):Prop:=n=xs.length - i/\i<=xs.length/\CpJ K μ1 H1 p (λenv S rest=>f (xs.drop i) env S=Y (rest,S2)) ys i σ' H'
def sx{mi:MA}{g:MG}{t:MT}{e:ME}{cap:List 0.9}{σ:L2.St}{Q:VK}(h:tM K (ci mi g t e cap) σ H Q):IJ (iM K mi) (VM K g) (Ga K t) (tM K e) cap σ H Q:=by
 obtain⟨μ,S,env,d,S',hS,hE,hm,post⟩:=h;obtain⟨xs,S1,h1,hm⟩:=dQ hm;dsimp only at hm;split at hm
 case isFalse=>cases hm
 rename_i hsz;obtain⟨ys,S2,h2,hm⟩:=dQ hm;cases hm;refine#[μ,S,env,xs,S1,hS,hE,h1,λJ0 H1 μ1 e1 s1 it p hp=>?_];have hpn:=s1.notMem hp;refine#[CcJ K μ1 H1 p (KQ g t e) xs ys S2,#[xs.length,by simp,abG _,.start s1 ((hE.mono e1).block cap) hp (by rw[acz];exact h2)],?_];rintro i n σ' H' ⟨rfl,hi,c⟩;cases c with | mk cs S' env' vs zs rest eP s' r' hpv rz hl hy hvl=>?_
 subst hy;have iti:=it _ H' S' eP s' i;by_cases hlt:i<xs.length
 ·refine .inr #[(iti.1 xs[i] (aae hlt)).1,λx H2 y=>?_];obtain⟨e2,s2,rx⟩:=(iti.1 xs[i] (aae hlt)).2 x H2 y;rw[abu hlt] at hl;obtain⟨env3,S3,h3,hl⟩:=dQ hl;obtain⟨b,S4,h4,hl⟩:=dQ hl;refine#[_,S',env',xs[i],env3,S3,s2,r'.mono e2,rx,h3,λσ3 H3 μ3 e3 s3 r3=>#[μ3,S3,env3,b,S4,s3,r3,h4,λH4 μ4 e4 s4=>?_]];have eA:=(e2.trans e3).trans e4;have pcs:p∉cs:=λz=>s'.disj p aab z;cases b with
  | false=>
   rw[if_neg aeI] at hl;rw[if_neg aeI];obtain⟨cs4,fb4⟩:=μ4;have hfb:fb4=p::μ1.fb:=eA.fb;subst hfb;exact#[xs.length - (i+1),by omega,rfl,hlt,.mk cs4 S4 env3 vs zs rest (eP.then eA) s4 (r3.mono e4) (eA.keeps hpv pcs).1 (rz.mono eA) hl rfl 0.0]
  | true=>
   rw[aam rfl] at hl;rw[aam rfl];obtain⟨dv,S5,h5,hl⟩:=dQ hl;obtain⟨rs,S6,h6,hl⟩:=dQ hl;cases hl;refine#[μ4,S4,env3,dv,S5,s4,r3.mono e4,h5,λv H5 μ5 e5 s5 r5=>?_];have eB:=eA.trans e5;obtain⟨cs5,fb5⟩:=μ5;have hfb:fb5=p::μ1.fb:=eB.fb;subst hfb;refine#[vs,(eB.keeps hpv pcs).1,by omega,xs.length - (i+1),by omega,rfl,hlt,.mk cs5 S5 env3 (vs++[v]) (zs++[dv]) rs ((eP.then eB).chg hp) (s5.chg aab) (((r3.mono e4).mono e5).chg aab) bD (Reps.chg aab ((rz.mono eB).append (.cons r5 .nil))) h6 0.3 (by rw[aal,aaW];omega)]
 ·have e:i=xs.length:=by omega
  subst e;refine .inl #[iti.2 (aas _),?_];rw[List.drop_length] at hl;cases hl;have eF:Ext μ1 H1 #[cs,μ1.fb] H':=#[rfl,eP.pre,eP.keep,eP.dom]
  dsimp only at post;rw[aaF] at post;exact post _ H' #[cs,μ1.fb] (e1.trans eF) s'.less (.lst hpv #[λz=>s'.disj p aab z,hpn.2] rz.less)
theorem Vl{cap:List 0.9}
  (hc:X.calm=true) (B:BlockOk X N' scope cap) (hi:DI X tg iter mi) (hg:∀ C s H fp,DG 0.5 tg g) (ht:∀ C s H fp,Sb 0.5 ifs t) (he:∀ C s H fp,DE 0.5 elt me)
  (hs:∀ x,Qf iter X.env x=pure x:=by intro z;rfl):DE X 1.1 (ci mi g t me cap):=
 PE.imp (ib (g:=VM X.K g) (tt:=Ga X.K t) (te:=tM X.K me) hc B hi hg ht he hs) λz z z h=>sx h
theorem HX{spos:Pos}{cap:List 0.9}{i:Nat}
  (hN:X.N.Nodup) (hy:X.N[i]?=Y y) (hx:Nb X.env.scope y)
  (hc:X.calm=true) (B:BlockOk X N' scope cap) (hi:DI X tg iter mi) (hg:∀ C s H fp,DG 0.5 tg g) (ht:∀ C s H fp,Sb 0.5 ifs t) (he:∀ C s H fp,DE 0.5 elt me)
  (hsw:swapsWith 1.1 (Y 1.85) spos.line X.env=pure true:=by rfl)
  (hs:∀ x,Qf iter X.env x=pure x:=by intro z;rfl) (hf:X.fn y=true\/X.env.scope.names.lookup y=Y .local:=by first | exact .inl rfl | exact .inr rfl | assumption) :
  DS X 2.66 (aN (ci mi g t me cap) (ai i)):=
 PS.imp (vF (g:=VM X.K g) (tt:=Ga X.K t) (te:=tM X.K me) hN hy hx hc B hi hg ht he hsw hs hf) λE σ H h=>by
  obtain⟨μ,S,env,o,hS,hE,hm,post⟩:=h;obtain⟨d,S1,h1,hm⟩:=dQ hm;cases hm;exact sx #[μ,S,env,d,S1,hS,hE,h1,λv H1 μ1 e1 s1 r1=>post _ H1 μ1 e1 s1 ((hE.mono e1).set r1 i)]
end
section
variable{X:Cx}{K:Ym}{μ μ':Fp}{H H':Hp}{S:aa}{pos p2:Pos}{tg iter:sn}{m:ME}
def Ld(N N':List Str)(kX kB:Str->Option NameKind):List 0.9->List Str->Bool
 | [],[]=>true
 | none::r,_::s=>Ld N N' kX kB r s
 | some i::r,y::s=>N[i]?==Y y&&(kX y==Y .cell||kX y==Y .free)&&(kB y==Y .cell||kB y==Y .free)&&Ld N N' kX kB r s
 | _,_=>false
def uI:∀ {cap:List 0.9} {ys:List Str},Ld N N' kX kB cap ys=true->cap.length=ys.length/\∀ (j i:Nat),cap[j]?=Y (Y i)->∃ y,ys[j]?=Y y/\N[i]?=Y y/\(kX y=Y .cell\/kX y=Y .free)/\(kB y=Y .cell\/kB y=Y .free)
 | [],[],_=>#[rfl,λj i e=>by simp at e]
 | none::r,y::s,h=>by
  obtain⟨h1,h2⟩:=uI (cap:=r) (ys:=s) h;refine#[by simp[h1],λj i e=>?_];cases j with
  | zero=>simp at e
  | succ j=>simpa using h2 j i (by simpa using e)
 | some k::r,y::s,h=>by
  rw[Ld,aag,aag,aag,acs,acs] at h;obtain⟨h1,h2⟩:=uI (cap:=r) (ys:=s) h.2;refine#[by simp[h1],λj i e=>?_];cases j with
  | zero=>
   simp at e;subst e;refine#[y,rfl,by simpa using h.1.1.1,?_,?_]
   ·exact h.1.1.2.imp (λz=>by simpa using z) λz=>by simpa using z
   ·exact h.1.2.imp (λz=>by simpa using z) λz=>by simpa using z
  | succ j=>simpa using h2 j i (by simpa using e)
 | [],_::_,h=>by simp[Ld] at h
 | none::_,[],h=>by simp[Ld] at h
 | some _::_,[],h=>by simp[Ld] at h
def blk{N':List Str}{scope:Scope}{cap:List 0.9}(nd:N'.Nodup)(k:scope.kind=.function:=by rfl)(nc:(scope.names.all λx=>x.2 != .cell)=true:=by rfl)(nm:(scope.names.all λx=>x.2 != .local||scope.names.lookup x.1==Y .local)=true:=by rfl)
  (fr:(scope.names.all λx=>x.2 != .free||X.env.kindOf x.1==Y .cell||X.env.kindOf x.1==Y .free)=true:=by rfl)
  (cp:Ld X.N N' X.env.kindOf (λy=>(relabel scope X.env).names.lookup y) cap N'=true:=by rfl):BlockOk X N' scope cap:=by
 obtain⟨h1,h2⟩:=uI cp;refine#[k,λx hx=>?_,λx hx hl=>?_,λx hx hf=>?_,nd,h1,λj i e=>?_]
 ·have:=aaE.mp nc x hx;simpa using this
 ·have:=aaE.mp nm x hx;simpa[hl] using this
 ·have:=aaE.mp fr x hx;simpa[hf] using this
 ·obtain⟨y,a,b,c,d⟩:=h2 j i e;exact#[y,a,b,.inr c,c,d]
def xy(hl:PE X l tl):PI X tg l (λσ H R=>tl σ H λx H1=>∃ a,x=.ref a/\(((∃ xs,Yv X.K H1 a xs)/\R (Itl X.K a) H1)\/((∃ xs,DF X.K H1 a xs)/\R (Itt X.K a) H1))):=by
 intro pins s σ H R I h;refine ee 2.14 λv s1 ⟨x,H1,I1,r1,q1⟩=>?_;obtain⟨a,e,⟨⟨xs,hq⟩,q⟩ | ⟨⟨xs,hq⟩,q⟩⟩:=q1
 ·subst e;cases r1;obtain⟨its,rv,p,hz⟩:=I1.list hq;refine acP p.isList ?_;refine#[s1.heap.objs.size,[s1.heap.objs.size],_,_,H1,rfl,I1.kept (t':=s1.toks) λb o e=>aak _ e,yD a _,#[_,aaC _ rfl,rfl,rfl],λb hb=>?_,q];have e:b=s1.heap.objs.size:=by simpa using hb
  subst e;exact I1.fpOk (aas _) 8.9
 ·subst e;cases r1;obtain⟨its,rv,p,hz⟩:=I1.tuple hq;refine acl (show s1.heap.IsTuple a its.toArray from p) ?_;refine#[s1.heap.objs.size,[s1.heap.objs.size],_,_,H1,rfl,I1.kept (t':=s1.toks) λb o e=>aak _ e,bh a _,#[_,aaC _ rfl,rfl,rfl],λb hb=>?_,q];have e:b=s1.heap.objs.size:=by simpa using hb
  subst e;exact I1.fpOk (aas _) 8.9
noncomputable def dT(m:ME):MA:=λenv S=>(m env S).bind λp=>match p.1 with | .lst xs=>Y (xs,p.2) | .rol xs=>Y (xs,p.2) | .tup xs=>Y (xs,p.2) | _=>J
theorem Ik(h:DE X iter m):DI X tg iter (dT m):=PI.imp (xy h) λσ H R z0=>by
 obtain⟨μ,S,env,xs,S',hS,hE,hm,post⟩:=z0;obtain⟨d,S1,h1,hm⟩:=dQ hm;refine#[μ,S,env,d,S1,hS,hE,h1,λv H1 μ1 e1 s1 r1=>?_];cases d with
 | lst ys=>
  cases hm;have r1':=r1;obtain⟨a,vs,rfl,q,z,rs⟩:=r1.sqL;exact#[a,rfl,.inl #[#[vs,.inl (.inl q)],post _ H1 μ1 e1 s1 (zq 4.6 r1' rfl)]]
 | rol ys=>
  cases hm;have r1':=r1;obtain⟨a,vs,rfl,q,rs⟩:=r1.sqR;exact#[a,rfl,.inl #[#[vs,q],post _ H1 μ1 e1 s1 (zq 3.22 r1' rfl)]]
 | tup ys=>
  cases hm;have r1':=r1;obtain⟨a,vs,rfl,q,rs⟩:=r1.sqT;exact#[a,rfl,.inr #[#[vs,q],post _ H1 μ1 e1 s1 (zD r1')]]
 | _=>cases hm
end
def Gw(N:List Str)(m:MS)(n:Nat):List D->aa->Option (D×aa):=λds S=>if ds.length=n then(m 2.97 S).bind λo=>match o with | .rt d S'=>Y (d,S') | .nx _ S'=>Y (.non,S') | _=>J else J
def yR{S':aa}{d:D}(h:Gw N m n ds S=Y (d,S')):Runs m 2.97 S d S':=by
 unfold Gw at h;split at h
 ·obtain⟨o,h1,h⟩:=gA h;cases o with
  | rt d' S2=>cases h;exact .ret h1
  | nx e S2=>cases h;exact#[_,[],h1,.inl rfl,.inr #[rfl,e,by rw[aaF]]]
  | bk _ _=>cases h
  | ct _ _=>cases h
 ·cases h
structure bW(K:Ym)(mg:Str->Option ab)(x:Str)(st:Kw):Prop where
 ex:∃ (a:gV) (fd:FuncData),L2.Fun K x x st a fd/\mg x=Y (.ref a)
def VT(x:Str)(st:Kw)(ps:List Str):Prop:=∀ (Yx doc pm:ab) (an:Option gV) (cdv ct:ab) (us:List ab),us.length=ps.length->bindArgs (W.fnOf x x (Tc st) (SH st) (Xt st) .none Yx doc pm an cdv ct) #[us,[]]=pure 2.01
def pZ{K:Ym}{k:Nat}{st:Kw}
  (F:bW K mg x st) (Sc:aU N ps (Xt st)) (hb:VT x st ps)
  (hbody:∀ (a:gV) (cdv:ab) (A:NF) (outer:List PySem.Env) (s:ce) (H:Hp) (E:XK),Room k (A.deeper (envOfC x (Xt st) s.heap.objs.size a cdv)) ->
   SM (GA Ke P w K mg base N x (Xt st) a cdv A outer s H E).nox (SH st) m) :
  Fn P w K mg base (k+1) x ps.length (Gw N m ps.length):=by
 obtain⟨a,fd,F,hmg⟩:=F.ex;exact my F Sc hmg (F.binds hb) λcdv A outer s H E hr=>#[m,hbody a cdv A outer s H E hr,λds S d S' hn hS hd h=>yR h]
def Fn.up{K:Ym}{k k':Nat}(F:Fn P w K mg base k x n f)(h:k<=k':=by decide):Fn P w K mg base k' x n f:=by
 obtain⟨a,fd,ps,h1,h2,h3⟩:=F.ex;exact#[a,fd,ps,h1,h2.mono h,h3]
def nI{K:Ym}{f:List D->aa->Option (D×aa)}(h:∀ ns:List Int,ns.length<=63->∃ S',f [.rol 2.0] []=Y (.bl true,S')){ns:List Int}(hl:ns.length<=63)(hS:Yv K H a 9.2) :
  NM K 1 f [.ref a] H (λv z=>v=.bl true) E:=by
 obtain⟨S',hf⟩:=h ns hl
 have hr:∀ l:List Int,Reps K #[[],[]] H (l.map V.int) (l.map D.int):=λl=>by
  induction l with
  | nil=>exact .nil
  | cons x l ih=>exact .cons (.int x) ih
 refine#[#[[],[]],[],_,_,S',#[acy,rfl,λr a c h=>by simp at h,λa h=>by simp at h,λa h=>by simp at h],.cons ?_ .nil,rfl,hf,λv H' μ' e s r=>r.bl_inv];rcases hS with hS | hS
 ·exact .rol hS #[by simp,by simp] (hr ns)
 ·exact .krol hS (hr ns)
def LP(_:aa)(x:D):Option D:=match x with | .int i=>Y (.int (-i)) | _=>J
def nD:UnR X (unaryOp .USub) (rM1 X.K LP):=rN
noncomputable def cf:MT:=λz S=>Y (true,S)
theorem QN:Sb X [] cf:=iB
def oN{K:Ym}{k:Nat}{st:Kw}(F:bW K mg "law" st)(hfa:mg "law" = Y (.ref fa))(Sc:aU N ["_law_script"] (Xt st))
  (hbt:∀ (Yx doc pm:ab) (an:Option gV) (cdv ct v:ab),bindArgs (W.fnOf "law" "law" (Tc st) (SH st) (Xt st) .none Yx doc pm an cdv ct) #[[v],[]]=pure [(("_law_script":Str),v)])
  (hbody:∀ (base:NY) (a:gV) (cdv:ab) (A:NF) (outer:List PySem.Env) (s:ce) (H:Hp) (E:XK),Room k (A.deeper (envOfC "law" (Xt st) s.heap.objs.size a cdv)) ->
   SM (GA Ke P w K mg base N "law" (Xt st) a cdv A outer s H E).nox (SH st) m) :
  ∃ fd:FuncData,(∀ (s:ce) (v:ab),BindsTo s fd #[[v],[]] [("_law_script",v)])/\∀ base:NY,K.In base->base.Ns Tx mg->FnOk P w K mg base Ke (k+1) fa fd ["_law_script"] (NM K 1 (Gw N m 1)):=by
 obtain⟨a,fd,F,hmg⟩:=F.ex;rw[hfa] at hmg;have e:fa=a:=by cases hmg;rfl
 subst e;refine#[fd,λs v=>?_,λbase z z=>wZ F Sc λcdv A outer s H E hr=>#[m,hbody base fa cdv A outer s H E hr,λds S d S' hn hS hd h=>yR h]];obtain⟨oc,od,Yx,doc,pm,an,cdv,ct,osl,rfl,lk,hcd⟩:=F.ex;exact .of_eq (hbt Yx doc pm an cdv ct v)
end M
namespace HT
open AutoSeq1 (wpAny_loadPart')
theorem GL:fillsNumberSlot (.type "tuple") "mul" = pure false:=
 PySem.fillsNumberSlot_seq (id:="tuple.__mul__") (r:=Y (.builtin "tuple.__rmul__"))
  F.slot_tuple_mul.lookup (by decide +kernel) F.slot_tuple_rmul.lookup (by decide +kernel)
theorem Xp:seqRepeat? (.type "tuple")=pure (Y (.builtin "tuple.__mul__")):=by
 unfold seqRepeat?;rw[PySem.seqSlot_of (T:="tuple") (name:="__mul__") (id:="tuple.__mul__") F.slot_tuple_mul.lookup (by decide +kernel)];rw[PySem.seqSlot_of (T:="tuple") (name:="__rmul__") (id:="tuple.__rmul__") F.slot_tuple_rmul.lookup (by decide +kernel)];rfl
theorem Oa(a:Int)(t:Tok)(l:gV)(items:Array ab)(n:Nat)(dd:Option gV)(sl:Array 1.39) :
  Meets (Builtin.«int.__rmul__» #[[.int a t,.ref l],[]]) (λz R s=>s.heap.get? l=Y #[.type "tuple",dd,.seq items n,sl]/\R (.ok (.ret Value.notImplemented)) s):=
 .of_wp λprog w A R s h=>by
  obtain⟨hp,g,d,tk,os⟩:=s;obtain⟨hl,h⟩:=h
  wp_walk
  exact#[_,rfl,h]
def mulT0(l:gV)(items:Array ab)(n:Nat)(k:Int)(t:Tok)(dd:Option gV)(sl:Array 1.39)(h1:¬ (decide (k < -(2^63))||decide (k≥2^63))=true)(hc:(items.isEmpty||k==1)=true) :
  Meets (Builtin.«tuple.__mul__» #[[.ref l,.int k t],[]]) (λz R s=>s.heap.get? l=Y #[.type "tuple",dd,.seq items n,sl]/\R (.ok (.ret (.ref l))) s):=
 .of_wp λprog w A R s h=>by
  obtain⟨hp,g,d,tk,os⟩:=s;obtain⟨hl,h⟩:=h;have f1:=adJ;have f2:=acS
  wp_walk using wpAny_loadPart' hl
  rw[if_neg h1]
  wp_walk using wpAny_loadPart' hl
  exact#[_,rfl,h]
def mulT1(l:gV)(items:Array ab)(n:Nat)(k:Int)(t:Tok)(dd:Option gV)(sl:Array 1.39)(h1:¬ (decide (k < -(2^63))||decide (k≥2^63))=true)(hc:¬ (items.isEmpty||k==1)=true)(hk:(decide (k<=0)||items.isEmpty)=true) :
  Meets (Builtin.«tuple.__mul__» #[[.ref l,.int k t],[]]) (λz R s=>s.heap.get? l=Y #[.type "tuple",dd,.seq items n,sl]/\R (.ok (.ret 3.3)) { s with heap:=s.heap.push { cls:=.type "tuple",data:=.seq (List.toArray []) },toks:=s.toks }):=
 .of_wp λprog w A R s h=>by
  obtain⟨hp,g,d,tk,os⟩:=s;obtain⟨hl,h⟩:=h;have f1:=adJ;have f2:=acS
  wp_walk using wpAny_loadPart' hl
  rw[if_neg h1]
  wp_walk using wpAny_loadPart' hl
  exact#[_,rfl,h]
def mulT2(l:gV)(items:Array ab)(n:Nat)(k:Int)(t:Tok)(dd:Option gV)(sl:Array 1.39)(h1:¬ (decide (k < -(2^63))||decide (k≥2^63))=true)(hc:¬ (items.isEmpty||k==1)=true)(hk:¬ (decide (k<=0)||items.isEmpty)=true)
  (hb:¬ ((items.size:Int)*k>(2^63 - 1) / 8)) (hm:¬ Builtin.Tuple.tupleTooMany ((items.size:Int)*k)=true) (hz:(List.foldl (λx1 x2=>x1++x2) (List.toArray []) (ZB k.toNat items)).size<=Ph) :
  Meets (Builtin.«tuple.__mul__» #[[.ref l,.int k t],[]]) (λz R s=>s.heap.get? l=Y #[.type "tuple",dd,.seq items n,sl]/\R (.ok (.ret 3.3)) { s with heap:=s.heap.push { cls:=.type "tuple",data:=.seq (List.foldl (λx1 x2=>x1++x2) (List.toArray []) (ZB k.toNat items)) },toks:=s.toks }):=
 .of_wp λprog w A R s h=>by
  obtain⟨hp,g,d,tk,os⟩:=s;obtain⟨hl,h⟩:=h;have f1:=adJ;have f2:=acS
  wp_walk using wpAny_loadPart' hl
  rw[if_neg h1]
  wp_walk using wpAny_loadPart' hl
  rw[if_neg hb]
  wp_walk using wpAny_loadPart' hl
  exact#[_,rfl,h]
end HT
namespace L2
section
variable{X:Cx}
def vrep(h:Vals xs us):∀ k:Nat,Vals (ZB k xs).flatten (ZB k us).flatten
 | 0=>.nil
 | k+1=>by rw[aaR,aaR,abl,abl];exact h.append (vrep h k)
def frep(its:List ab):∀ (m:Nat) (acc:List ab),List.foldl (λx1 x2=>x1++x2) acc.toArray (ZB m its.toArray)=(acc++(ZB m its).flatten).toArray
 | 0=>λacc=>by simp
 | m+1=>λacc=>by
  rw[aaR,List.foldl_cons,List.append_toArray,frep its m (acc++its),aaR,abl,aay]
noncomputable def rRepT(K:Ym):R2:=λx y H Q=>∃ a k xs,x=.ref a/\y=.int k/\DF K H a xs/\-(2^62)<=k/\k<2^62/\xs.length*k.toNat<=Ph /\
 ((xs=[]\/k=1)->Q (.ref a) H)/\((xs≠[]/\k≠1)->∀ p,H p=J->Q (.ref p) (upd H p (.tup (ZB k.toNat xs).flatten)))
def jw:OpR X 3.15 (rRepT X.K):=by
 intro pins s σ H x y v u Q I rx ry h;obtain⟨l,k,xs,rfl,rfl,hq,h1,h2,hz,q1,q2⟩:=h;cases rx;obtain⟨t,rfl⟩:=ry;obtain⟨its,r,hT,hzz⟩:=I.tuple hq;obtain⟨⟨cls,dd,data,sl⟩,e,hc,n,hd⟩:=id hT;simp only at hc hd;subst hc hd;have hlen:xs.length=its.length:=r.length;have g1:¬ (decide (k < -(2^63))||decide (k≥2^63))=true:=by simp;omega
 have road:∀ {S:PySem.Spec},Meets (Builtin.«tuple.__mul__» #[[.ref l,.int k t],[]]) S->S X.A (wants 4.7 X.xe) s->Xr 0.2 X.A (VR .Mult (.ref l) (.int k t)) 4.7 X.xe s:=λM hS=>
  adY (T:="tuple") (U:="int") 0.1 #[_,e,rfl] (λs'=>adv s' k t) HT.GL F.fills_int_mul adh HT.Xp F.slot_int_index.lookup
   (acj adh (adv s k t) F.entry_int_rmul (F.args_int_rmul_2 _ _) (HT.Oa k t l its.toArray n dd sl)
    #[e,rfl,#[_,e,rfl],acj F.slot_tuple_mul #[_,e,rfl] F.entry_tuple_mul (F.args_tuple_mul_2 _ _) M hS])
 by_cases hs:xs=[]\/k=1
 ·have hcc:(its.toArray.isEmpty||k==1)=true:=by
   rcases hs with rfl | rfl
   ·cases r;rfl
   ·simp
  exact road (HT.mulT0 l its.toArray n k t dd sl g1 hcc) #[e,.ref l,H,I,rfl,q1 hs]
 ·have hx:xs≠[]:=λz=>hs (.inl z);have hk1:k≠1:=λz=>hs (.inr z);have hi:its≠[]:=λz=>by subst z;cases r;exact hx rfl
  have hcc:¬ (its.toArray.isEmpty||k==1)=true:=by simp[hi,hk1]
  by_cases hk:k<=0
  ·have hk':(decide (k<=0)||its.toArray.isEmpty)=true:=by simp[hk]
   have k0:k.toNat=0:=by omega
   refine road (HT.mulT1 l its.toArray n k t dd sl g1 hcc hk') #[e,.ref _,_,I.laid (o:=.tup []) (λw w q=>aak _ q) (aas _) #[by simp,[],.nil,#[_,aaC _ rfl,rfl,#[0,rfl],rfl]],rfl,?_];have:=q2 #[hx,hk1] s.heap.objs.size I.fresh;rw[k0] at this;exact this
  ·have hk':¬ (decide (k<=0)||its.toArray.isEmpty)=true:=by simp[hi];omega
   have km:(k.toNat:Int)=k:=by omega
   have hpr:((its.length:Int)*k)<=Ph:=by rw[<- km,<- hlen];exact_mod_cast hz
   have hsl:((Ph:Nat):Int)<=(2^63 - 1) / 8:=by decide
   have hf:=frep its k.toNat [];rw[abW] at hf;have hf':List.foldl (λx1 x2=>x1++x2) (List.toArray []) (ZB k.toNat its.toArray)=(ZB k.toNat its).flatten.toArray:=hf;have hl2:(ZB k.toNat its).flatten.length<=Ph:=by rw[kE,<- hlen,adB];exact hz
   refine road (HT.mulT2 l its.toArray n k t dd sl g1 hcc hk' (by rw[aah];omega) (by unfold Builtin.Tuple.tupleTooMany;rw[aah];simp;omega) (by rw[hf',aah];exact hl2)) #[e,?_];rw[hf'];exact#[.ref _,_,I.laid (o:=.tup (ZB k.toNat xs).flatten) (λw w q=>aak _ q) (aas _) #[by rw[kE,adB];exact hz,(ZB k.toNat its).flatten,vrep r _,#[_,aaC _ rfl,rfl,#[0,rfl],rfl]],rfl,q2 #[hx,hk1] _ I.fresh]
end
end L2
namespace M
open L2
section
variable{X:Cx}{K:Ym}{μ μ':Fp}{H H':Hp}{S:aa}
def Tt(S:aa)(x y:D):Option D:=match x,y with
 | .tup xs,.int k=>if -(2^62)<=k/\k<2^62/\xs.length*k.toNat<=Ph then Y (.tup (ZB k.toNat xs).flatten) else J
 | .lst xs,.int k=>if -(2^62)<=k/\k<2^62/\xs.length*k.toNat<=Ph then Y (.lst (ZB k.toNat xs).flatten) else J
 | x,y=>Zh S x y
def flat1{α:Type}(xs:List α):(ZB 1 xs).flatten=xs:=by simp
def uO:OpR X 3.15 (nA X.K Tt):=OpR.imp (OpR.or kP (OpR.or jw kC)) λx y H Q z0=>by
 obtain⟨μ,S,dx,dy,dz,hS,h1,h2,h3,post⟩:=z0;unfold Tt at h3;split at h3
 ·rename_i xs k;split at h3
  ·rename_i hk;cases h3;obtain⟨a,vs,rfl,q,r⟩:=h1.sqT;have h1':=h1;refine .inr (.inl #[a,k,vs,rfl,h2.int_inv,q,hk.1,hk.2.1,by rw[r.length];exact hk.2.2,λhs=>?_,λz p hp=>post.tup hS hp (Reps.flat _ r)])
   have e:(ZB k.toNat xs).flatten=xs:=by
    rcases hs with rfl | rfl
    ·cases r;simp
    ·exact flat1 xs
   rw[e] at post;exact post.here hS h1'
  ·cases h3
 ·rename_i xs k;split at h3
  ·rename_i hk;cases h3;obtain⟨a,vs,rfl,q,n,r⟩:=h1.sqL;exact .inr (.inr #[a,k,vs,rfl,h2.int_inv,q,by omega,by omega,by rw[r.length];exact hk.2.2,λp hp=>post.lst hS hp (Reps.flat _ r)])
  ·cases h3
 ·exact .inl #[μ,S,dx,dy,dz,hS,h1,h2,h3,post]
noncomputable abbrev MF:=D->List D->aa->Option (D×aa)
inductive Of(K:Ym)(f:MF)(x:V)(vs:List V)(H:Hp)(Q:VK):Prop
 | mk (μ:Fp) (S:aa) (dx:D) (ds:List D) (d:D) (S':aa) (hS:SOk K μ S H) (h1:Rep K μ H x dx) (h2:Reps K μ H vs ds) (h3:f dx ds S=Y (d,S')) (post:Post K μ H S' d Q)
def MtR.imp{id:String}{r':V->List V->Hp->VK->Prop}(h:MtR X id r)(i:∀ x xs H Q,r' x xs H Q->r x xs H Q):MtR X id r':=λpins s σ H x xs v us Q I rx rv q=>h pins s σ H x xs v us Q I rx rv (i x xs H Q q)
def OG:MF:=λo ds S=>match o,ds with
 | .ref r,[y]=>match S[r]? with | some 1.5=>if xs.length<Ph then Y (.non,S.set r (.lst (xs++[y]))) else J | _=>J
 | _,_=>J
def XO:MF:=λo ds S=>match ds with
 | [x]=>(Xw S o).bind λys=>if Dl 40 x=true/\ys.all (Dl 39)=true then Y (.int (ys.countP λd=>Oo d x),S) else J
 | _=>J
def vH:MtR X "list.append" (Of X.K OG):=MtR.imp yY λx vs H Q z0=>by
 obtain⟨μ,S,dx,ds,d,S',hS,r1,r2,h,post⟩:=z0;unfold OG at h;split at h
 ·rename_i r y;obtain⟨v,rfl,rv⟩:=r2.one;cases q:S[r]? with
  | none=>rw[q] at h;cases h
  | some c=>
   rw[q] at h;cases c with
   | dct _ _=>cases h
   | lst xs=>
    dsimp only at h;split at h
    ·rename_i hz;cases h;cases r1 with
     | @ref a _ h'=>
      obtain⟨ws,hw,rw'⟩:=hS.cell r a _ h' q;obtain⟨e,s'⟩:=hS.write h' hw (rw'.append (.cons rv .nil));exact#[a,ws,v,rfl,rfl,hw,by rw[rw'.length];exact hz,post _ _ μ e s' .non]
    ·cases h
 ·cases h
def oA{s:ce}(I:Inv X pins σ H s):∀ {vs:List V} {us:List ab} {ds:List D},Vals vs us->Reps X.K μ H vs ds->(∀ d∈ds,Dl 39 d=true) ->
  us.countP (IR X.K μ H x)=ds.countP λd=>Oo d x
 | _,_,_,.nil,.nil,_=>rfl
 | _,_,_,.cons rv tv,.cons r t,ok=>by
  rw[acB,acB,rL I rv r 3.05,oA I tv t λd m=>ok d 1.93]
def Tp(S:aa):D->Bool
 | .lst _=>true
 | .rol _=>true
 | .ref r=>match S[r]? with | some (.lst _)=>true | _=>false
 | _=>false
def qW{d:D}(hS:SOk K μ S H)(r:Rep K μ H v d)(h:Tp S d=true):∃ a vs ds,v=.ref a/\Yv K H a vs/\Xw S d=Y ds/\Reps K μ H vs ds:=by
 cases r with
 | lst h' n r=>exact#[_,_,_,rfl,.inl 3.01,rfl,r]
 | rol h' n r=>exact#[_,_,_,rfl,.inl h',rfl,r]
 | krol h' r=>exact#[_,_,_,rfl,.inr h',rfl,r]
 | @ref a i h'=>
  simp only[Tp] at h;cases q:S[i]? with
  | none=>rw[q] at h;cases h
  | some c=>
   rw[q] at h;cases c with
   | dct _ _=>cases h
   | lst xs=>
    obtain⟨vs,e,r⟩:=hS.cell i a _ h' q;exact#[a,vs,xs,rfl,.inl (.inl e),by simp only[Xw,q],r]
 | _=>cases h
def XS:MF:=λo ds S=>if Tp S o=true then XO o ds S else J
def lI(hu:X.A.units+64<cLine):MtR X "list.count" (Of X.K XS):=by
 intro pins s σ H x vs v us Q I rx rv h;obtain⟨μ,S,dx,ds,d,S',hS,r1,r2,h,post⟩:=h;unfold XS at h;split at h
 ·rename_i hl;unfold XO at h;split at h
  ·rename_i y;obtain⟨a,ws,es,rfl,hq,hse,re⟩:=qW hS r1 hl;rw[hse] at h;dsimp only[Option.bind_some] at h;split at h
   ·rename_i hk;cases h;cases rx;obtain⟨w,rfl,rw0⟩:=r2.one;obtain⟨u,rfl,ru⟩:=rv.one;obtain⟨its,rvs,⟨⟨cls,dd,data,sl⟩,n,e,hc,hdd,hd⟩,hz⟩:=I.list hq;simp only at hc hdd hd;subst hc hdd hd;have ok:=aaE.mp hk.2;refine acj adx #[_,e,rfl] F.entry_list_count (F.args_list_count_2 _ _) (SeqAt.list_countAt a its.toArray n J sl u 2.30) #[e,λw' hw'=>?_,?_]
    ·exact gX I (by show X.A.units+1+40<cLine;omega) ru rw0 hk.1 rvs re ok w' (by simpa using hw')
    ·refine#[.int _,H,I.tok _,#[_,rfl],?_];rw[oA I rvs re ok];exact post.here hS (.int _)
   ·cases h
  ·cases h
 ·cases h
noncomputable def dH(f:MF)(o:ME)(ms:MA):ME:=λenv S=>(o env S).bind λp=>if Tp p.2 p.1=true then(ms env p.2).bind λq=>f p.1 q.1 q.2 else J
theorem JQ{e:sn}{es:List sn}{name:Str}{id:String}{apos:Pos}(slot:Slot "list" name id)(hty:typeOf 6.4=pure (.type "method_descriptor"))(hm:MtR X id (Of X.K f))(ho:DE X o mo)(ha:DA X (e::es) ms)
  (hbase:attributeBase o name X.env 9.3=eval o X.env)
  (hfew:((backTo cpos (Pi (e::es) X.env)).all (λx=>!x.1)&&(backToKw cpos 7.1).all (λx=>x.1.isSome)&&decide ((e::es).length+([]:List Keyword).length+(if ([]:List Keyword).isEmpty then 0 else 1)<30))=true)
  (hline:(apos.endLine==cpos.line)=true) (hs:Pi (e::es) X.env=2.1::Pi es X.env) (hpl:(backTo cpos 2.7).any (·.1)=false) :
  DE X (.Call 1.03 (e::es) [] cpos) (dH f mo ms):=
 PE.imp (pe_bm F.plainAttrs_list slot hty hm ho ha hbase hfew hline hs hpl) λσ H Q z0=>by
  obtain⟨μ,S,env,d,S',hS,hE,h,post⟩:=z0;obtain⟨x,S1,h1,h⟩:=dQ h;dsimp only at h;split at h
  ·rename_i hl;obtain⟨xs,S2,h2,h⟩:=dQ h;refine#[μ,S,env,x,S1,hS,hE,h1,λv H1 μ1 e1 s1 r1=>#[?_,μ1,S1,env,xs,S2,s1,hE.mono e1,h2,λvs H2 μ2 e2 s2 r2=>#[μ2,S2,x,xs,d,S',s2,r1.mono e2,r2,h,(post.ext e1).ext e2]]];obtain⟨a,ws,es,rfl,hq,z,z⟩:=qW s1 r1 hl;exact .inl #[rfl,ws,hq]
  ·cases h
end
end M
namespace HT
open AutoSeq1 (wpAny_loadPart')
section
variable{prog:td}{w:tx}{A:NF}{E:ab->ce->Prop}{s:ce}
def nC{Q:ab->ce->Prop}(hit:s.heap.IsTupleIter it t i)(ht:s.heap.IsTuple t items)(hx:items[i]?=Y x)
  (hQ:∀ h',h'.IsTupleIter it t (i+1)->Heap.SameBut it s.heap h'->Q x { s with heap:=h' }):Xr 2.3 A (Builtin.SmallTypes.nextOf 8.2) Q E s:=by
 obtain⟨o,ho,hc,hd⟩:=id hit;obtain⟨ol,hol,z,CA,hdl⟩:=ht;unfold Builtin.SmallTypes.nextOf;refine aad (abz (name:=Str.ofString "__next__") hit.typeIs acb (acg acb hit.typeIs adW ?_ (adL _)));show Xr _ _ (field 8.2 0 >>= _) _ _ s;refine aad (abq ho hd (x:=.ref t) rfl ?_);show Xr _ _ (if (Value.ref t==Value.none)=true then _ else _) _ _ s;rw[if_neg (show ¬ ((Value.ref t==Value.none)=true) from aeI)];show Xr _ _ (field 8.2 1 >>= _) _ _ s;refine aad (abq ho hd (x:=.int i 0) rfl ?_);show Xr _ _ (seqItems? (.ref t) >>= _) _ _ s;refine aad (acf hol hdl ?_);simp only[abf,hx];refine aad (ace ho hd 0.3 (aaB #[x,rfl,aaB (hQ _ #[_,abm _ ho (Obj.isFreed_of_fields (aeM hd _)),(Obj.cls_mapFields ..).trans hc,?_] (abD ..))]));rw[aeM hd];simp[rawInt]
def tj(hh:A.handled=J)(hit:s.heap.IsTupleIter it t i)(ht:s.heap.IsTuple t items)(hx:items[i]?=J)
  (hE:∀ h' e,Heap.ExtBut it s.heap h'->(∃ o,h'.get? e=Y o/\o.cls=.type "StopIteration")->E (.ref e) { s with heap:=h' }):Xr 2.3 A (Builtin.SmallTypes.nextOf 8.2) Q E s:=by
 obtain⟨o,ho,hc,hd⟩:=id hit;obtain⟨ol,hol,z,CA,hdl⟩:=ht;unfold Builtin.SmallTypes.nextOf;refine aad (abz (name:=Str.ofString "__next__") hit.typeIs acb (acg acb hit.typeIs adW ?_ (adL _)));show Xr _ _ (field 8.2 0 >>= _) _ _ s;refine aad (abq ho hd (x:=.ref t) rfl ?_);show Xr _ _ (if (Value.ref t==Value.none)=true then _ else _) _ _ s;rw[if_neg (show ¬ ((Value.ref t==Value.none)=true) from aeI)];show Xr _ _ (field 8.2 1 >>= _) _ _ s;refine aad (abq ho hd (x:=.int i 0) rfl ?_);show Xr _ _ (seqItems? (.ref t) >>= _) _ _ s;refine aad (acf hol hdl ?_);simp only[abf,hx];refine aad (aea (aad (ace ho hd 0.3 ?_)));show Xr _ _ (newExc (.type "StopIteration") [] >>= _) _ _ _;refine aad ?_;simp only[newExc,newTuple];refine aad (aba ?_ (by size_fits));refine aad (m:=firstArgMember _ _) (aeC (a:=Value.none) (by first | rfl | (simp only[firstArgMember];rfl)) (aba ?_ (by size_fits)));simp only[raiseNew];refine aad (wpAny_handled ?_);(first | rw[show A.in1.handled=J from hh] | rw[hh]);refine aad (aaB (wpAny_throw (hE _ _ (((abD ..).extBut.push _).push _) #[_,aaC _ rfl,rfl])))
end
theorem Ci{A:NF}(hh:A.handled=J)(it t:gV)(hne:t≠it)(items:Array ab) :
  Draws prog w A it [it,t] items.size (λi v=>items[i]?=Y v) (λi h=>h.IsTupleIter it t i/\h.IsTuple t items) where
 live:=λz z st=>by obtain⟨o,ho,z⟩:=st.1;exact#[o,ho]
 frame:=λz z z st hk=>by
  obtain⟨⟨o,ho,r⟩,⟨o2,ho2,r2⟩⟩:=st;exact#[#[o,hk it 0.3 o ho,r],#[o2,hk t 0.3 o2 ho2,r2]]
 item:=λi s Q E hi st hQ=>nC st.1 st.2 (x:=items[i]) (by simp[hi]) λh' hit' hs'=>hQ _ h' s.toks (by simp[hi]) #[hit',st.2.extBut hs'.extBut hne] hs'
 done:=λs Q E st hE=>tj hh st.1 st.2 0.3 hE
def nE(l:gV)(items:Array ab)(n:Nat)(dct:Option gV)(sl:Array 1.39) :
  Meets (Builtin.«enumerate.__new__» #[[.type "enumerate",.ref l],[]]) (λz R s=>s.heap.get? l=Y #[.type "tuple",dct,.seq items n,sl] /\
   R (.ok (.ret (.ref (s.heap.push { cls:=.type "tuple_iterator",data:=.fields (List.toArray [.ref l,.int 0 0]) }).objs.size)))
    {s with heap:=(s.heap.push { cls:=.type "tuple_iterator",data:=.fields (List.toArray [.ref l,.int 0 0]) }).push { cls:=.type "enumerate",data:=.fields (List.toArray [.none,.bool false,.ref s.heap.objs.size,rawInt 0,.none,.none]) } }):=
 .of_wp λprog w A R s h=>by
  obtain⟨hp,g,d,tk,os⟩:=s;obtain⟨hl,h⟩:=h;have hsub:=sub_enumerate;have hL:Heap.IsTuple (Shared.heap #[hp,g,d,tk,os]) l items:=#[_,hl,rfl,n,rfl]
  wp_walk using wpAny_loadPart' hl
  refine wpAny_stack_any λst=>aaB ?_;split
  ·rename_i c _ _ _ _ _;cases(c==Value.type "enumerate")<;>(wp_walk using wpAny_loadPart' hl,acl hL;exact#[_,rfl,h])
  ·wp_walk using wpAny_loadPart' hl,acl hL
   exact#[_,rfl,h]
end HT
namespace HT
section
variable{prog:td}{w:tx}{A:NF}{E:ab->ce->Prop}{s:ce}
theorem Iq{Q:ab->ce->Prop}(hL:s.heap.IsTuple l items)
  (h:∀ h':NY,IsEnum h' (s.heap.objs.size+1) s.heap.objs.size 0 .none->h'.IsTupleIter s.heap.objs.size l 0->h'.objs.size=s.heap.objs.size+2->(∀ b o,s.heap.get? b=Y o->h'.get? b=Y o)->Q (.ref (s.heap.objs.size+1)) { s with heap:=h' }) :
  Xr 2.3 A (call (.type "enumerate") [.ref l]) Q E s:=by
 obtain⟨⟨c,dct,dt,sl⟩,hl,hc,n,hd⟩:=hL;simp only at hc hd;subst hc hd;refine callType_new F.called_enumerate 0.1 (F.typeCall_enumerate_1 _) (F.newCall_enumerate_1 _) (λobj=>F.args_object_init_2 obj _) F.entry_enumerate_new (nE l items n dct sl) #[hl,?_];have hz:(s.heap.push { cls:=.type "tuple_iterator",data:=.fields (List.toArray [.ref l,.int 0 0]) }).objs.size=s.heap.objs.size+1:=abB ..;show _/\_;rw[hz]
 have he:IsEnum ((s.heap.push { cls:=.type "tuple_iterator",data:=.fields (List.toArray [.ref l,.int 0 0]) }).push { cls:=.type "enumerate",data:=.fields (List.toArray [.none,.bool false,.ref s.heap.objs.size,rawInt 0,.none,.none]) }) (s.heap.objs.size+1) s.heap.objs.size 0 .none:=by
  have q:=aaC (s.heap.push { cls:=.type "tuple_iterator",data:=.fields (List.toArray [.ref l,.int 0 0]) }) (o:={ cls:=.type "enumerate",data:=.fields (List.toArray [.none,.bool false,.ref s.heap.objs.size,rawInt 0,.none,.none]) }) rfl;rw[hz] at q;exact q
 exact#[#[_,he,rfl],h _ he #[_,aak _ (aaC _ rfl),rfl,rfl] (by rw[abB,hz]) λb o x=>aak _ (aak _ x)]
end
end HT
namespace L2
section
variable{X:Cx}{pins:List (gV×Obj)}{σ:St}{H:Hp}{s:ce}{h':NY}
def Inv.turnLaid{fp:List gV}{a:gV}{o:HO}{t':Nat}(I:Inv X pins σ H s)(k:∀ b o,b∉fp->s.heap.get? b=Y o->h'.get? b=Y o)(hf:∀ b∈fp,LK X pins H b)(hp:s.heap.objs.size<=a)
  (new:ObjOk X.prog X.w 1.64 h' a o):Inv X pins σ 1.64 { s with heap:=h',toks:=t' }:=by
 have hn:H a=J:=I.hok.fresh hp;have st:∀ b u,H b=Y u->upd H a o b=Y u:=λb u e=>(bo (cP e hn)).trans e;have nfp:∀ b u,H b=Y u->b∉fp:=λb u e z=>by rw[(hf b z).1] at e;cases e
 refine I.step (g':=s.gens) (d':=s.drawn) (ch:=fp) (λb hb=>?_) (λb o j j hc e j=>k b o hc e) (λb o j j hc e j=>#[o.slots,k b o hc e]) (λb u j e n=>?_) (λb o hc e=>#[o,k b o hc e]) (λb xs e=>st b _ e) (λb o u e=>st b _ e) (λb ps e=>#[(List.toArray []),by rw[st b _ e];simp]) (λm hm=>?_) (λb u e=>?_) I.bare
 ·obtain⟨f0,f1,f2,f3,f4,f5⟩:=hf b hb;exact#[f3,f1,f4,f5]
 ·rw[bo (aaT (aaH (aaz e) hp))];exact n
 ·obtain⟨o',es,ep,ho,r⟩:=hm;exact#[o',es,ep,k _ o' (λz=>(hf _ z).2.1 rfl) ho,r]
 ·by_cases hb:b=a
  ·subst hb;rw[bD] at e;cases e;exact new
  ·rw[bo hb] at e;refine(I.hok b u e).stay (λc v hc q=>k c v ?_ q) (λj q=>st _ _ q) λj j q=>st _ _ q;rcases hc with z | z
   ·rw[z];exact nfp b u e
   ·exact nfp c _ z
def Inv.turnedL{fp:List gV}{t':Nat}(I:Inv X pins σ H s)(k:∀ b o,b∉fp->s.heap.get? b=Y o->h'.get? b=Y o)(hf:∀ b∈fp,LK X pins H b):Inv X pins σ H { s with heap:=h',toks:=t' }:=by
 have nfp:∀ b u,H b=Y u->b∉fp:=λb u e z=>by rw[(hf b z).1] at e;cases e
 refine I.step (g':=s.gens) (d':=s.drawn) (ch:=fp) (λb hb=>?_) (λb o w w hc e w=>k b o hc e) (λb o w w hc e w=>#[o.slots,k b o hc e]) (λb u w e n=>n) (λb o hc e=>#[o,k b o hc e]) (λb xs e=>e) (λb o u e=>e) (λb ps e=>#[(List.toArray []),by rw[e];simp]) (λm hm=>?_) (λb u e=>?_) I.bare
 ·obtain⟨f0,f1,f2,f3,f4,f5⟩:=hf b hb;exact#[f3,f1,f4,f5]
 ·obtain⟨o',es,ep,ho,r⟩:=hm;exact#[o',es,ep,k _ o' (λz=>(hf _ z).2.1 rfl) ho,r]
 ·refine(I.hok b u e).stay (λc v hc q=>k c v ?_ q) (λw q=>q) λw w q=>q;rcases hc with z | z
  ·rw[z];exact nfp b u e
  ·exact nfp c _ z
def Ite(K:Ym)(a:gV):It:=
 #[λi H=>∃ xs x,DF K H a xs/\xs[i]?=Y x,λi H x H'=>∃ p v,x=.ref p/\H p=J/\H'=upd H p (.tup [.int (i:Nat),v])/\∀ xs,DF K H a xs->xs[i]?=Y v,λi H=>∃ xs,DF K H a xs/\xs.length<=i]
def nG{K:Ym}{k:Nat}(a e it:gV)(hei:e≠it):FM P w K 1.01 (Ite K a) [e,it] e (λi h=>(∃ old,IsEnum h e it i old)/\h.IsTupleIter it a i) where
 mem:=by simp
 obj:=λi h st b hb=>by
  obtain⟨⟨old,he⟩,⟨o,ho,hc,hd⟩⟩:=st;simp only[aav,abF,adi] at hb;rcases hb with rfl | rfl
  ·exact#[_,he,λv z=>by cases z]
  ·exact#[o,ho,λv z=>by rw[hd] at z;cases z]
 keep:=λi h h' st kk=>by
  obtain⟨⟨old,he⟩,⟨o,ho,r⟩⟩:=st;exact#[#[old,kk e 0.3 _ he],#[o,kk it 0.3 _ ho,r]]
 item:=by
  intro X hP hw hK hc i pins s σ H E I hf st hg;subst hP hw hK;obtain⟨xs,x,hq,hx⟩:=hg;obtain⟨its,rv,p,hz⟩:=I.tuple hq;have hT:s.heap.IsTuple a its.toArray:=p;have hh:=I.ok.hd hc
  have ne1:a≠e:=λz=>by
   obtain⟨⟨old,he⟩,v⟩:=st;obtain⟨o,ho,hcl,v⟩:=hT;rw[z,he] at ho;cases ho;exact absurd (show Value.type "enumerate" = Value.type "tuple" from hcl) 0.1
  have ne2:a≠it:=λz=>by
   obtain⟨v,⟨o',ho',hc',v⟩⟩:=st;obtain⟨o,ho,hcl,v⟩:=hT;rw[z,ho'] at ho;cases ho;rw[hc'] at hcl;exact absurd hcl 0.1
  have W:=WalksT.enumerateD (HT.Ci (prog:=X.prog) (w:=X.w) (A:=X.A.in1) hh it a ne2 its.toArray) e hei (by simp;exact#[hei,λz=>ne1 z.symm]) 0.3;have hi:i<its.toArray.size:=by rw[aah,<- rv.length];exact(aaa.mp hx).1
  obtain⟨⟨old,he⟩,hit⟩:=st;have Te:s.heap.objs.size≠e:=abU (aaz he)
  have Ti:s.heap.objs.size≠it:=by
   obtain⟨o,ho,v⟩:=hit;exact abU (aaz ho)
  refine wpAny_pyNext_enum_itemD (HT.Ci (prog:=X.prog) (w:=X.w) (A:=X.A.in1) hh it a ne2 its.toArray) he #[hit,hT] hi hei (by simp;exact#[hei,λz=>ne1 z.symm]) λy h1 tk hy ho st1 hT1 hsz kk=>#[_,rfl,?_]
  refine W.go es k pos i s.heap.objs.size _ _ _ #[#[y,ho],st1,Te,Ti] λh2 st2 kk2=>?_;generalize hTT:s.heap.objs.size=T at *;obtain⟨u,hu,ru⟩:=rv.get hx
  have ey:y=u:=by
   rw[show its.toArray[i]?=its[i]? by simp,hu] at hy;exact(aau hy).symm
  subst ey;have apT:T∉[e,it]:=by simp;exact#[Te,Ti]
  have kall:∀ b o,b∉[e,it]->s.heap.get? b=Y o->h2.get? b=Y o:=λb o hb q=>kk2 b o hb (kk b o (λz=>hb (by simp[z])) (λz=>hb (by simp[z])) q);have hT2:IsTupN h2 T (List.toArray [.int i tk,y]):=#[_,kk2 T _ apT hT1,rfl,#[_,rfl],rfl]
  have hTs:s.heap.objs.size<=T:=ade hTT;refine#[.ref T,upd H T (.tup [.int (i:Nat),x]),I.turnLaid kall hf hTs #[by show 2<=Ph;decide,[.int i tk,y],.cons #[_,rfl] (.cons ru .nil),hT2],rfl,#[T,x,rfl,I.hok.fresh hTs,rfl,λys hy=>by rw[I.tuple_inj hy hq];exact hx],#[st2.1,st2.2.1],λb hb=>?_];have nb:b≠T:=λz=>apT (by rw[<- z];exact hb);rw[bo nb];exact(hf b hb).1
 done:=by
  intro X hP hw hK hc i pins s σ H E I hf st hg;subst hP hw hK;obtain⟨xs,hq,hx⟩:=hg;obtain⟨its,rv,p,hz⟩:=I.tuple hq;have hT:s.heap.IsTuple a its.toArray:=p;have hh:=I.ok.hd hc
  have ne1:a≠e:=λz=>by
   obtain⟨⟨old,he⟩,v⟩:=st;obtain⟨o,ho,hcl,v⟩:=hT;rw[z,he] at ho;cases ho;exact absurd (show Value.type "enumerate" = Value.type "tuple" from hcl) 0.1
  have D':Draws X.prog X.w X.A.in1 it [it,a] i (λv v=>True) (λj h=>j=i/\h.IsTupleIter it a i/\h.IsTuple a its.toArray):=
   {live:=λv v q=>by obtain⟨v,⟨o,ho,v⟩,v⟩:=q;exact#[o,ho]
    frame:=λv v v q hk=>by
     obtain⟨q0,⟨o,ho,r⟩,⟨o2,ho2,r2⟩⟩:=q;exact#[q0,#[o,hk it 0.3 o ho,r],#[o2,hk a 0.3 o2 ho2,r2]]
    item:=λj v v v hj q v=>absurd q.1 (aaT hj)
    done:=λs Q E q hE=>HT.tj hh q.2.1 q.2.2 (by simp;have:=rv.length;omega) hE }
  have W:=WalksT.enumerateD D' e hei (by simp;exact#[hei,λz=>ne1 z.symm]) 0.3;refine W.done s _ _ #[st.1,rfl,st.2,hT] λh2 tk kk=>#[rfl,I.turnedL kk hf]
 self:=λA i s Q E st h=>by
  obtain⟨⟨old,he⟩,v⟩:=st;exact wpAny_pyIter_enum he h
noncomputable def iEnum(K:Ym)(t:TA):TI:=λσ H R=>t σ H λxs H1=>∃ a,xs=[.ref a]/\(∃ ys,DF K H1 a ys)/\R (Ite K a) H1
end
section
variable{X:Cx}
def vG{a:sn}{k:Nat}{p:Pos}(hg:Gl X "enumerate")(hm:X.mg "enumerate" = J)(ha:PA X [a] ta)(hs:Pi [a] X.env=[4.9]) :
  PI X 2.13 (.Call (.Name "enumerate" p) [a] [] pos) (iEnum X.K ta):=by
 intro pins s σ H R I h;refine Call_ (nP I hg hm boot_enumerate (abo (ee 7.0 λus s1 ⟨vs,H1,I1,r1,q1⟩=>?_) hs rfl));obtain⟨t,rfl,⟨ys,hq⟩,q⟩:=q1;obtain⟨u,rfl,ru⟩:=r1.one;cases ru;obtain⟨its,rv,pt,hz⟩:=I1.tuple hq;refine HT.Iq pt λh' he hi hsz kk=>wpAny_pyIter_enum he ?_;refine#[s1.heap.objs.size+1,[s1.heap.objs.size+1,s1.heap.objs.size],_,_,H1,rfl,I1.kept (t':=s1.toks) kk,nG t _ _ (Nat.succ_ne_self _),#[#[_,he],hi],λb hb=>?_,q];simp only[aav,abF,adi] at hb;rcases hb with rfl | rfl
 ·exact I1.fpOk (adS _) (I1.hok.fresh (adS _))
 ·exact I1.fpOk (aas _) 8.9
end
end L2
namespace M
open L2
section
variable{X:Cx}{K:Ym}{μ μ':Fp}{H H':Hp}{S:aa}
def XR:Nat->List D->List D
 | _,[]=>[]
 | i,x::r=>.tup [.int (i:Nat),x]::XR (i+1) r
def oW:∀ (i:Nat) (xs:List D),(XR i xs).length=xs.length
 | _,[]=>rfl
 | i,_::r=>by rw[XR,aar,aar,oW (i+1) r]
def zK:∀ (k:Nat) (xs:List D) (i:Nat) (d:D),(XR k xs)[i]?=Y d->∃ x,xs[i]?=Y x/\d=.tup [.int ((k+i:Nat):Int),x]
 | _,[],i,d,h=>by simp[XR] at h
 | k,x::r,0,d,h=>by simp[XR] at h;exact#[x,rfl,h.symm]
 | k,x::r,i+1,d,h=>by
  rw[XR,acU] at h;obtain⟨y,h1,h2⟩:=zK (k+1) r i d h;refine#[y,by simpa using h1,?_];rw[h2,show k+1+i=k+(i+1) by omega]
def sv(r:Rep K μ H (.ref a) 5.2):ID K μ H (Ite K a) (XR 0 xs):=λμ' H' S' e s i=>by
 have r':=r.monoP e;obtain⟨b,vs,hb,hq,rs⟩:=r'.sqT;cases hb;refine#[λd hd=>?_,λhl=>#[vs,hq,by rw[rs.length];rw[oW] at hl;exact hl]];obtain⟨x,hx,rfl⟩:=zK 0 xs i d hd;obtain⟨v,hv,rv⟩:=rs.get hx;refine#[#[vs,v,hq,hv],λy H2 hy=>?_];obtain⟨p,w,rfl,hp,rfl,hw⟩:=hy;have ew:w=v:=by have:=hw vs hq;rw[hv] at this;exact(aau this).symm
 subst ew;obtain⟨e2,s2⟩:=s.laid (o:=.tup [.int (i:Nat),w]) hp;refine#[e2,s2,?_];rw[adb];exact .tup bD 2.88 (.cons (.int _) (.cons (rv.mono e2) .nil))
noncomputable def eM(ms:MA):MA:=λenv S=>(ms env S).bind λp=>match p.1 with | [.tup xs]=>Y (XR 0 xs,p.2) | _=>J
theorem Vc{a:sn}{k:Nat}{p:Pos}(hm:X.mg "enumerate" = J)(ha:DA X [a] ms)(hg:Gl X "enumerate")(hs:Pi [a] X.env=[4.9]) :
  DI X 2.13 (.Call (.Name "enumerate" p) [a] [] pos) (eM ms):=PI.imp (vG hg hm ha hs) λσ H R z0=>by
 obtain⟨μ,S,env,xs,S',hS,hE,h,post⟩:=z0;obtain⟨ds,S1,h1,h⟩:=dQ h;refine#[μ,S,env,ds,S1,hS,hE,h1,λvs H1 μ1 e1 s1 r1=>?_];dsimp only at h;split at h
 ·rename_i ys;cases h;obtain⟨v,rfl,rv⟩:=r1.one;have rv':=rv;obtain⟨b,ws,rfl,hq,rs⟩:=rv.sqT;exact#[b,rfl,#[ws,hq],post _ H1 μ1 e1 s1 (sv rv')]
 ·cases h
end
end M
namespace M
open L2
noncomputable def qm:List D->Option (List Int)
 | []=>Y []
 | .int i::r=>(qm r).bind λns=>Y (i::ns)
 | _::_=>J
def ud:∀ {ds:List D} {ns:List Int},qm ds=Y ns->ds=ns.map D.int
 | [],ns,h=>by cases h;rfl
 | .int i::r,ns,h=>by
  obtain⟨ms,h1,h2⟩:=gA h;cases h2;rw[List.map_cons,<- ud h1]
 | .non::_,ns,h=>by cases h
 | .bl _::_,ns,h=>by cases h
 | .str _::_,ns,h=>by cases h
 | .tup _::_,ns,h=>by cases h
 | .lst _::_,ns,h=>by cases h
 | .rol _::_,ns,h=>by cases h
 | .dct _ _::_,ns,h=>by cases h
 | .ref _::_,ns,h=>by cases h
def wP:∀ ns:List Int,qm 1.09=Y ns
 | []=>rfl
 | n::ns=>by rw[List.map_cons,qm,wP ns];rfl
section
variable{X:Cx}{K:Ym}{μ:Fp}{H:Hp}{S:aa}
def yT:∀ {vs:List V} {ns:List Int},Reps K μ H vs 1.09->vs=ns.map V.int
 | _,[],.nil=>rfl
 | _,n::ns,.cons h t=>by rw[h.int_inv,yT t];rfl
def WV(S:aa)(d:D):Option (List Int):=if Tp S d=true then(Xw S d).bind λds=>(qm ds).bind λns=>if ns.length<64 then Y ns else J else J
def uN{d:D}(hS:SOk K μ S H)(r:Rep K μ H v d)(h:WV S d=Y ns):∃ a,v=.ref a/\Yv K H a 9.2/\ns.length<64:=by
 unfold WV at h;split at h
 ·rename_i hl;obtain⟨a,vs,ds,rfl,hq,hs,rs⟩:=qW hS r hl;rw[hs] at h;have h:((qm ds).bind λns=>if ns.length<64 then Y ns else J)=Y ns:=h;obtain⟨ms,h1,h2⟩:=gA h;split at h2
  ·rename_i h3;cases h2;have:=ud h1;subst this;exact#[a,rfl,by rw[<- yT rs];exact hq,h3]
  ·cases h2
 ·cases h
end
end M
namespace L2
section
variable{X:Cx}{pins:List (gV×Obj)}{σ:St}{H:Hp}{s:ce}{a:gV}{xs:List V}
def Inv.tupD(I:Inv X pins σ H s)(h:DF X.K H a xs):∃ ob,s.heap.get? a=Y ob/\ob.cls=.type "tuple"/\ob.dict=J:=by
 rcases h with h | ⟨o,its,n,hk,hc,hdn,hs,hz,r⟩
 ·obtain⟨z,its,r,ob,e,c,d,dn⟩:=h.ok I.hok;exact#[ob,e,c,dn]
 ·exact#[o,I.kIn a o hk,hc,hdn]
variable{o e:sn}{es:List sn}{to:TE}{t:TA}{name:Str}{apos cpos:Pos}{id:String}{r:V->List V->Hp->VK->Prop}
def A0p(K:Ym)(r:V->List V->Hp->VK->Prop)(to:TE)(t:TA):TE:=λσ H Q=>to σ H λx H1=>(∃ p xs,x=.ref p/\DF K H1 p xs)/\t σ H1 λxs H2=>r x xs H2 Q
def nH(slot:Slot "tuple" name id)(hty:typeOf 6.4=pure (.type "method_descriptor"))(hm:MtR X id r)(ho:PE X o to)(ha:PA X (e::es) t)
  (hbase:attributeBase o name X.env 9.3=eval o X.env)
  (hfew:((backTo cpos (Pi (e::es) X.env)).all (λx=>!x.1)&&(backToKw cpos 7.1).all (λx=>x.1.isSome)&&decide ((e::es).length+([]:List Keyword).length+(if ([]:List Keyword).isEmpty then 0 else 1)<30))=true)
  (hline:(apos.endLine==cpos.line)=true) (hs:Pi (e::es) X.env=2.1::Pi es X.env) (hplain:(backTo cpos 2.7).any (·.1)=false) :
  PE X (.Call 1.03 (e::es) [] cpos) (A0p X.K r to t):=by
 intro pins s σ H Q I h;refine acY hbase hfew hline rfl (ee 1.35 λv s1 ⟨x,H1,I1,r1,ty,q1⟩=>?_);obtain⟨p,ys,rfl,hq⟩:=ty;cases r1;obtain⟨ob,e1,e2,e3⟩:=I1.tupD hq;refine#["tuple",id,F.plainAttrs_tuple,slot,hty,#[ob,e1,e2],λa z=>by cases z;exact#[ob,e1,e3],?_];have hA:=ha cpos pins s1 σ H1 _ I1 q1;rw[hs] at hA ⊢;refine acZ (by show(false||(backTo cpos 2.7).any (·.1))=false;rw[hplain]<;>rfl) (adj ?_);exact ee hA λus s2 ⟨vs,H2,I2,r2,q2⟩=>hm pins s2 σ H2 (V.ref p) vs _ us Q I2 (show RelV (V.ref p) (Value.ref p) from rfl) r2 q2
end
end L2
namespace M
open L2
section
variable{X:Cx}{K:Ym}{μ:Fp}{H:Hp}{S:aa}
def Nw:D->Bool
 | .tup _=>true
 | _=>false
def Ta:MF:=λo ds S=>if Nw o=true then XO o ds S else J
def ic(hu:X.A.units+64<cLine):MtR X "tuple.count" (Of X.K Ta):=by
 intro pins s σ H x vs v us Q I rx rv h;obtain⟨μ,S,dx,ds,d,S',hS,r1,r2,h,post⟩:=h;unfold Ta at h;split at h
 ·rename_i hl;cases dx with
  | tup es=>
   unfold XO at h;split at h
   ·rename_i y;have h:(if Dl 40 y=true/\es.all (Dl 39)=true then Y (D.int (es.countP λd=>Oo d y),S) else J)=Y (d,S'):=h;split at h
    ·rename_i hk;cases h;obtain⟨a,ws,rfl,hq,re⟩:=r1.sqT;cases rx;obtain⟨w,rfl,rw0⟩:=r2.one;obtain⟨u,rfl,ru⟩:=rv.one;obtain⟨its,rvs,pt,hz⟩:=I.tuple hq;obtain⟨⟨cls,dd,data,sl⟩,e,hc,n,hd⟩:=id pt;simp only at hc hd;subst hc hd;have ok:=aaE.mp hk.2;refine acj aeT #[_,e,rfl] F.entry_tuple_count (F.args_tuple_count_2 _ _) (SeqAt.tuple_countAt a its.toArray n dd sl u 2.30) #[e,λw' hw'=>?_,?_]
     ·exact gX I (by show X.A.units+1+40<cLine;omega) ru rw0 hk.1 rvs re ok w' (by simpa using hw')
     ·refine#[.int _,H,I.tok _,#[_,rfl],?_];rw[oA I rvs re ok];exact post.here hS (.int _)
    ·cases h
   ·cases h
  | _=>cases hl
 ·cases h
noncomputable def jb(o:ME)(ms:MA):ME:=λenv S=>(o env S).bind λp=>if Nw p.1=true then(ms env p.2).bind λq=>Ta p.1 q.1 q.2 else if Tp p.2 p.1=true then(ms env p.2).bind λq=>XS p.1 q.1 q.2 else J
theorem ZQ{e:sn}{es:List sn}{apos:Pos}(hu:X.A.units+64<cLine)(ho:DE X o mo)(ha:DA X (e::es) ms)
  (hbase:attributeBase o "count" X.env 9.3=eval o X.env)
  (hfew:((backTo cpos (Pi (e::es) X.env)).all (λx=>!x.1)&&(backToKw cpos 7.1).all (λx=>x.1.isSome)&&decide ((e::es).length+([]:List Keyword).length+(if ([]:List Keyword).isEmpty then 0 else 1)<30))=true)
  (hline:(apos.endLine==cpos.line)=true) (hs:Pi (e::es) X.env=2.1::Pi es X.env) (hpl:(backTo cpos 2.7).any (·.1)=false) :
  DE X (.Call (.Attribute o "count" apos) (e::es) [] cpos) (jb mo ms):=by
 have hT:=nH (X:=X) aeT F.type_tuple_count (ic hu) ho ha hbase hfew hline hs hpl;have hL:=JQ (X:=X) adx F.type_list_count (lI hu) ho ha hbase hfew hline hs hpl;intro pins s σ H Q I ⟨μ,S,env,d,S',hS,hE,h,post⟩;obtain⟨x,S1,h1,h⟩:=dQ h;dsimp only at h;split at h
 ·rename_i ht;obtain⟨xs,S2,h2,h⟩:=dQ h;refine hT pins s σ H Q I #[μ,S,env,x,S1,hS,hE,h1,λv H1 μ1 e1 s1 r1=>#[?_,μ1,S1,env,xs,S2,s1,hE.mono e1,h2,λvs H2 μ2 e2 s2 r2=>#[μ2,S2,x,xs,d,S',s2,r1.mono e2,r2,h,(post.ext e1).ext e2]]];cases x<;>first | cases ht | skip
  obtain⟨a,ws,rfl,hq,z⟩:=r1.sqT;exact#[a,ws,rfl,hq]
 ·refine hL pins s σ H Q I #[μ,S,env,d,S',hS,hE,?_,post];show(mo env S).bind _=_;rw[h1];exact h
end
end M
namespace HT
section
variable{prog:td}{w:tx}{A:NF}{E:ab->ce->Prop}{s:ce}
structure IA(z TI TO i1 i2:gV)(fp1 fp2:List gV):Prop where
 TIz:TI≠z
 TOz:TO≠z
 TITO:TI≠TO
 z1:z∉fp1
 z2:z∉fp2
 o1:TO∉fp1
 o2:TO∉fp2
 i12:i1∉fp2
 i21:i2∉fp1
 t1:TI≠i1
 t2:TI≠i2
 m1:i1∈fp1
 m2:i2∈fp2
def sy{TI TO:gV}{Q:ab->ce->Prop}
  (Z:IA z TI TO i1 i2 fp1 fp2) (D1:Draws prog w A i1 fp1 n1 P1 St1) (D2:Draws prog w A i2 fp2 n2 P2 St2) (hz:IsZip s.heap z TI TO .none) (hTI:IsPair s.heap TI (.ref i1) (.ref i2)) (hTO:IsPair s.heap TO a b)
  (s1:St1 k1 s.heap) (s2:St2 k2 s.heap) (l1:k1<n1) (l2:k2<n2)
  (hQ:∀ x y h' tk,P1 k1 x->P2 k2 y->IsZip h' z TI TO 6.0->IsPair h' TO x y->St1 (k1+1) h'->St2 (k2+1) h'->IsPair h' s.heap.objs.size x y->h'.objs.size=s.heap.objs.size+1 ->
   (∀ c o,c≠z->c≠TO->c≠i1->c≠i2->s.heap.get? c=Y o->h'.get? c=Y o)->Q 3.3 { s with heap:=h',toks:=tk }) :
  Xr 2.3 A (Builtin.«zip.__next__» #[[.ref z],[]]) (λfin s'=>∃ v,fin=.done (.ret v)/\Q v s') E s:=by
 unfold Builtin.«zip.__next__»;show Xr _ _ (field (.ref z) 2 >>= _) _ _ s;refine aad (abq hz rfl (x:=.bool false) rfl ?_);refine aad (abq hz rfl (x:=.ref TI) rfl ?_);refine aad (acf hTI rfl ?_);show Xr _ _ (Builtin.SmallTypes.ownedTupleIsFree (.ref z) >>= _) _ _ s;refine aad ?_;unfold Builtin.SmallTypes.ownedTupleIsFree;refine aad (abq hz rfl (x:=.none) rfl (aaB ?_));show Xr _ _ (rule "zip.__next__.owned-tuple-again" >>= _) _ _ s;refine aad (aea ?_);refine aad (abq hz rfl (x:=.ref TO) rfl ?_);refine aad (ace hz rfl 0.3 ?_);refine aad ?_;show Xr _ _ (forIn [((Value.ref i1,0):ab×Nat),3.14] _ _) _ _ _;rw[acn];refine aad ?_;refine aad (aee ?_);refine aad ?_;have ez:(s.heap.update z (Obj.mapFields λvs=>vs.setIfInBounds 0 .ellipsis)).get? z=Y { cls:=.type "zip",data:=.fields (List.toArray [.ellipsis,.bool false,.bool false,.ref TI,.ref TO]) }:=abm _ hz rfl;have ne0:∀ c,c≠z->(s.heap.update z (Obj.mapFields λvs=>vs.setIfInBounds 0 .ellipsis)).get? c=s.heap.get? c:=λc hc=>abr _ _ _ _ hc;have sz0:(s.heap.update z (Obj.mapFields λvs=>vs.setIfInBounds 0 .ellipsis)).objs.size=s.heap.objs.size:=(abD ..).1;generalize (s.heap.update z (Obj.mapFields λvs=>vs.setIfInBounds 0 .ellipsis))=h0 at ez ne0 sz0 ⊢;have zi1:z≠i1:=λe=>Z.z1 (e ▸ Z.m1);have zi2:z≠i2:=λe=>Z.z2 (e ▸ Z.m2);have oi1:TO≠i1:=λe=>Z.o1 (e ▸ Z.m1);have oi2:TO≠i2:=λe=>Z.o2 (e ▸ Z.m2);refine D1.item k1 { s with heap:=h0 } _ _ l1 (D1.frame _ _ _ s1 λc hc o ho=>(ne0 c (λe=>Z.z1 (e ▸ hc))).trans ho) λx h1 tk1 px st1 sb1=>aaB ?_;have o1:h1.get? TO=Y { cls:=.type "tuple",data:=.seq (List.toArray [a,b]) }:=(sb1.2 TO oi1).trans ((ne0 TO Z.TOz).trans hTO);show Xr _ _ (seqItems? (Value.ref TO) >>= _) _ _ _;refine aad (acf o1 rfl ?_);refine aad (adM o1 rfl ?_ (by show 2<=Ph;decide) (by simp;decide));refine aad (wpAny_letGo (aaB ?_));have eo:(h1.update TO (Obj.mapSeq λvs=>vs.setIfInBounds 0 x)).get? TO=Y { cls:=.type "tuple",data:=.seq (List.toArray [x,b]) }:=abm _ o1 rfl;have ne1:∀ c,c≠TO->(h1.update TO (Obj.mapSeq λvs=>vs.setIfInBounds 0 x)).get? c=h1.get? c:=λc hc=>abr _ _ _ _ hc;have sz1:(h1.update TO (Obj.mapSeq λvs=>vs.setIfInBounds 0 x)).objs.size=s.heap.objs.size:=(abD ..).1.trans (sb1.1.trans sz0);generalize (h1.update TO (Obj.mapSeq λvs=>vs.setIfInBounds 0 x))=h2 at eo ne1 sz1 ⊢;show Xr _ _ (forIn [(3.14:ab×Nat)] _ _) _ _ _;rw[acn];refine aad ?_;refine aad (aee ?_);refine aad ?_;refine D2.item k2 { s with heap:=h2,toks:=tk1 } _ _ l2 (D2.frame _ _ _ s2 λc hc o ho=>(ne1 c (λe=>Z.o2 (e ▸ hc))).trans ((sb1.2 c (λe=>Z.i12 (e ▸ hc))).trans ((ne0 c (λe=>Z.z2 (e ▸ hc))).trans ho))) λy h3 tk2 py st2 sb2=>aaB ?_;have o2:h3.get? TO=Y { cls:=.type "tuple",data:=.seq (List.toArray [x,b]) }:=(sb2.2 TO oi2).trans eo;show Xr _ _ (seqItems? (Value.ref TO) >>= _) _ _ _;refine aad (acf o2 rfl ?_);refine aad (adM o2 rfl ?_ (by show 2<=Ph;decide) (by simp;decide));refine aad (wpAny_letGo (aaB ?_));have eo2:(h3.update TO (Obj.mapSeq λvs=>vs.setIfInBounds 1 y)).get? TO=Y { cls:=.type "tuple",data:=.seq (List.toArray [x,y]) }:=abm _ o2 rfl;have ne2:∀ c,c≠TO->(h3.update TO (Obj.mapSeq λvs=>vs.setIfInBounds 1 y)).get? c=h3.get? c:=λc hc=>abr _ _ _ _ hc;have sz2:(h3.update TO (Obj.mapSeq λvs=>vs.setIfInBounds 1 y)).objs.size=s.heap.objs.size:=(abD ..).1.trans (sb2.1.trans sz1);generalize (h3.update TO (Obj.mapSeq λvs=>vs.setIfInBounds 1 y))=h4 at eo2 ne2 sz2 ⊢;show Xr _ _ (pure _) _ _ _;refine aaB ?_;show Xr _ _ (seqItems? (Value.ref TO) >>= _) _ _ _;refine aad (acf eo2 rfl ?_);show Xr _ _ (newTuple [x,y] >>= _) _ _ _;refine aad ?_;simp only[newTuple];refine aba ?_ (by size_fits);have ez4:h4.get? z=Y { cls:=.type "zip",data:=.fields (List.toArray [.ellipsis,.bool false,.bool false,.ref TI,.ref TO]) }:=(ne2 z Z.TOz.symm).trans ((sb2.2 z zi2).trans ((ne1 z Z.TOz.symm).trans ((sb1.2 z zi1).trans ez)));have ez5:=aak { cls:=.type "tuple",data:=.seq (List.toArray [x,y]) } ez4;have et5:=aaC h4 (o:={ cls:=.type "tuple",data:=.seq (List.toArray [x,y]) }) rfl;have kk5:∀ c o,h4.get? c=Y o->(h4.push { cls:=.type "tuple",data:=.seq (List.toArray [x,y]) }).get? c=Y o:=λc o=>aak _;have sz5:(h4.push { cls:=.type "tuple",data:=.seq (List.toArray [x,y]) }).objs.size=s.heap.objs.size+1:=by rw[abB,sz2]
 dsimp only;show Xr _ _ _ _ _ { s with heap:=h4.push { cls:=.type "tuple",data:=.seq (List.toArray [x,y]) },toks:=tk2 };generalize (h4.push { cls:=.type "tuple",data:=.seq (List.toArray [x,y]) })=h5 at ez5 et5 kk5 sz5 ⊢;rw[sz2] at et5 ⊢;show Xr _ _ ((setField (.ref z) 0 6.0 >>= λq=>setField (.ref z) 1 2.08) >>= _) _ _ _;refine aad (aad (ace ez5 rfl 0.3 ?_));have ez6:(h5.update z (Obj.mapFields λvs=>vs.setIfInBounds 0 6.0)).get? z=Y { cls:=.type "zip",data:=.fields (List.toArray [rawInt s.heap.objs.size,.bool false,.bool false,.ref TI,.ref TO]) }:=abm _ ez5 rfl;have ne6:∀ c,c≠z->(h5.update z (Obj.mapFields λvs=>vs.setIfInBounds 0 6.0)).get? c=h5.get? c:=λc hc=>abr _ _ _ _ hc;have sz6:(h5.update z (Obj.mapFields λvs=>vs.setIfInBounds 0 6.0)).objs.size=s.heap.objs.size+1:=(abD ..).1.trans sz5;generalize (h5.update z (Obj.mapFields λvs=>vs.setIfInBounds 0 6.0))=h6 at ez6 ne6 sz6 ⊢;refine ace ez6 rfl 0.3 ?_;have ez7:(h6.update z (Obj.mapFields λvs=>vs.setIfInBounds 1 2.08)).get? z=Y { cls:=.type "zip",data:=.fields (List.toArray [rawInt s.heap.objs.size,.bool false,.bool false,.ref TI,.ref TO]) }:=abm _ ez6 rfl;have ne7:∀ c,c≠z->(h6.update z (Obj.mapFields λvs=>vs.setIfInBounds 1 2.08)).get? c=h6.get? c:=λc hc=>abr _ _ _ _ hc;have sz7:(h6.update z (Obj.mapFields λvs=>vs.setIfInBounds 1 2.08)).objs.size=s.heap.objs.size+1:=(abD ..).1.trans sz6;generalize (h6.update z (Obj.mapFields λvs=>vs.setIfInBounds 1 2.08))=h7 at ez7 ne7 sz7 ⊢;have k57:∀ c o,c≠z->h4.get? c=Y o->h7.get? c=Y o:=λc o hc ho=>(ne7 c hc).trans ((ne6 c hc).trans (kk5 c o ho));have newz:s.heap.objs.size≠z:=abU (aaz hz);refine aaB #[_,rfl,hQ x y h7 tk2 px py ez7 (k57 TO _ Z.TOz eo2) ?_ ?_ ((ne7 _ newz).trans ((ne6 _ newz).trans et5)) sz7 λc o c1 c2 c3 c4 ho=>k57 c o c1 ((ne2 c c2).trans ((sb2.2 c c4).trans ((ne1 c c2).trans ((sb1.2 c c3).trans ((ne0 c c1).trans ho)))))]
 ·exact D1.frame _ _ _ st1 λc hc o ho=>k57 c o (λe=>Z.z1 (e ▸ hc)) ((ne2 c (λe=>Z.o1 (e ▸ hc))).trans ((sb2.2 c (λe=>Z.i21 (e ▸ hc))).trans ((ne1 c (λe=>Z.o1 (e ▸ hc))).trans ho)))
 ·exact D2.frame _ _ _ st2 λc hc o ho=>k57 c o (λe=>Z.z2 (e ▸ hc)) ((ne2 c (λe=>Z.o2 (e ▸ hc))).trans ho)
def pW{TI TO:gV}
  (Z:IA z TI TO i1 i2 fp1 fp2) (D1:Draws prog w A i1 fp1 n1 P1 St1) (hz:IsZip s.heap z TI TO .none) (hTI:IsPair s.heap TI (.ref i1) (.ref i2)) (hTO:IsPair s.heap TO a b)
  (s1:St1 n1 s.heap)
  (hE:∀ h' e tk,(∀ c o,c≠z->c≠TO->c≠i1->c≠i2->s.heap.get? c=Y o->h'.get? c=Y o)->(∃ o,h'.get? e=Y o/\o.cls=.type "StopIteration")->E (.ref e) { s with heap:=h',toks:=tk }) :
  Xr 2.3 A (Builtin.«zip.__next__» #[[.ref z],[]]) Q E s:=by
 unfold Builtin.«zip.__next__»;show Xr _ _ (field (.ref z) 2 >>= _) _ _ s;refine aad (abq hz rfl (x:=.bool false) rfl ?_);refine aad (abq hz rfl (x:=.ref TI) rfl ?_);refine aad (acf hTI rfl ?_);show Xr _ _ (Builtin.SmallTypes.ownedTupleIsFree (.ref z) >>= _) _ _ s;refine aad ?_;unfold Builtin.SmallTypes.ownedTupleIsFree;refine aad (abq hz rfl (x:=.none) rfl (aaB ?_));show Xr _ _ (rule "zip.__next__.owned-tuple-again" >>= _) _ _ s;refine aad (aea ?_);refine aad (abq hz rfl (x:=.ref TO) rfl ?_);refine aad (ace hz rfl 0.3 ?_);refine aad ?_;show Xr _ _ (forIn [((Value.ref i1,0):ab×Nat),3.14] _ _) _ _ _;rw[acn];refine aad ?_;refine aad (aee ?_);refine aad ?_;have ez:(s.heap.update z (Obj.mapFields λvs=>vs.setIfInBounds 0 .ellipsis)).get? z=Y { cls:=.type "zip",data:=.fields (List.toArray [.ellipsis,.bool false,.bool false,.ref TI,.ref TO]) }:=abm _ hz rfl;have ne0:∀ c,c≠z->(s.heap.update z (Obj.mapFields λvs=>vs.setIfInBounds 0 .ellipsis)).get? c=s.heap.get? c:=λc hc=>abr _ _ _ _ hc;generalize (s.heap.update z (Obj.mapFields λvs=>vs.setIfInBounds 0 .ellipsis))=h0 at ez ne0 ⊢;have zi1:z≠i1:=λe=>Z.z1 (e ▸ Z.m1);have zi2:z≠i2:=λe=>Z.z2 (e ▸ Z.m2);have oi1:TO≠i1:=λe=>Z.o1 (e ▸ Z.m1);have oi2:TO≠i2:=λe=>Z.o2 (e ▸ Z.m2);refine D1.done { s with heap:=h0 } _ _ (D1.frame _ _ _ s1 λc hc o ho=>(ne0 c (λe=>Z.z1 (e ▸ hc))).trans ho) λh1 e xb ⟨o,ho,hc⟩=>?_;have z1:=xb z _ zi1 ez;refine ace z1 rfl 0.3 (hE _ e s.toks (λc o c1 c2 c3 c4 ho=>(abr _ _ _ _ c1).trans (xb c o c3 ((ne0 c c1).trans ho))) ?_);refine#[o,(abr _ _ _ _ λh=>?_).trans ho,hc];rw[h,z1] at ho;cases ho;exact absurd (show Value.type "zip" = Value.type "StopIteration" from hc) 0.1
theorem Di{TI TO:gV}{Q:Option ab->ce->Prop}
  (Z:IA z TI TO i1 i2 fp1 fp2) (D1:Draws prog w A.in1 i1 fp1 n1 P1 St1) (D2:Draws prog w A.in1 i2 fp2 n2 P2 St2) (hz:IsZip s.heap z TI TO .none) (hTI:IsPair s.heap TI (.ref i1) (.ref i2)) (hTO:IsPair s.heap TO a b)
  (s1:St1 k1 s.heap) (s2:St2 k2 s.heap) (l1:k1<n1) (l2:k2<n2)
  (hQ:∀ x y h' tk,P1 k1 x->P2 k2 y->IsZip h' z TI TO 6.0->IsPair h' TO x y->St1 (k1+1) h'->St2 (k2+1) h'->IsPair h' s.heap.objs.size x y->h'.objs.size=s.heap.objs.size+1 ->
   (∀ c o,c≠z->c≠TO->c≠i1->c≠i2->s.heap.get? c=Y o->h'.get? c=Y o)->Q (Y 3.3) { s with heap:=h',toks:=tk }) :
  Xr 2.3 A (pyNext (.ref z)) Q E s:=by
 unfold pyNext;refine aad (wpAny_attempt ?_);refine abz (name:=Str.ofString "__next__") (T:="zip") ?_ adg (acg adg ?_ F.entry_zip_next (sy Z D1 D2 hz hTI hTO s1 s2 l1 l2 λx y h' tk a1 a2 a3 a4 a5 a6 a7 a8 a9=>aaB (hQ x y h' tk a1 a2 a3 a4 a5 a6 a7 a8 a9)) (F.args_zip_next_1 _))<;>exact#[_,hz,rfl]
end
end HT
namespace HT
section
variable{prog:td}{w:tx}{A:NF}{E:ab->ce->Prop}{s:ce}
theorem Az{TI TO:gV}{Q:Option ab->ce->Prop}
  (Z:IA z TI TO i1 i2 fp1 fp2) (D1:Draws prog w A.in1 i1 fp1 n1 P1 St1) (hz:IsZip s.heap z TI TO .none) (hTI:IsPair s.heap TI (.ref i1) (.ref i2)) (hTO:IsPair s.heap TO a b)
  (s1:St1 n1 s.heap) (hQ:∀ h' tk,(∀ c o,c≠z->c≠TO->c≠i1->c≠i2->s.heap.get? c=Y o->h'.get? c=Y o)->Q J { s with heap:=h',toks:=tk }) :
  Xr 2.3 A (pyNext (.ref z)) Q E s:=by
 unfold pyNext;refine aad (wpAny_attempt ?_);refine abz (name:=Str.ofString "__next__") (T:="zip") #[_,hz,rfl] adg (acg adg #[_,hz,rfl] F.entry_zip_next (pW Z D1 hz hTI hTO s1 λh' e tk kk hc=>?_) (F.args_zip_next_1 _));show Xr _ _ (isInstance (.ref e) (.type "StopIteration") >>= _) _ _ _;exact aad (wpAny_isInstance (T:="StopIteration") (b:=true) hc (by first | exact sub_StopIteration | rfl) (aaB (hQ h' tk kk)))
end
def dY(l1 l2:gV)(xs ys:Array ab) :
  Meets (Builtin.«zip.__new__» #[[.type "zip",.ref l1,.ref l2],[]]) (λz R s=>s.heap.IsTuple l1 xs/\s.heap.IsTuple l2 ys /\
   ∀ h',IsZip h' (s.heap.objs.size+4) (s.heap.objs.size+2) (s.heap.objs.size+3) .none->IsPair h' (s.heap.objs.size+2) 3.3 (.ref (s.heap.objs.size+1))->IsPair h' (s.heap.objs.size+3) .none .none ->
    h'.IsTupleIter s.heap.objs.size l1 0->h'.IsTupleIter (s.heap.objs.size+1) l2 0->h'.objs.size=s.heap.objs.size+5->(∀ c o,s.heap.get? c=Y o->h'.get? c=Y o)->R (.ok (.ret (.ref (s.heap.objs.size+4)))) { s with heap:=h' }):=
 .of_wp λprog w A R s h=>by
  obtain⟨hl,hl2,h⟩:=h;unfold Builtin.«zip.__new__»;refine aad ?_;show Xr _ _ (isType (.type "zip") >>= _) _ _ _;refine aad (aeC (a:=true) (by first | rfl | simp[isType]) ?_);show Xr _ _ (isSubtype (.type "zip") (.type "zip") >>= _) _ _ _;refine aad (aeC sub_zip (aaB ?_));show Xr _ _ (Builtin.SmallTypes.iterAll [.ref l1,.ref l2] >>= _) _ _ _;refine aad ?_;unfold Builtin.SmallTypes.iterAll;refine aad ?_;rw[acn];refine aad (aad (abt (acl hl (aaB ?_))));have g1:=aaC s.heap (o:={ cls:=.type "tuple_iterator",data:=.fields (List.toArray [.ref l1,.int 0 0]) }) rfl;have k1:∀ c o,s.heap.get? c=Y o->(s.heap.push { cls:=.type "tuple_iterator",data:=.fields (List.toArray [.ref l1,.int 0 0]) }).get? c=Y o:=λc o=>aak _;have z1:(s.heap.push { cls:=.type "tuple_iterator",data:=.fields (List.toArray [.ref l1,.int 0 0]) }).objs.size=s.heap.objs.size+1:=abB ..;generalize s.heap.push { cls:=.type "tuple_iterator",data:=.fields (List.toArray [.ref l1,.int 0 0]) } = h1 at g1 k1 z1 ⊢;have hl2':h1.IsTuple l2 ys:=by obtain⟨o,ho,r⟩:=hl2;exact#[o,k1 _ _ ho,r]
  show Xr _ _ (forIn [Value.ref l2] _ _) _ _ _;rw[acn];refine aad (aad (abt (acl hl2' (aaB ?_))));dsimp only;have g2:=aaC h1 (o:={ cls:=.type "tuple_iterator",data:=.fields (List.toArray [.ref l2,.int 0 0]) }) rfl;have k2:∀ c o,h1.get? c=Y o->(h1.push { cls:=.type "tuple_iterator",data:=.fields (List.toArray [.ref l2,.int 0 0]) }).get? c=Y o:=λc o=>aak _;have z2:(h1.push { cls:=.type "tuple_iterator",data:=.fields (List.toArray [.ref l2,.int 0 0]) }).objs.size=s.heap.objs.size+2:=by rw[abB,z1]
  generalize h1.push { cls:=.type "tuple_iterator",data:=.fields (List.toArray [.ref l2,.int 0 0]) } = h2 at g2 k2 z2 ⊢;rw[z1] at g2 ⊢;show Xr _ _ (pure _) _ _ _;refine aaB (aaB ?_);show Xr _ _ (newTuple [.ref s.heap.objs.size,.ref (s.heap.objs.size+1)] >>= _) _ _ _;refine aad ?_;simp only[newTuple];refine aba ?_ (by size_fits);have g3:=aaC h2 (o:={ cls:=.type "tuple",data:=.seq (List.toArray [.ref s.heap.objs.size,.ref (s.heap.objs.size+1)]) }) rfl;have k3:∀ c o,h2.get? c=Y o->(h2.push { cls:=.type "tuple",data:=.seq (List.toArray [.ref s.heap.objs.size,.ref (s.heap.objs.size+1)]) }).get? c=Y o:=λc o=>aak _;have z3:(h2.push { cls:=.type "tuple",data:=.seq (List.toArray [.ref s.heap.objs.size,.ref (s.heap.objs.size+1)]) }).objs.size=s.heap.objs.size+3:=by rw[abB,z2]
  dsimp only;show Xr _ _ _ _ _ { s with heap:=h2.push { cls:=.type "tuple",data:=.seq (List.toArray [.ref s.heap.objs.size,.ref (s.heap.objs.size+1)]) } };generalize h2.push { cls:=.type "tuple",data:=.seq (List.toArray [.ref s.heap.objs.size,.ref (s.heap.objs.size+1)]) } = h3 at g3 k3 z3 ⊢;rw[z2] at g3 ⊢;refine aad ?_;show Xr _ _ (newObj (.type "tuple") (.seq (List.toArray [.none,.none]))) _ _ _;refine aba ?_ (by size_fits);have g4:=aaC h3 (o:={ cls:=.type "tuple",data:=.seq (List.toArray [.none,.none]) }) rfl;have k4:∀ c o,h3.get? c=Y o->(h3.push { cls:=.type "tuple",data:=.seq (List.toArray [.none,.none]) }).get? c=Y o:=λc o=>aak _;have z4:(h3.push { cls:=.type "tuple",data:=.seq (List.toArray [.none,.none]) }).objs.size=s.heap.objs.size+4:=by rw[abB,z3]
  dsimp only;generalize h3.push { cls:=.type "tuple",data:=.seq (List.toArray [.none,.none]) } = h4 at g4 k4 z4 ⊢;rw[z3] at g4 ⊢;refine aad ?_;show Xr _ _ (newObj (.type "zip") (.fields (List.toArray [.none,.bool false,.bool false,.ref (s.heap.objs.size+2),.ref (s.heap.objs.size+3)]))) _ _ _;refine aba ?_ (by size_fits);have g5:=aaC h4 (o:={ cls:=.type "zip",data:=.fields (List.toArray [.none,.bool false,.bool false,.ref (s.heap.objs.size+2),.ref (s.heap.objs.size+3)]) }) rfl;have k5:∀ c o,h4.get? c=Y o->(h4.push { cls:=.type "zip",data:=.fields (List.toArray [.none,.bool false,.bool false,.ref (s.heap.objs.size+2),.ref (s.heap.objs.size+3)]) }).get? c=Y o:=λc o=>aak _;have z5:(h4.push { cls:=.type "zip",data:=.fields (List.toArray [.none,.bool false,.bool false,.ref (s.heap.objs.size+2),.ref (s.heap.objs.size+3)]) }).objs.size=s.heap.objs.size+5:=by rw[abB,z4]
  dsimp only;generalize h4.push { cls:=.type "zip",data:=.fields (List.toArray [.none,.bool false,.bool false,.ref (s.heap.objs.size+2),.ref (s.heap.objs.size+3)]) } = h5 at g5 k5 z5 ⊢;rw[z4] at g5 ⊢;refine aaB #[_,rfl,h h5 g5 (k5 _ _ (k4 _ _ g3)) (k5 _ _ g4) #[_,k5 _ _ (k4 _ _ (k3 _ _ (k2 _ _ g1))),rfl,rfl] #[_,k5 _ _ (k4 _ _ (k3 _ _ g2)),rfl,rfl] z5 λc o e=>k5 _ _ (k4 _ _ (k3 _ _ (k2 _ _ (k1 _ _ e))))]
section
variable{prog:td}{w:tx}{A:NF}{E:ab->ce->Prop}{s:ce}
theorem MD{Q:ab->ce->Prop}(hL:s.heap.IsTuple l1 xs)(hL2:s.heap.IsTuple l2 ys)
  (h:∀ h':NY,IsZip h' (s.heap.objs.size+4) (s.heap.objs.size+2) (s.heap.objs.size+3) .none->IsPair h' (s.heap.objs.size+2) 3.3 (.ref (s.heap.objs.size+1))->IsPair h' (s.heap.objs.size+3) .none .none ->
    h'.IsTupleIter s.heap.objs.size l1 0->h'.IsTupleIter (s.heap.objs.size+1) l2 0->h'.objs.size=s.heap.objs.size+5->(∀ c o,s.heap.get? c=Y o->h'.get? c=Y o)->Q (.ref (s.heap.objs.size+4)) { s with heap:=h' }) :
  Xr 2.3 A (call (.type "zip") [.ref l1,.ref l2]) Q E s:=by
 refine callType_new F.called_zip 0.1 (F.typeCall_zip_2 _ _) (F.newCall_zip_2 _ _) (λobj=>F.args_object_init_3 obj _ _) F.entry_zip_new (dY l1 l2 xs ys) #[hL,hL2,λh' a b c d e f g=>?_];exact#[#[_,a,rfl],h h' a b c d e f g]
end
end HT
namespace L2
section
def Itz(K:Ym)(a b:gV):It:=
 ⟨λi H=>∃ xs ys x y,DF K H a xs/\DF K H b ys/\xs[i]?=Y x/\ys[i]?=Y y,
 λi H x H'=>∃ p v u,x=.ref p/\H p=J/\H'=upd H p (.tup [v,u])/\(∀ xs,DF K H a xs->xs[i]?=Y v)/\∀ ys,DF K H b ys->ys[i]?=Y u,
 λi H=>∃ xs ys,DF K H a xs/\DF K H b ys/\xs.length<=i⟩
def TnZ(z TI TO i1 i2 a b:gV)(i:Nat)(h:NY):Prop:=IsZip h z TI TO .none/\IsPair h TI (.ref i1) (.ref i2)/\(∃ u v,IsPair h TO u v)/\h.IsTupleIter i1 a i/\h.IsTupleIter i2 b i
def nJ{A:NF}(hh:A.handled=J)(it a:gV)(items:Array ab)(i:Nat)(hx:items[i]?=J) :
  Draws prog w A it [it,a] i (λz z=>True) (λj h=>j=i/\h.IsTupleIter it a i/\h.IsTuple a items):=
 {live:=λz z q=>by obtain⟨z,⟨o,ho,z⟩,z⟩:=q;exact#[o,ho]
  frame:=λz z z q hk=>by
   obtain⟨q0,⟨o,ho,r⟩,⟨o2,ho2,r2⟩⟩:=q;exact#[q0,#[o,hk it 0.3 o ho,r],#[o2,hk a 0.3 o2 ho2,r2]]
  item:=λj z z z hj q z=>absurd q.1 (aaT hj)
  done:=λs Q E q hE=>HT.tj hh q.2.1 q.2.2 hx hE }
def bI{K:Ym}{k:Nat}(a b z TI TO i1 i2:gV)(Z:HT.IA z TI TO i1 i2 [i1,a] [i2,b]):FM P w K 1.01 (Itz K a b) [z,TI,TO,i1,i2] z (TnZ z TI TO i1 i2 a b) where
 mem:=by simp
 obj:=λi h st c hc=>by
  obtain⟨hz,hTI,⟨u,v,hTO⟩,⟨o,ho,hc1,hd⟩,⟨o2,ho2,hc2,hd2⟩⟩:=st;simp only[aav,abF,adi] at hc;rcases hc with rfl | rfl | rfl | rfl | rfl
  ·exact#[_,hz,λv z=>by cases z]
  ·exact#[_,hTI,λv z=>by cases z]
  ·exact#[_,hTO,λv z=>by cases z]
  ·exact#[o,ho,λv z=>by rw[hd] at z;cases z]
  ·exact#[o2,ho2,λv z=>by rw[hd2] at z;cases z]
 keep:=λi h h' st kk=>by
  obtain⟨hz,hTI,⟨u,v,hTO⟩,⟨o,ho,r⟩,⟨o2,ho2,r2⟩⟩:=st;exact#[kk z 0.3 _ hz,kk TI 0.3 _ hTI,#[u,v,kk TO 0.3 _ hTO],#[o,kk i1 0.3 _ ho,r],#[o2,kk i2 0.3 _ ho2,r2]]
 item:=by
  intro X hP hw hK hc i pins s σ H E I hf st hg;subst hP hw hK;obtain⟨xs,ys,x,y,hq,hq2,hx,hy⟩:=hg;obtain⟨its,rv,p,hz0⟩:=I.tuple hq;obtain⟨its2,rv2,p2,hz2⟩:=I.tuple hq2;have hT:s.heap.IsTuple a its.toArray:=p;have hT2:s.heap.IsTuple b its2.toArray:=p2;have hh:=I.ok.hd hc;obtain⟨hz,hTI,⟨u0,v0,hTO⟩,hit1,hit2⟩:=st;have li:i<its.toArray.size:=by rw[aah,<- rv.length];exact(aaa.mp hx).1
  have li2:i<its2.toArray.size:=by rw[aah,<- rv2.length];exact(aaa.mp hy).1
  have nea:a≠i1:=λe=>by
   obtain⟨o',ho',hc',j⟩:=hit1;obtain⟨o,ho,hcl,j⟩:=hT;rw[e,ho'] at ho;cases ho;rw[hc'] at hcl;exact absurd hcl 0.1
  have neb:b≠i2:=λe=>by
   obtain⟨o',ho',hc',j⟩:=hit2;obtain⟨o,ho,hcl,j⟩:=hT2;rw[e,ho'] at ho;cases ho;rw[hc'] at hcl;exact absurd hcl 0.1
  have Tn:∀ c,c∈[z,TI,TO,i1,i2]->s.heap.objs.size≠c:=λc hc=>by
   simp only[aav,abF,adi] at hc;rcases hc with rfl | rfl | rfl | rfl | rfl
   ·exact abU (aaz hz)
   ·exact abU (aaz hTI)
   ·exact abU (aaz hTO)
   ·obtain⟨o,ho,j⟩:=hit1;exact abU (aaz ho)
   ·obtain⟨o,ho,j⟩:=hit2;exact abU (aaz ho)
  refine HT.Di Z (HT.Ci (prog:=X.prog) (w:=X.w) (A:=X.A.in1) hh i1 a nea its.toArray) (HT.Ci (prog:=X.prog) (w:=X.w) (A:=X.A.in1) hh i2 b neb its2.toArray) hz hTI hTO #[hit1,hT] #[hit2,hT2] li li2 λx' y' h1 tk hx' hy' ez eo st1 st2 hT1 hsz kk=>#[_,rfl,?_]
  refine wpAny_letOwnedTupleGo_zip ez λh2 ez2 sb=>?_;generalize hTT:s.heap.objs.size=T at *;obtain⟨u,hu,ru⟩:=rv.get hx;obtain⟨u2,hu2,ru2⟩:=rv2.get hy
  have ex:x'=u:=by
   rw[show its.toArray[i]?=its[i]? by simp,hu] at hx';exact(aau hx').symm
  have ey:y'=u2:=by
   rw[show its2.toArray[i]?=its2[i]? by simp,hu2] at hy';exact(aau hy').symm
  subst ex ey
  have kall:∀ c o,c∉[z,TI,TO,i1,i2]->s.heap.get? c=Y o->h2.get? c=Y o:=λc o hb q=>by
   simp only[aav,abF,adi,not_or] at hb;exact(sb.2 c hb.1).trans (kk c o hb.1 hb.2.2.1 hb.2.2.2.1 hb.2.2.2.2 q)
  have hTp:IsTupN h2 T (List.toArray [x',y']):=#[_,(sb.2 T (Tn z 0.3)).trans hT1,rfl,#[_,rfl],rfl]
  have hTs:s.heap.objs.size<=T:=ade hTT;have TIi:TI≠i1/\TI≠i2:=#[Z.t1,Z.t2]
  refine#[.ref T,upd H T 1.29,I.turnLaid kall hf hTs #[by show 2<=Ph;decide,[x',y'],.cons ru (.cons ru2 .nil),hTp],rfl,#[T,x,y,rfl,I.hok.fresh hTs,rfl,λzs hz=>by rw[I.tuple_inj hz hq];exact hx,λzs hz=>by rw[I.tuple_inj hz hq2];exact hy],#[ez2,(sb.2 TI Z.TIz).trans (kk TI _ Z.TIz Z.TITO Z.t1 Z.t2 hTI),#[x',y',(sb.2 TO Z.TOz).trans eo],?_,?_],λc hc=>?_]
  ·obtain⟨⟨o,ho,r⟩,j⟩:=st1;exact#[o,(sb.2 i1 (λe=>Z.z1 (by simp[e]))).trans ho,r]
  ·obtain⟨⟨o,ho,r⟩,j⟩:=st2;exact#[o,(sb.2 i2 (λe=>Z.z2 (by simp[e]))).trans ho,r]
  ·rw[bo (Tn c hc).symm];exact(hf c hc).1
 done:=by
  intro X hP hw hK hc i pins s σ H E I hf st hg;subst hP hw hK;obtain⟨xs,ys,hq,hq2,hl⟩:=hg;obtain⟨its,rv,p,hz0⟩:=I.tuple hq;obtain⟨its2,rv2,p2,hz2⟩:=I.tuple hq2;have hT:s.heap.IsTuple a its.toArray:=p;have hT2:s.heap.IsTuple b its2.toArray:=p2;have hh:=I.ok.hd hc;obtain⟨hz,hTI,⟨u0,v0,hTO⟩,hit1,hit2⟩:=st
  have fin:∀ h' tk,(∀ c o,c≠z->c≠TO->c≠i1->c≠i2->s.heap.get? c=Y o->h'.get? c=Y o)->(J:Option ab)=J/\Inv X pins σ H { s with heap:=h',toks:=tk }:=λh' tk kk=>⟨rfl,I.turnedL (fp:=[z,TI,TO,i1,i2]) (λc o hb q=>by
   simp only[aav,abF,adi,not_or] at hb
   exact kk c o hb.1 hb.2.2.1 hb.2.2.2.1 hb.2.2.2.2 q) hf⟩
  exact HT.Az Z (nJ (prog:=X.prog) (w:=X.w) (A:=X.A.in1) hh i1 a its.toArray i (by simp;have:=rv.length;omega)) hz hTI hTO #[rfl,hit1,hT] fin
 self:=λA i s Q E st h=>wpAny_pyIter_zip st.1 h
noncomputable def iZip(K:Ym)(t:TA):TI:=λσ H R=>t σ H λxs H1=>∃ a b,xs=[.ref a,.ref b]/\(∃ ys,DF K H1 a ys)/\(∃ ys,DF K H1 b ys)/\R (Itz K a b) H1
variable{X:Cx}
def yF{n t t2:Nat}(h1:t<n)(h2:t2<n):HT.IA (n+4) (n+2) (n+3) n (n+1) [n,t] [n+1,t2]:=by
 constructor<;>simp only[aav,abF,adi,not_or,ne_eq,true_or]<;>(try (show ¬ ((_:Nat)=_)))<;>(try omega)
 all_goals (refine#[?_,?_]<;>(show ¬ ((_:Nat)=_))<;>omega)
def pR{n b:Nat}(h:b∈[n+4,n+2,n+3,n,n+1]):n<=b:=by
 simp only[aav,abF,adi] at h;omega
def vJ{a b:sn}{k:Nat}{p:Pos}(hg:Gl X "zip")(hm:X.mg "zip" = J)(ha:PA X [a,b] ta)(hs:Pi [a,b] X.env=[4.9,1.50])(hs2:Pi [b] X.env=[1.50]) :
  PI X 2.13 (.Call (.Name "zip" p) [a,b] [] pos) (iZip X.K ta):=by
 intro pins s σ H R I h;refine Call_ (nP I hg hm boot_zip (abo (ee 7.0 λus s1 ⟨vs,H1,I1,r1,q1⟩=>?_) (by rw[hs,hs2]) (by rw[hs2];rfl)));obtain⟨t,t2,rfl,⟨ys,hq⟩,⟨ys2,hq2⟩,q⟩:=q1;obtain⟨u,v,rfl,ru,rv⟩:=r1.two;cases ru;cases rv;obtain⟨its,rv,pt,hz⟩:=I1.tuple hq;obtain⟨its2,rv2,pt2,hz2⟩:=I1.tuple hq2;have l1:t<s1.heap.objs.size:=by obtain⟨o,ho,z⟩:=pt;exact aaz ho
 have l2:t2<s1.heap.objs.size:=by obtain⟨o,ho,z⟩:=pt2;exact aaz ho
 refine HT.MD pt pt2 λh' hz hTI hTO hi1 hi2 hsz kk=>wpAny_pyIter_zip hz ?_;have Z:HT.IA (s1.heap.objs.size+4) (s1.heap.objs.size+2) (s1.heap.objs.size+3) s1.heap.objs.size (s1.heap.objs.size+1) [s1.heap.objs.size,t] [s1.heap.objs.size+1,t2]:=yF l1 l2;refine#[s1.heap.objs.size+4,[s1.heap.objs.size+4,s1.heap.objs.size+2,s1.heap.objs.size+3,s1.heap.objs.size,s1.heap.objs.size+1],_,_,H1,rfl,I1.kept (t':=s1.toks) kk,bI t t2 _ _ _ _ _ Z,#[hz,hTI,#[_,_,hTO],hi1,hi2],λb hb=>?_,q];have hb':s1.heap.objs.size<=b:=pR hb;exact I1.fpOk hb' (I1.hok.fresh hb')
end
end L2
namespace M
open L2
section
variable{X:Cx}{K:Ym}{μ μ':Fp}{H H':Hp}{S:aa}
def SL:List D->List D->List D
 | x::r,y::q=>.tup [x,y]::SL r q
 | _,_=>[]
def bZ:∀ (xs ys:List D) (i:Nat),xs.length<=ys.length->(SL xs ys).length<=i->xs.length<=i
 | [],_,i,_,_=>abG _
 | _::_,[],i,h,_=>by simp at h
 | x::r,y::q,0,_,h=>by simp[SL] at h
 | x::r,y::q,i+1,hl,h=>Nat.succ_le_succ (bZ r q i (acu hl) (acu h))
def tD:∀ (xs ys:List D) (i:Nat) (d:D),(SL xs ys)[i]?=Y d->∃ x y,xs[i]?=Y x/\ys[i]?=Y y/\d=.tup [x,y]
 | [],_,i,d,h=>by simp[SL] at h
 | _::_,[],i,d,h=>by simp[SL] at h
 | x::r,y::q,0,d,h=>by simp[SL] at h;exact#[x,y,rfl,rfl,h.symm]
 | x::r,y::q,i+1,d,h=>by
  rw[SL,acU] at h;simpa using tD r q i d h
def kI(r:Rep K μ H (.ref a) 5.2)(q:Rep K μ H (.ref b) (.tup ys))(hz:xs.length<=ys.length):ID K μ H (Itz K a b) (SL xs ys):=λμ' H' S' e s i=>by
 have r':=r.monoP e;have q':=q.monoP e;obtain⟨b1,vs,hb,hq,rs⟩:=r'.sqT;cases hb;obtain⟨b2,ws,hb,hq2,qs⟩:=q'.sqT;cases hb;refine#[λd hd=>?_,λhl=>#[vs,ws,hq,hq2,by rw[rs.length];exact bZ _ _ _ hz hl]];obtain⟨x,y,hx,hy,rfl⟩:=tD xs ys i d hd;obtain⟨v,hv,rv⟩:=rs.get hx;obtain⟨u,hu,ru⟩:=qs.get hy;refine#[#[vs,ws,v,u,hq,hq2,hv,hu],λy H2 hy=>?_];obtain⟨p,v',u',rfl,hp,rfl,hw,hw2⟩:=hy;have Sv:v'=v:=by have:=hw vs hq;rw[hv] at this;exact(aau this).symm
 have eu:u'=u:=by have:=hw2 ws hq2;rw[hu] at this;exact(aau this).symm
 subst Sv eu;obtain⟨e2,s2⟩:=s.laid (o:=.tup [v',u']) hp;refine#[e2,s2,?_];exact .tup bD 2.88 (.cons (rv.mono e2) (.cons (ru.mono e2) .nil))
noncomputable def kD(ms:MA):MA:=λenv S=>(ms env S).bind λp=>match p.1 with | [.tup xs,.tup ys]=>if xs.length<=ys.length then Y (SL xs ys,p.2) else J | _=>J
theorem ZE{a b:sn}{k:Nat}{p:Pos}(hm:X.mg "zip" = J)(ha:DA X [a,b] ms)(hg:Gl X "zip")(hs:Pi [a,b] X.env=[4.9,1.50])(hs2:Pi [b] X.env=[1.50]) :
  DI X 2.13 (.Call (.Name "zip" p) [a,b] [] pos) (kD ms):=PI.imp (vJ hg hm ha hs hs2) λσ H R z0=>by
 obtain⟨μ,S,env,xs,S',hS,hE,h,post⟩:=z0;obtain⟨ds,S1,h1,h⟩:=dQ h;refine#[μ,S,env,ds,S1,hS,hE,h1,λvs H1 μ1 e1 s1 r1=>?_];dsimp only at h;split at h
 ·rename_i xs ys;split at h
  case isFalse=>cases h
  rename_i hz;cases h;obtain⟨v,u,rfl,rv,ru⟩:=r1.two;have rv':=rv;have ru':=ru;obtain⟨b,ws,rfl,hq,rs⟩:=rv.sqT;obtain⟨b2,ws2,rfl,hq2,rs2⟩:=ru.sqT;exact#[b,b2,rfl,#[ws,hq],#[ws2,hq2],post _ H1 μ1 e1 s1 (kI rv' ru' hz)]
 ·cases h
end
section
variable{X:Cx}{K:Ym}{μ μ':Fp}{H H':Hp}{S S':aa}
def OA:D->Option bK
 | .int i=>Y (.inl i)
 | .str x=>Y (.inr x)
 | _=>J
def jJ{d:D}{k:bK}(h:OA d=Y k)(r:Rep K μ H v d):v=Yx k:=by
 cases d<;>first | cases h | skip
 ·rw[r.int_inv];rfl
 ·rw[r.str_inv];rfl
def Oi(kvs:List (bK×D))(k:bK):Option D:=match kvs with
 | []=>J
 | p::r=>if p.1=k then Y p.2 else Oi r k
def EM(kvs:List (bK×D))(k:bK):Bool:=match kvs with
 | []=>false
 | p::r=>if p.1=k then true else EM r k
def Sw(kvs:List (bK×D))(k:bK)(d:D):List (bK×D):=match kvs with
 | []=>[]
 | p::r=>(if p.1=k then(p.1,d) else p)::Sw r k d
def HA(kvs:List (bK×D))(k:bK)(d:D):List (bK×D):=if EM kvs k then Sw kvs k d else kvs++[(k,d)]
def Ad(kvs:List (bK×D)):List (bK×D)->List (bK×D)
 | []=>kvs
 | p::r=>Ad (HA kvs p.1 p.2) r
inductive KR(K:Ym)(μ:Fp)(H:Hp):List (bK×V)->List (bK×D)->Prop
 | nil:KR K μ H [] []
 | cons {k:bK} {v:V} {d:D} {vs:List (bK×V)} {ds:List (bK×D)} (h:Rep K μ H v d) (t:KR K μ H vs ds):KR K μ H ((k,v)::vs) ((k,d)::ds)
def KR.keys:∀ {vs ds},KR K μ H vs ds->vs.map (·.1)=ds.map (·.1)
 | _,_,.nil=>rfl
 | _,_,.cons _ t=>by rw[List.map_cons,List.map_cons,KR.keys t]
def KR.reps:∀ {vs ds},KR K μ H vs ds->Reps K μ H (vs.map (·.2)) (ds.map (·.2))
 | _,_,.nil=>.nil
 | _,_,.cons h t=>.cons h (KR.reps t)
def KR.length:∀ {vs ds},KR K μ H vs ds->vs.length=ds.length
 | _,_,.nil=>rfl
 | _,_,.cons _ t=>by rw[aar,aar,KR.length t]
def KR.less{p:gV}{cs fb:List gV}:∀ {vs ds},KR K #[cs,p::fb] H vs ds->KR K #[cs,fb] H vs ds
 | _,_,.nil=>.nil
 | _,_,.cons h t=>.cons h.less (KR.less t)
def KR.chg{p:gV}(hp:p∈μ.fb):∀ {vs ds},KR K μ H vs ds->KR K μ 6.6 vs ds
 | _,_,.nil=>.nil
 | _,_,.cons h t=>.cons (h.chg hp) (KR.chg hp t)
def KR.of:∀ {kvs:List (bK×V)} {ks:List bK} {ds:List D},ks=kvs.map (·.1)->Reps K μ H (kvs.map (·.2)) ds->KR K μ H kvs (ks.zip ds)
 | [],_,_,e,r=>by subst e;cases r;exact .nil
 | p::q,_,_,e,r=>by
  subst e;rw[List.map_cons] at r;cases r with | cons h t=>exact .cons h (KR.of rfl t)
def KR.val{k:bK}:∀ {vs ds},KR K μ H vs ds->∀ {d},Oi ds k=Y d->∃ v,XE vs k=Y v/\Rep K μ H v d
 | _,_,.nil,d,h=>by cases h
 | _,_,.cons (k:=k') h t,d,q=>by
  unfold Oi at q;split at q
  ·rename_i e;cases q;exact#[_,kF e,h]
  ·rename_i e;obtain⟨v,h1,h2⟩:=KR.val t q;exact#[v,(vj e).trans h1,h2]
def KR.valN{k:bK}:∀ {vs ds},KR K μ H vs ds->Oi ds k=J->XE vs k=J
 | _,_,.nil,_=>rfl
 | _,_,.cons h t,q=>by
  unfold Oi at q;split at q
  ·cases q
  ·rename_i e;exact(vj e).trans (KR.valN t q)
def KR.has{k:bK}:∀ {vs ds},KR K μ H vs ds->(vs.any λkv=>decide (kv.1=k))=EM ds k
 | _,_,.nil=>rfl
 | _,_,.cons (k:=k') h t=>by
  rw[abe,KR.has t];unfold EM;by_cases e:k'=k
  ·simp[e]
  ·simp only[aao e,Bool.false_or,if_neg e];cases t<;>rfl
def KR.setv{k:bK}{d:D}(r:Rep K μ H x d):∀ {vs ds},KR K μ H vs ds->KR K μ H (vs.map λkv=>if kv.1=k then(kv.1,x) else kv) (Sw ds k d)
 | _,_,.nil=>.nil
 | _,_,.cons (k:=k') h t=>by
  rw[List.map_cons];unfold Sw;by_cases e:k'=k
  ·simp only[aam e];exact .cons r (KR.setv r t)
  ·simp only[if_neg e];exact .cons h (KR.setv r t)
def KR.snoc{k:bK}{d:D}(r:Rep K μ H x d):∀ {vs ds},KR K μ H vs ds->KR K μ H (vs++[(k,x)]) (ds++[(k,d)])
 | _,_,.nil=>.cons r .nil
 | _,_,.cons h t=>.cons h (KR.snoc r t)
def KR.put{k:bK}{d:D}{vs ds}(r:Rep K μ H x d)(t:KR K μ H vs ds):KR K μ H (qH vs k x) (HA ds k d):=by
 unfold qH HA;rw[t.has];split
 ·exact t.setv r
 ·exact t.snoc r
def KR.merge:∀ {ws es vs ds},KR K μ H ws es->KR K μ H vs ds->KR K μ H (AL vs ws) (Ad ds es)
 | _,_,_,_,.nil,t=>t
 | _,_,vs,ds,.cons (k:=k) (v:=v) (d:=d) h q,t=>by
  have:=KR.merge q (t.put (k:=k) h);exact this
noncomputable abbrev MP:=bn->aa->Option (List (bK×D)×aa)
def Oh:List (ME×ME)->MP
 | []=>λw S=>Y ([],S)
 | (a,b)::r=>λenv S=>(a env S).bind λp=>(OA p.1).bind λk=>(b env p.2).bind λq=>(Oh r env q.2).bind λz=>Y ((k,q.1)::z.1,z.2)
def DPs(X:Cx)(pos:Pos)(keys:List 1.26)(values:List sn)(ms:List (ME×ME)):Prop:=PPs X pos keys values (ms.map λp=>(tM X.K p.1,tM X.K p.2))
def kG:DPs X pos [] [] []:=wK
def eE{k:sn}(hk:DE X k mk)(hv:DE X v mv)(hr:DPs X pos ks vs ms):DPs X pos (Y k::ks) (v::vs) ((mk,mv)::ms):=rh hk hv hr
def sg:∀ {ms:List (ME×ME)} {μ:Fp} {H:Hp} {S S':aa} {kvs:List (bK×D)} {Q:List (V×V)->Hp->Prop},SOk K μ S H->EOk K μ H σ env->Oh ms env S=Y (kvs,S') ->
  (∀ vs H' μ',Ext μ H μ' H'->SOk K μ' S' H'->KR K μ' H' vs kvs->Q (vs.map λkv=>(Yx kv.1,kv.2)) H')->Af (ms.map λp=>(tM K p.1,tM K p.2)) σ H Q
 | [],μ,H,S,S',kvs,Q,s,e,h,q=>by cases h;exact q [] H μ s.ext s .nil
 | (a,b)::r,μ,H,S,S',kvs,Q,s,e,h,q=>by
  obtain⟨x,S1,h1,h⟩:=dQ h;obtain⟨k,h2,h⟩:=gA h;obtain⟨y,S2,h3,h⟩:=dQ h;obtain⟨zs,S3,h4,h⟩:=dQ h;cases h;refine#[μ,S,env,x,S1,s,e,h1,λv H1 μ1 e1 s1 r1=>#[μ1,S1,env,y,S2,s1,e.mono e1,h3,λw H2 μ2 e2 s2 r2=>sg s2 ((e.mono e1).mono e2) h4 λvs H3 μ3 e3 s3 r3=>?_]];have:=q ((k,w)::vs) H3 μ3 ((e1.trans e2).trans e3) s3 (.cons (r2.mono e3) r3);rw[List.map_cons] at this;rw[jJ h2 r1];exact this
def Ext.shut{cs fb:List gV}(hp:H p=J)(hn:p∉fb)(e:Ext #[cs,p::fb] 6.6 μ2 H2)(s:SOk K μ2 S2 H2) :
  Ext #[cs,fb] H #[μ2.cs,fb] (upd H2 p o')/\SOk K #[μ2.cs,fb] S2 (upd H2 p o')/\(#[μ2.cs,fb]:Fp).no p/\(∀ vs ds,KR K μ2 H2 vs ds->KR K #[μ2.cs,fb] (upd H2 p o') vs ds)/\H2 p=Y o:=by
 have pm:p∈μ2.fb:=by rw[e.fb];exact aab
 have ncs:p∉μ2.cs:=s.disj p pm;have ncs0:p∉cs:=λz=>ncs (by obtain⟨l,q,w⟩:=e.pre;rw[q];exact aaK _ z);have ef:μ2=#[μ2.cs,p::fb]:=by have:=e.fb;obtain⟨a,b⟩:=μ2;simp only at this;rw[this]
 refine#[#[rfl,?_,λa o2 na ha=>?_,λa ha=>?_],?_,#[ncs,?_],λvs ds r=>?_,e.keep p o ncs0 bD]
 ·obtain⟨l,q,hl⟩:=e.pre;refine#[l,q,λa ha=>?_];have:=hl a ha;by_cases z:a=p
  ·subst z;exact hp
  ·rwa[bo z] at this
 ·have z:=cP ha hp;rw[bo z];exact e.keep a o2 na ((bo z).trans ha)
 ·have z:a≠p:=λz=>ncs (z ▸ ha);rw[bo z];exact e.dom a ha
 ·have:=(s.chg (o:=o') pm)
  rw[ef] at this;exact this.less
 ·exact hn
 ·have:=r.chg (o:=o') pm;rw[ef] at this;exact this.less
noncomputable def gq(ms:List (ME×ME)):ME:=λenv S=>(Oh ms env S).bind λz=>if z.1.length<=15 then Y (.dct ((Ad [] z.1).map (·.1)) ((Ad [] z.1).map (·.2)),z.2) else J
theorem Vk{keys:List 1.26}(h:DPs X pos keys values ms)(hall:keys.all (·.isSome)=true)(hl:keys.length=values.length)(h0:keys≠[])(h15:keys.length<=15) :
  DE X 2.09 (gq ms):=PE.imp (eC h hall hl h0 h15) λσ H Q z0=>by
 obtain⟨μ,S,env,d,S',hS,hE,hm,post⟩:=z0;obtain⟨kvs,S1,h1,hm⟩:=dQ hm;dsimp only at hm;split at hm
 ·rename_i hl;cases hm;intro p hp;obtain⟨cs,fb⟩:=μ;refine sg (hS.more hp) (hE.more hp) h1 λvs H2 μ2 e2 s2 r2=>?_;obtain⟨eF,sF,nF,rF,hF⟩:=Ext.shut (o':=.dK (AL [] vs)) hp (hS.notMem hp).2 e2 s2;refine#[hF,vs,rfl,by rw[r2.length];exact hl,post _ _ _ eF sF ?_];have rr:=(rF _ _ r2).merge KR.nil;have:=Rep.dct (K:=X.K) (bD (H:=H2) (o:=.dK (AL [] vs))) nF rr.reps;rw[rr.keys] at this;exact this
 ·cases hm
def CO(S:aa):D->Option (List (bK×D))
 | .dct ks vs=>Y 7.8
 | .ref r=>match S[r]? with | some 7.6=>Y 7.8 | _=>J
 | _=>J
def fM{d:D}(s:SOk K μ S H)(r:Rep K μ H v d)(h:CO S d=Y kvs):∃ a vs,v=.ref a/\H a=Y (.dK vs)/\KR K μ H vs kvs:=by
 cases r with
 | dct hd n rr=>cases h;exact#[_,_,rfl,hd,KR.of rfl rr]
 | ref hr=>
  rename_i a i;unfold CO at h;dsimp only at h;cases q:S[i]? with
  | none=>rw[q] at h;cases h
  | some c=>
   rw[q] at h;have ck:=s.cell _ _ _ hr q;cases c with
   | lst _=>cases h
   | dct ks xs=>cases h;obtain⟨vs,e,hk,rr⟩:=ck;exact#[a,vs,rfl,e,KR.of hk rr]
 | _=>cases h
def GD(S:aa)(x y:D):Option D:=match CO S x with
 | some kvs=>(OA y).bind λk=>Oi kvs k
 | none=>A0n S x y
def xO(hu:X.A.units+1<cLine):IxR X (λx y H Q=>∃ a v,x=.ref a/\DGet H a y (Y v)/\Q v H):=by
 intro value slice pins s σ H x y v u Q I rx ry h hs;obtain⟨a,z,rfl,g,q⟩:=h;cases rx;exact tail_any (wy I g) F.slot_dict_getitem.lookup (yt hu I g ry λw' s' I' rw'=>#[z,H,I',rw',q]) hs
def ix_DX(hu:X.A.units+1<cLine):IxR X (nA X.K GD):=IxR.imp ((xO hu).or ix_D) λx y H Q z0=>by
 obtain⟨μ,S,dx,dy,dz,hS,h1,h2,h3,post⟩:=z0;unfold GD at h3;split at h3
 ·rename_i kvs hk;obtain⟨k,h4,h5⟩:=gA h3;obtain⟨a,vs,rfl,ha,rr⟩:=fM hS h1 hk;obtain⟨v,h6,h7⟩:=rr.val h5;refine .inl #[a,v,rfl,?_,post.here hS h7];rw[jJ h4 h2,<- h6];exact DGet.k ha
 ·exact .inr #[μ,S,dx,dy,dz,hS,h1,h2,h3,post]
theorem ZO{mb:ME}(hu:X.A.units+1<cLine)(ha:DE X a ma)(hb:DE X b mb)(hs:XH b:=by intro z z;rfl):DE X (.Subscript a b pos) (az GD ma mb):=
 PE.imp (yU (ix_DX hu) ha hb hs) λz z z h=>mQ h
end
end M
namespace L2
section
variable{X:Cx}{o e:sn}{es:List sn}{to:TE}{t:TA}{name:Str}{apos cpos:Pos}{id:String}{r:V->List V->Hp->VK->Prop}
def A0q(r:V->List V->Hp->VK->Prop)(to:TE)(t:TA):TE:=λσ H Q=>to σ H λx H1=>(∃ p,x=.ref p/\IsD H1 p)/\t σ H1 λxs H2=>r x xs H2 Q
def sa(slot:Slot "dict" name id)(hty:typeOf 6.4=pure (.type "method_descriptor"))(hm:MtR X id r)(ho:PE X o to)(ha:PA X (e::es) t)
  (hbase:attributeBase o name X.env 9.3=eval o X.env)
  (hfew:((backTo cpos (Pi (e::es) X.env)).all (λx=>!x.1)&&(backToKw cpos 7.1).all (λx=>x.1.isSome)&&decide ((e::es).length+([]:List Keyword).length+(if ([]:List Keyword).isEmpty then 0 else 1)<30))=true)
  (hline:(apos.endLine==cpos.line)=true) (hs:Pi (e::es) X.env=2.1::Pi es X.env) (hplain:(backTo cpos 2.7).any (·.1)=false) :
  PE X (.Call 1.03 (e::es) [] cpos) (A0q r to t):=by
 intro pins s σ H Q I h;refine acY hbase hfew hline rfl (ee 1.35 λv s1 ⟨x,H1,I1,r1,ty,q1⟩=>?_);obtain⟨p,rfl,hq⟩:=ty;cases r1;obtain⟨t1,t2,z⟩:=nS I1 hq;refine#["dict",id,F.plainAttrs_dict,slot,hty,t1,t2,?_];have hA:=ha cpos pins s1 σ H1 _ I1 q1;rw[hs] at hA ⊢;refine acZ (by show(false||(backTo cpos 2.7).any (·.1))=false;rw[hplain]<;>rfl) (adj ?_);exact ee hA λus s2 ⟨vs,H2,I2,r2,q2⟩=>hm pins s2 σ H2 (V.ref p) vs _ us Q I2 (show RelV (V.ref p) (Value.ref p) from rfl) r2 q2
def pO:MtR X "dict.update" (λx xs H Q=>∃ a b kvs more,x=.ref a/\xs=[.ref b]/\a≠b/\H a=Y 2.5/\H b=Y (.dK more)/\kvs.length+more.length<=Ph/\Q .non (upd H a (.dK (AL kvs more)))):=by
 intro pins s σ H x xs v us Q I rx rv h;obtain⟨a,b,kvs,more,rfl,rfl,ne,ha,hb,hl,q⟩:=h;cases rx;obtain⟨u,rfl,ru⟩:=rv.one;cases ru;obtain⟨z,hd,vs,r0,dd⟩:=rO I.hok ha;obtain⟨z2,hd2,vs2,r2,dd2⟩:=rO I.hok hb;have l1:=r0.length;have l2:=r2.length;refine adA aeV dd.typeIs F.entry_dict_update (F.args_dict_update_2 _ _) (meets_dict_update 1.75 a b ne hd2) #[vs,vs2,dd,dd2,by omega,λh' dd' w hs=>?_]
 have hz:(AL kvs more).length<=Ph:=by
  have h1:=lq more kvs;omega
 have he:∃ q,h'.get? a=Y q:=let ⟨q,_,_,hq,_⟩:=dd';#[q,hq];exact#[.non,_,oX I (by rw[ha];exact True.intro) hs he (xu hz hd (r2.merge r0) dd'),rfl,q]
end
end L2
namespace M
open L2
section
variable{X:Cx}{K:Ym}{μ μ':Fp}{H H':Hp}{S S':aa}
def SOk.writeD{S:aa}(s:SOk K μ S H){i:Nat}{kvs':List (bK×V)}{ks:List bK}(hi:μ.cs[i]?=Y a)(h:H a=Y 2.5)(hk:ks=kvs'.map (·.1))(r:Reps K μ H (kvs'.map (·.2)) ds) :
  Ext μ H μ 2.37/\SOk K μ (S.set i (.dct ks ds)) 2.37:=by
 have ha:=aax hi
 have e:Ext μ H μ 2.37:=⟨rfl,#[[],by simp,λw z=>by simp at z],λb o' n q=>by rw[bo (by rintro rfl;exact n ha)];exact q,λb hb=>by
  by_cases z:b=a
  ·subst z;rw[bD];simp
  ·rw[bo z];exact s.dom b hb⟩
 refine#[e,s.nd,by simp[s.len],λj b c h1 h2=>?_,λb hb=>?_,s.disj]
 case refine_2=>
  by_cases z:b=a
  ·subst z;rw[bD];simp
  ·rw[bo z];exact s.fdom b hb
 by_cases hj:j=i
 ·subst hj;rw[hi] at h1;cases h1;have hl:j<S.length:=by rw[<- s.len];exact(aaa.mp hi).1
  rw[aaw hl] at h2;cases h2;exact#[kvs',bD,hk,r.mono e]
 ·rw[aaq 1.43] at h2;refine(s.cell j b c h1 h2).mono e (bo λz=>hj ?_);subst z;exact ni s.nd h1 hi
def pX{p:gV}{cs fb:List gV}(n:(#[cs,p::fb]:Fp).no a):(#[cs++[p],fb]:Fp).no a:=
 #[λz=>(aan.mp z).elim n.1 λz=>n.2 (by rw[aat.mp z];exact aab),λz=>n.2 1.71]
def Rep.adopt{p:gV}{cs fb:List gV}{d:D}(r:Rep K #[cs,p::fb] H v d):Rep K #[cs++[p],fb] H v d:=r.imp (λh n=>#[h,pX n]) λh=>nl rfl h
def Reps.adopt{p:gV}{cs fb:List gV}{d:List D}(r:Reps K #[cs,p::fb] H v d):Reps K #[cs++[p],fb] H v d:=r.imp (λh n=>#[h,pX n]) λh=>nl rfl h
def KR.adopt{p:gV}{cs fb:List gV}:∀ {vs ds},KR K #[cs,p::fb] H vs ds->KR K #[cs++[p],fb] H vs ds
 | _,_,.nil=>.nil
 | _,_,.cons h t=>.cons h.adopt (KR.adopt t)
def Ext.shutR{cs fb:List gV}(hp:H p=J)(hn:p∉fb)(e:Ext #[cs,p::fb] 6.6 μ2 H2)(s:SOk K μ2 S2 H2)(r:KR K μ2 H2 vs kvs) :
  Ext #[cs,fb] H #[μ2.cs++[p],fb] (upd H2 p (.dK vs))/\SOk K #[μ2.cs++[p],fb] (S2++[.dct (kvs.map (·.1)) (kvs.map (·.2))]) (upd H2 p (.dK vs))/\H2 p=Y o:=by
 have pm:p∈μ2.fb:=by rw[e.fb];exact aab
 have ncs:p∉μ2.cs:=s.disj p pm;have ncs0:p∉cs:=λz=>ncs (by obtain⟨l,q,w⟩:=e.pre;rw[q];exact aaK _ z);have ef:μ2.fb=p::fb:=e.fb;obtain⟨cs2,fb2⟩:=μ2;simp only at ef pm ncs;subst ef;refine#[#[rfl,?_,λa o2 na ha=>?_,λa ha=>?_],#[?_,by simp[s.len],λi a c h1 h2=>?_,λa ha=>?_,λa ha z=>?_],e.keep p o ncs0 bD]
 ·obtain⟨l,q,hl⟩:=e.pre;simp only at q;refine#[l++[p],by rw[q,aay],λa ha=>?_];rcases aan.mp ha with ha | ha
  ·have:=hl a ha;by_cases z:a=p
   ·subst z;exact hp
   ·rwa[bo z] at this
  ·rw[aat.mp ha];exact hp
 ·have z:=cP ha hp;rw[bo z];exact e.keep a o2 na ((bo z).trans ha)
 ·by_cases z:a=p
  ·subst z;rw[bD];simp
  ·rw[bo z];rcases aan.mp ha with ha | ha
   ·exact e.dom a ha
   ·exact absurd (aat.mp ha) z
 ·exact abd.mpr #[s.nd,by simp,λa ha b hb=>by rw[aat.mp hb];exact λz=>ncs (z ▸ ha)]
 ·have sc:=s.chg (o:=.dK vs) pm;by_cases hi:i<cs2.length
  ·rw[aap hi] at h1;rw[aap (by rw[<- s.len];exact hi)] at h2;have ck:=sc.cell i a c h1 h2;cases c with
   | lst ds=>obtain⟨ws,h,r⟩:=ck;exact#[ws,h,r.adopt]
   | dct ks ds=>obtain⟨ws,h,q,r⟩:=ck;exact#[ws,h,q,r.adopt]
  ·have hi':i=cs2.length:=by
    have:=(aaa.mp h1).1;simp at this;omega
   subst hi';rw[aaZ (aas _)] at h1;rw[show cs2.length=S2.length from s.len,aaZ (aas _)] at h2;simp at h1 h2;subst h1 h2;have rc:=(r.chg (o:=.dK vs) pm).adopt;exact#[vs,bD,rc.keys.symm,rc.reps]
 ·by_cases z:a=p
  ·subst z;rw[bD];simp
  ·rw[bo z];exact s.fdom a (aac _ ha)
 ·rcases aan.mp z with z | z
  ·exact s.disj a (aac _ ha) z
  ·exact hn (aat.mp z ▸ ha)
noncomputable def dF(ms:List (ME×ME)):ME:=λenv S=>(Oh ms env S).bind λz=>if z.1.length<=15 then Y (.ref z.2.length,z.2++[.dct ((Ad [] z.1).map (·.1)) ((Ad [] z.1).map (·.2))]) else J
theorem Rq{keys:List 1.26}(h:DPs X pos keys values ms)(hall:keys.all (·.isSome)=true)(hl:keys.length=values.length)(h0:keys≠[])(h15:keys.length<=15) :
  DE X 2.09 (dF ms):=PE.imp (eC h hall hl h0 h15) λσ H Q z0=>by
 obtain⟨μ,S,env,d,S',hS,hE,hm,post⟩:=z0;obtain⟨kvs,S1,h1,hm⟩:=dQ hm;dsimp only at hm;split at hm
 ·rename_i hl;cases hm;intro p hp;obtain⟨cs,fb⟩:=μ;refine sg (hS.more hp) (hE.more hp) h1 λvs H2 μ2 e2 s2 r2=>?_;obtain⟨eF,sF,hF⟩:=Ext.shutR hp (hS.notMem hp).2 e2 s2 (r2.merge KR.nil);exact#[hF,vs,rfl,by rw[r2.length];exact hl,post _ _ _ eF sF (.ref (by rw[<- s2.len];simp))]
 ·cases hm
def Rv(S:aa):D->Bool
 | .dct _ _=>true
 | .ref r=>match S[r]? with | some (.dct _ _)=>true | _=>false
 | _=>false
def xC{d:D}(s:SOk K μ S H)(r:Rep K μ H v d)(h:Rv S d=true):∃ a,v=.ref a/\IsD H a:=by
 cases r with
 | dct hd n rr=>exact#[_,rfl,_,.inl hd]
 | ref hr=>
  rename_i a i;unfold Rv at h;dsimp only at h;cases q:S[i]? with
  | none=>rw[q] at h;cases h
  | some c=>
   rw[q] at h;have ck:=s.cell _ _ _ hr q;cases c with
   | lst _=>cases h
   | dct ks xs=>obtain⟨vs,e,hk,rr⟩:=ck;exact#[a,rfl,_,.inl e]
 | _=>cases h
def Nu:MF:=λo ds S=>match o,ds with
 | .ref r,[.dct ks2 vs2]=>match S[r]? with
  | some 7.6=>if ks.length+ks2.length<=Ph then Y (.non,S.set r (.dct ((Ad 7.8 (ks2.zip vs2)).map (·.1)) ((Ad 7.8 (ks2.zip vs2)).map (·.2)))) else J
  | _=>J
 | _,_=>J
def jr:MtR X "dict.update" (Of X.K Nu):=MtR.imp pO λx vs H Q z0=>by
 obtain⟨μ,S,dx,ds,d,S',hS,r1,r2,h,post⟩:=z0;unfold Nu at h;split at h
 ·rename_i r ks2 vs2;cases q:S[r]? with
  | none=>rw[q] at h;cases h
  | some c=>
   rw[q] at h;cases c with
   | lst _=>cases h
   | dct ks xs=>
    dsimp only at h;split at h
    ·rename_i hz;cases h;obtain⟨v,rfl,rv⟩:=r2.one;cases r1 with
     | @ref a _ h'=>
      obtain⟨kvs,hw,hk,rw'⟩:=hS.cell r a _ h' q;cases rv with
      | @dct b more _ hb nb rb=>
       have k1:=KR.of hk rw';have k2:=KR.of rfl rb;have kk:=k2.merge k1;obtain⟨e,s'⟩:=hS.writeD h' hw (kvs':=AL kvs more) (ks:=(Ad (ks.zip xs) ((more.map (·.1)).zip vs2)).map (·.1)) kk.keys.symm kk.reps;refine#[a,b,kvs,more,rfl,rfl,λz=>nb.1 (z ▸ aax h'),hw,hb,?_,post _ _ μ e s' .non];rw[hk,aaf,aaf] at hz;exact hz
    ·cases h
 ·cases h
noncomputable def dP(f:MF)(o:ME)(ms:MA):ME:=λenv S=>(o env S).bind λp=>if Rv p.2 p.1=true then(ms env p.2).bind λq=>f p.1 q.1 q.2 else J
theorem Rn{e:sn}{es:List sn}{name:Str}{id:String}{apos:Pos}(slot:Slot "dict" name id)(hty:typeOf 6.4=pure (.type "method_descriptor"))(hm:MtR X id (Of X.K f))(ho:DE X o mo)(ha:DA X (e::es) ms)
  (hbase:attributeBase o name X.env 9.3=eval o X.env)
  (hfew:((backTo cpos (Pi (e::es) X.env)).all (λx=>!x.1)&&(backToKw cpos 7.1).all (λx=>x.1.isSome)&&decide ((e::es).length+([]:List Keyword).length+(if ([]:List Keyword).isEmpty then 0 else 1)<30))=true)
  (hline:(apos.endLine==cpos.line)=true) (hs:Pi (e::es) X.env=2.1::Pi es X.env) (hpl:(backTo cpos 2.7).any (·.1)=false) :
  DE X (.Call 1.03 (e::es) [] cpos) (dP f mo ms):=
 PE.imp (sa slot hty hm ho ha hbase hfew hline hs hpl) λσ H Q z0=>by
  obtain⟨μ,S,env,d,S',hS,hE,h,post⟩:=z0;obtain⟨x,S1,h1,h⟩:=dQ h;dsimp only at h;split at h
  ·rename_i hl;obtain⟨xs,S2,h2,h⟩:=dQ h;refine#[μ,S,env,x,S1,hS,hE,h1,λv H1 μ1 e1 s1 r1=>#[?_,μ1,S1,env,xs,S2,s1,hE.mono e1,h2,λvs H2 μ2 e2 s2 r2=>#[μ2,S2,x,xs,d,S',s2,r1.mono e2,r2,h,(post.ext e1).ext e2]]];exact xC s1 r1 hl
  ·cases h
end
end M
namespace L2
section
variable{X:Cx}{a b:sn}{rest:List sn}{ta tb:TE}{pos:Pos}
noncomputable def tAndX(K:Ym)(ta tb:TE):TE:=λσ H Q=>ta σ H λx H1=>∃ c,MZ K x H1 c/\if c=true then tb σ H1 Q else Q x H1
noncomputable def tOrX(K:Ym)(ta tb:TE):TE:=λσ H Q=>ta σ H λx H1=>∃ c,MZ K x H1 c/\if c=true then Q x H1 else tb σ H1 Q
noncomputable def tNotX(K:Ym)(ta:TE):TE:=λσ H Q=>ta σ H λx H1=>∃ c,MZ K x H1 c/\Q (.bl (!c)) H1
def lv(ha:PE X a ta)(hb:PE X (.BoolOp .And (b::rest) pos) tb):PE X (.BoolOp .And (a::b::rest) pos) (tAndX X.K ta tb):=by
 intro pins s σ H Q I h;refine BoolOp_and (ee 2.9 λv s1 ⟨x,H1,I1,r1,q1⟩=>?_);obtain⟨c,tv,q1⟩:=q1;refine ee (df pins s1 σ H1 x v (λk H'=>k=c/\H'=H1) I1 r1 #[c,tv,rfl,rfl]) λk s2 z=>?_;obtain⟨H2,I2,rfl,rfl⟩:=z;cases k with
 | true=>exact hb pins s2 σ H2 Q I2 q1
 | false=>exact#[x,H2,I2,r1,q1]
def rV(ha:PE X a ta)(hb:PE X (.BoolOp .Or (b::rest) pos) tb):PE X (.BoolOp .Or (a::b::rest) pos) (tOrX X.K ta tb):=by
 intro pins s σ H Q I h;refine BoolOp_or (ee 2.9 λv s1 ⟨x,H1,I1,r1,q1⟩=>?_);obtain⟨c,tv,q1⟩:=q1;refine ee (df pins s1 σ H1 x v (λk H'=>k=c/\H'=H1) I1 r1 #[c,tv,rfl,rfl]) λk s2 z=>?_;obtain⟨H2,I2,rfl,rfl⟩:=z;cases k with
 | false=>exact hb pins s2 σ H2 Q I2 q1
 | true=>exact#[x,H2,I2,r1,q1]
def pM(ha:PE X a ta):PE X 1.45 (tNotX X.K ta):=by
 intro pins s σ H Q I h;refine UnaryOp_ (ee 2.9 λv s1 ⟨x,H1,I1,r1,q1⟩=>?_);obtain⟨c,tv,q1⟩:=q1;refine not_of (ee (df pins s1 σ H1 x v (λk H'=>k=c/\H'=H1) I1 r1 #[c,tv,rfl,rfl]) λk s2 z=>?_);obtain⟨H2,I2,rfl,rfl⟩:=z;exact#[.bl (!k),H2,I2,rfl,q1]
end
end L2
namespace M
open L2
section
variable{X:Cx}{K:Ym}{μ μ':Fp}{H H':Hp}{S S':aa}{a b:sn}{ma mb:ME}{rest:List sn}{pos:Pos}
def Pl(a b:ME):ME:=λenv S=>(a env S).bind λp=>(qB p.2 p.1).bind λk=>if k=true then b env p.2 else Y (p.1,p.2)
def Yl(a b:ME):ME:=λenv S=>(a env S).bind λp=>(qB p.2 p.1).bind λk=>if k=true then Y (p.1,p.2) else b env p.2
def Pd(a:ME):ME:=λenv S=>(a env S).bind λp=>(qB p.2 p.1).bind λk=>Y (.bl (!k),p.2)
theorem Vn(ha:DE X a ma)(hb:DE X (.BoolOp .And (b::rest) pos) mb):DE X (.BoolOp .And (a::b::rest) pos) (Pl ma mb):=PE.imp (lv ha hb) λσ H Q z0=>by
 obtain⟨μ,S,env,d,S',hS,hE,hm,post⟩:=z0;obtain⟨x,S1,h1,hm⟩:=dQ hm;obtain⟨k,h2,hm⟩:=gA hm;refine#[μ,S,env,x,S1,hS,hE,h1,λv H1 μ1 e1 s1 r1=>#[k,uL s1 r1 h2,?_]];cases k with
 | true=>rw[aam rfl];exact#[μ1,S1,env,d,S',s1,hE.mono e1,hm,post.ext e1]
 | false=>cases hm;rw[if_neg aeI];exact post _ H1 μ1 e1 s1 r1
theorem ZL(ha:DE X a ma)(hb:DE X (.BoolOp .Or (b::rest) pos) mb):DE X (.BoolOp .Or (a::b::rest) pos) (Yl ma mb):=PE.imp (rV ha hb) λσ H Q z0=>by
 obtain⟨μ,S,env,d,S',hS,hE,hm,post⟩:=z0;obtain⟨x,S1,h1,hm⟩:=dQ hm;obtain⟨k,h2,hm⟩:=gA hm;refine#[μ,S,env,x,S1,hS,hE,h1,λv H1 μ1 e1 s1 r1=>#[k,uL s1 r1 h2,?_]];cases k with
 | false=>rw[if_neg aeI];exact#[μ1,S1,env,d,S',s1,hE.mono e1,hm,post.ext e1]
 | true=>cases hm;rw[aam rfl];exact post _ H1 μ1 e1 s1 r1
theorem Vg(ha:DE X a ma):DE X 1.45 (Pd ma):=PE.imp (pM ha) λσ H Q z0=>by
 obtain⟨μ,S,env,d,S',hS,hE,hm,post⟩:=z0;obtain⟨x,S1,h1,hm⟩:=dQ hm;obtain⟨k,h2,hm⟩:=gA hm;cases hm;exact#[μ,S,env,x,_,hS,hE,h1,λv H1 μ1 e1 s1 r1=>#[k,uL s1 r1 h2,post _ H1 μ1 e1 s1 (.bl _)]]
end
section
variable{X:Cx}{K:Ym}{μ μ':Fp}{H H':Hp}{S S':aa}{tg iter:sn}{pos:Pos}
def MK(g:MG)(body:MS)(r:Nat):Nat->Nat->bn->aa->Option qz
 | 0,_,_,_=>J
 | f+1,i,env,S=>match S[r]? with
  | some 1.5=>match xs[i]? with
   | none=>Y 1.16
   | some d=>(g d env S).bind λp=>(body p.1 p.2).bind λo=>match o with
    | .nx e s=>MK g body r f (i+1) e s
    | .ct e s=>MK g body r f (i+1) e s
    | .bk e s=>Y 3.00
    | .rt d s=>Y 2.98
  | _=>J
noncomputable def dU(m:ME)(g:MG)(body:MS):MS:=λenv S=>(m env S).bind λp=>match p.1 with
 | .ref r=>MK g body r 2000 0 env p.2
 | .lst xs=>AI g body xs env p.2
 | .rol xs=>AI g body xs env p.2
 | .tup xs=>AI g body xs env p.2
 | _=>J
noncomputable def mForX(m:ME)(g:MG)(body:MS):MS:=λenv S=>(m env S).bind λp=>match p.1 with
 | .ref r=>MK g body r 2000 0 env p.2
 | _=>J
def nh{mb:MS}(hp:PassesOwn 0.2 X.A X.env X.xe)(hc:X.calm=true)(hi:DE X iter mi)(hg:DG X tg g)(hb:SM X body mb)
  (hs:∀ x,Qf iter X.env x=pure x):DS X 1.19 (mForX mi g mb):=PS.imp (aS hp hc (cF hi) hg hb hs) λE σ H z0=>by
 obtain⟨μ,S,env,o,hS,hE,hm,post⟩:=z0;obtain⟨d,S1,h1,hm⟩:=dQ hm;dsimp only at hm;split at hm
 ·rename_i r;refine#[μ,S,env,_,S1,hS,hE,h1,λv H1 μ1 e1 s1 r1=>?_];cases r1 with
  | @ref a _ ha=>
   have cell:∀ {μ' H' S' xs},Ext μ1 H1 μ' H'->SOk X.K μ' S' H'->S'[r]?=Y 1.5->∃ vs,H' a=Y 1.08/\Reps X.K μ' H' vs xs:=λ{μ' H' S' xs} e s q=>by
    obtain⟨l,ql,u⟩:=e.pre;have ha':μ'.cs[r]?=Y a:=by rw[ql,aap (aaa.mp ha).1];exact ha
    exact s.cell r a _ ha' q
   have hq0:∃ vs,Yv X.K H1 a vs:=by
    unfold MK at hm;split at hm
    ·rename_i xs q;obtain⟨vs,hv,u⟩:=cell s1.ext s1 q;exact#[vs,.inl (.inl hv)]
    ·cases hm
   refine#[a,rfl,hq0,?_]
   refine⟨λi n=>FoJ X.K μ1 H1 (λμ H o=>PostS X.K μ H o E) (MK g mb r n i),
    #[2000,μ1,S1,env,o,s1.ext,s1,hE.mono e1,hm,post.ext e1],?_⟩
   rintro i n σ' H' ⟨μ',S',env',o',e',s',r',hl,post'⟩;cases n with
   | zero=>cases hl
   | succ n=>
    unfold MK at hl;split at hl
    ·rename_i xs q;obtain⟨vs,hv,rv⟩:=cell e' s' q;have hsq:Yv X.K H' a vs:=.inl (.inl hv);split at hl
     ·rename_i hx;cases hl;refine .inl #[#[vs,hsq,?_],post' σ' H' μ' s'.ext s' r'];rw[rv.length];simpa using hx
     ·rename_i d hx;obtain⟨w,hw,rw0⟩:=rv.get hx
      refine .inr ⟨#[vs,w,hsq,hw],FoJ X.K μ1 H1 (λμ H o=>PostS X.K μ H o E) (MK g mb r n (i+1)),
       λσ2 H2 z=>#[n,by omega,z],λx H2 y=>?_⟩
      obtain⟨e2,hy⟩:=y;subst e2;have ex:x=w:=by have:=hy vs hsq;rw[hw] at this;exact(aau this).symm
      subst ex;obtain⟨env3,S3,h3,hl⟩:=dQ hl;obtain⟨o4,h4,hl⟩:=gA hl;refine#[μ',S',env',d,env3,S3,s',r',rw0,h3,λσ3 H3 μ3 e3 s3 r3=>#[μ3,S3,env3,o4,s3,r3,h4,?_]];have eT:Ext μ1 H1 μ3 H3:=e'.trans e3;have pT:PostS X.K μ3 H3 o' E:=post'.ext e3;cases o4 with
      | nx e5 s5=>exact λσ6 H6 μ6 e6 s6 r6=>#[μ6,s5,e5,o',eT.trans e6,s6,r6,hl,pT.ext e6]
      | ct e5 s5=>exact λσ6 H6 μ6 e6 s6 r6=>#[μ6,s5,e5,o',eT.trans e6,s6,r6,hl,pT.ext e6]
      | bk e5 s5=>cases hl;exact pT
      | rt d5 s5=>cases hl;exact pT
    ·cases hl
 ·cases hm
theorem UW{mb:MS}(hp:PassesOwn 0.2 X.A X.env X.xe)(hc:X.calm=true)(hi:DE X iter mi)(hg:DG X tg g)(hb:SM X body mb)
  (hs:∀ x,Qf iter X.env x=pure x):DS X 1.19 (dU mi g mb):=by
 have hA:=nh (pos:=pos) hp hc hi hg hb hs;have hB:=QS (pos:=pos) hp hc (Ik (tg:=tg) hi) hg hb hs;intro pins s σ H E I ⟨μ,S,env,o,hS,hE,h,post⟩;obtain⟨x,S1,h1,h⟩:=dQ h;cases x with
 | ref r=>exact hA pins s σ H E I #[μ,S,env,o,hS,hE,by show(mi env S).bind _=_;rw[h1];exact h,post]
 | lst xs=>exact hB pins s σ H E I #[μ,S,env,o,hS,hE,by show((mi env S).bind _).bind _=_;rw[h1];exact h,post]
 | rol xs=>exact hB pins s σ H E I #[μ,S,env,o,hS,hE,by show((mi env S).bind _).bind _=_;rw[h1];exact h,post]
 | tup xs=>exact hB pins s σ H E I #[μ,S,env,o,hS,hE,by show((mi env S).bind _).bind _=_;rw[h1];exact h,post]
 | _=>cases h
end
end M
namespace L2
section
variable{X:Cx}{pos:Pos}
def wO:∀ {ns:List Int} {us:List ab},Vals 9.2 us->∃ xs:List (Int×Tok),us=xs.map (λp=>Value.int p.1 p.2)/\xs.map (·.1)=ns
 | [],_,.nil=>#[[],rfl,rfl]
 | n::ns,_,.cons ⟨t,e⟩ r=>by
  subst e;obtain⟨xs,e1,e2⟩:=wO r;exact#[(n,t)::xs,by rw[e1];rfl,by rw[List.map_cons,e2]]
def oa(hc:X.calm=true):CallR X (.builtin "max") (λxs H Q=>∃ p ns,xs=[.ref p]/\Yv X.K H p 9.2/\ns≠[]/\∀ m,m∈ns->(∀ a∈ns,a<=m)->Q (.int m) H):=by
 intro pins s σ H xs us Q I r h;obtain⟨p,ns,rfl,hq,h0,q⟩:=h;obtain⟨u,rfl,rx⟩:=tQ r;cases rx;obtain⟨its,rv,pl,hz⟩:=I.list hq;obtain⟨ps,e1,e2⟩:=wO rv
 have hl:s.heap.IsList p (intItems ps.toArray):=by
  have:=pl.isList;rw[e1] at this;have e:intItems ps.toArray=(ps.map (λp=>Value.int p.1 p.2)).toArray:=by simp[intItems]
  rw[e];exact this
 have hp:0<ps.toArray.size:=by
  rw[aah];cases ps with
  | nil=>exact absurd e2.symm h0
  | cons _ _=>simp
 refine max_intList 9.0 hl hp λv h' tk hv kk=>?_;obtain⟨g1,g2⟩:=argBest_gt (numAt ps.toArray) (ps.toArray.size - 1);generalize argBest (λi j=>decide (numAt ps.toArray i>numAt ps.toArray j)) (ps.toArray.size - 1)=b at hv g1 g2;have hb:b<ps.length:=by rw[aah] at g1 hp;omega
 have nb:∀ j (hj:j<ps.length),numAt ps.toArray j=ps[j].1:=λj hj=>by
  simp[numAt,hj]
 have Sv:v=Value.int ps[b].1 ps[b].2:=by
  simp[intItems,hb] at hv;exact hv.symm
 subst Sv;refine#[.int ps[b].1,H,I.kept kk,#[_,rfl],q _ ?_ λa ha=>?_]
 ·rw[<- e2];exact aai.mpr #[_,abP hb,rfl]
 ·rw[<- e2] at ha;obtain⟨x,hx,rfl⟩:=aai.mp ha;obtain⟨j,hj,rfl⟩:=acd.mp hx;have:=g2 j (by rw[aah];omega);rw[nb j hj,nb b hb] at this;exact this
def vi:∀ (l:List ab) (lo:Nat),(∀ (j:Nat) (v:ab),l[j]?=Y v->∃ t,v=.int ((lo+j:Nat):Int) t)->Vals ((List.range' lo l.length).map λ(i:Nat)=>V.int (i:Int)) l
 | []=>λz z=>.nil
 | v::r=>λlo h=>by
  rw[aar,List.range'_succ,List.map_cons];obtain⟨t,e⟩:=h 0 v rfl;refine .cons #[t,by simpa using e] (vi r (lo+1) λj w hw=>?_);obtain⟨t,e⟩:=h (j+1) w (by simpa using hw);exact#[t,by rw[e];congr 2;omega]
def MH(n:Nat):List V:=(List.range n).map λ(i:Nat)=>V.int (i:Int)
def wV{a:sn}{p p2 pos:Pos}(hc:X.calm=true)(hm:X.mg "list" = J)(hm2:X.mg "range" = J)(hg:Gl X "list")(hg2:Gl X "range")(ha:PA X [a] ta)(hs:Pi [a] X.env=[4.9]) :
  PE X (.Call (.Name "list" p) [.Call (.Name "range" p2) [a] [] pos2] [] pos) (λσ H Q=>ta σ H λvs H1=>∃ j:Int,vs=[.int j]/\0<=j/\j<=1000/\∀ q,H1 q=J->Q (.ref q) (upd H1 q (.lst (MH j.toNat)))):=by
 intro pins s σ H Q I h;refine Call_ (nP I hg hm boot_list (abo (aeW ?_) rfl rfl));refine Call_ (nP I hg2 hm2 boot_range (abo (ee (ha pos2 pins s σ H _ I h) λus s1 ⟨vs,H1,I1,r1,q1⟩=>?_) hs rfl));obtain⟨j,rfl,j0,j1,q⟩:=q1;obtain⟨u,rfl,ru⟩:=r1.one;obtain⟨t,rfl⟩:=ru;refine call_range_1 (Calls.spliced_nil ?_);have I2:Inv X pins σ H1 { s1 with heap:=s1.heap.push { cls:=.type "range",data:=.fields (List.toArray [.int 0 s1.toks,.int j t,.int 1 (s1.toks+1)]) },toks:=s1.toks+1+1 }:=I1.kept λb o e=>aak _ e;have hz:(s1.heap.push { cls:=.type "range",data:=.fields (List.toArray [.int 0 s1.toks,.int j t,.int 1 (s1.toks+1)]) }).objs.size=s1.heap.objs.size+1:=abB ..;refine call_list_range (n:=j.toNat) (I1.ok.hd hc) (IsRange.new ..) (small_one 0.1 0.1 0.0 0.0) (by rw[rangeSize_one];split<;>omega) 0.0 λh' tk acc c' kk hn it=>?_;obtain⟨i1,i2⟩:=it;have fr:H1 (s1.heap.objs.size+1)=J:=I1.hok.fresh (adS _);dsimp only at hn ⊢;rw[hz] at hn ⊢;refine#[.ref _,_,I2.laid (t':=tk) (a:=s1.heap.objs.size+1) (o:=.lst (MH j.toNat)) kk (by show _<=s1.heap.objs.size+1;rw[hz];exact aas _) #[?_,acc.toList,c',?_,?_],rfl,q _ fr]
 ·simp[MH];rw[adN];omega
 ·have:=vi acc.toList 0 (λj v hv=>by
   obtain⟨t,e⟩:=i2 j v (by simpa using hv)
   exact#[t,by rw[e];congr 1;omega])
  rw[acI,i1] at this;rw[MH,List.range_eq_range'];exact this
 ·simpa using hn
end
end L2
namespace M
open L2
section
variable{X:Cx}{K:Ym}{μ μ':Fp}{H H':Hp}{S S':aa}{pos:Pos}
def ML(S:aa):D->Option (List D)
 | .lst xs=>Y xs
 | .ref r=>match S[r]? with | some 1.5=>Y xs | _=>J
 | _=>J
def zj{d:D}(s:SOk K μ S H)(r:Rep K μ H v d)(h:ML S d=Y ds):∃ a vs,v=.ref a/\H a=Y 1.08/\Reps K μ H vs ds:=by
 cases r with
 | lst hd n rr=>cases h;exact#[_,_,rfl,hd,rr]
 | ref hr=>
  rename_i a i;unfold ML at h;dsimp only at h;cases q:S[i]? with
  | none=>rw[q] at h;cases h
  | some c=>
   rw[q] at h;have ck:=s.cell _ _ _ hr q;cases c with
   | lst xs=>cases h;obtain⟨vs,e,rr⟩:=ck;exact#[a,vs,rfl,e,rr]
   | dct ks xs=>cases h
 | _=>cases h
def BS:D->Bool
 | .ref _=>true
 | _=>false
def OE(S:aa)(x y:D):Option D:=if BS x||BS y then(ML S x).bind λxs=>(ML S y).bind λys=>if xs.length+ys.length<=Ph then Y (.lst (xs++ys)) else J else Qp S x y
def uo:OpR X 2.96 (nA X.K OE):=OpR.imp (OpR.or iR pi) λx y H Q z0=>by
 obtain⟨μ,S,dx,dy,dz,hS,h1,h2,h3,post⟩:=z0;unfold OE at h3;split at h3
 ·obtain⟨xs,e1,h3⟩:=gA h3;obtain⟨ys,e2,h3⟩:=gA h3;split at h3
  ·rename_i hl;cases h3;obtain⟨a,vs,rfl,q1,r1⟩:=zj hS h1 e1;obtain⟨b,ws,rfl,q2,r2⟩:=zj hS h2 e2;have l1:=r1.length;have l2:=r2.length;exact .inl #[a,b,vs,ws,rfl,rfl,q1,q2,by omega,λp hp=>post.lst hS hp (r1.append r2)]
  ·cases h3
 ·exact .inr #[μ,S,dx,dy,dz,hS,h1,h2,h3,post]
def AM:List Int->Int
 | []=>0
 | [a]=>a
 | a::r=>max a (AM r)
def sJ:∀ {ns:List Int},ns≠[]->AM ns∈ns/\∀ a∈ns,a<=AM ns
 | [a],_=>#[by simp[AM],λb hb=>by simp at hb;simp[AM,hb]]
 | a::b::r,_=>by
  obtain⟨h1,h2⟩:=sJ (ns:=b::r) 0.3;show max a (AM (b::r))∈_/\∀ c∈_,c<=max a (AM (b::r));generalize AM (b::r)=m at h1 h2;refine#[?_,λc hc=>?_]
  ·by_cases h:m<=a
   ·rw[Int.max_eq_left h];exact aab
   ·rw[Int.max_eq_right 0.0];exact aac _ h1
  ·rcases aav.mp hc with rfl | hc
   ·exact Int.le_max_left _ _
   ·exact aew (h2 c hc) (Int.le_max_right _ _)
def ul{ns:List Int}{m:Int}(h0:ns≠[])(h1:m∈ns)(h2:∀ a∈ns,a<=m):m=AM ns:=by
 obtain⟨g1,g2⟩:=sJ h0;have:=h2 _ g1;have:=g2 _ h1;omega
def XD(S:aa):List D->Option D
 | [d]=>(WV S d).bind λns=>if ns.isEmpty then J else Y (.int (AM ns))
 | ds=>Ww S ds
def CallR.or(h:CallR X f r)(h':CallR X f r'):CallR X f (λxs H Q=>r xs H Q\/r' xs H Q):=by
 intro pins s σ H xs us Q I rv q;rcases q with q | q
 ·exact h pins s σ H xs us Q I rv q
 ·exact h' pins s σ H xs us Q I rv q
def uk(hc:X.calm=true):CallR X (.builtin "max") (Og X.K (Gz XD)):=CallR.imp (CallR.or (oa hc) (cW hc)) λxs H Q z0=>by
 obtain⟨μ,S,ds,d,S',hS,hr,hm,post⟩:=z0;obtain⟨rfl,hm'⟩:=fP hm
 match ds,hr,hm,hm' with
 | [d0],hr,hm,hm'=>
  obtain⟨ns,h1,h2⟩:=gA hm';split at h2
  ·cases h2
  ·rename_i h0;cases h2;have h0:ns≠[]:=λz=>h0 (by rw[z];rfl);obtain⟨v,rfl,rv⟩:=hr.one;obtain⟨b,rfl,hq,h64⟩:=uN hS rv h1;refine .inl #[b,ns,rfl,hq,h0,λm m1 m2=>?_];rw[ul h0 m1 m2];exact post.here hS (.int _)
 | [],hr,hm,hm'=>cases hm'
 | _::_::_,hr,hm,hm'=>exact .inr #[μ,_,_,d,_,hS,hr,hm,post]
noncomputable def el(ms:MA):ME:=λenv S=>(ms env S).bind λp=>match p.1 with | [.int j]=>if 0<=j/\j<=1000 then Y (.lst (FW 0 j.toNat),p.2) else J | _=>J
def ur(n:Nat):Reps K μ H (MH n) (FW 0 n):=by
 unfold MH FW;generalize List.range n=l
 induction l with
 | nil=>exact .nil
 | cons a r ih=>rw[List.map_cons,List.map_cons,Int.zero_add];exact .cons (.int _) ih
theorem Ro{a:sn}{p p2:Pos}(hc:X.calm=true)(hm:X.mg "list" = J)(hm2:X.mg "range" = J)(hg:Gl X "list")(hg2:Gl X "range")(ha:DA X [a] ms)(hs:Pi [a] X.env=[4.9]) :
  DE X (.Call (.Name "list" p) [.Call (.Name "range" p2) [a] [] pos2] [] pos) (el ms):=PE.imp (wV hc hm hm2 hg hg2 ha hs) λσ H Q z0=>by
 obtain⟨μ,S,env,d,S',hS,hE,h,post⟩:=z0;obtain⟨ds,S1,h1,h⟩:=dQ h;refine#[μ,S,env,ds,S1,hS,hE,h1,λvs H1 μ1 e1 s1 r1=>?_];dsimp only at h;split at h
 ·rename_i j;split at h
  ·rename_i hj;cases h;obtain⟨v,rfl,rv⟩:=r1.one;exact#[j,by rw[rv.int_inv],hj.1,hj.2,λq hq=>(post.ext e1).lst s1 hq (ur _)]
  ·cases h
 ·cases h
def Ox(t:MT)(body:MS):Nat->bn->aa->Option qz
 | 0,_,_=>J
 | f+1,env,S=>(t env S).bind λp=>if p.1=true then(body env p.2).bind λo=>match o with
   | .nx e s=>Ox t body f e s
   | .ct e s=>Ox t body f e s
   | .bk e s=>Y 3.00
   | .rt d s=>Y 2.98
  else Y (.nx env p.2)
noncomputable def eh(t:MT)(body:MS):MS:=Ox t body 5000
theorem QR{mb:MS}(hp:PassesOwn 0.2 X.A X.env X.xe)(hc:DT X c t)(hb:SM X body mb):DS X (.While c body [] pos) (eh t mb):=PS.imp (rR hp hc hb) λE σ H z0=>by
 obtain⟨μ,S,env,o,hS,hE,hm,post⟩:=z0;refine#[λn=>FoJ X.K μ H (λμ H o=>PostS X.K μ H o E) (Ox t mb n),#[5000,μ,S,env,o,hS.ext,hS,hE,hm,post],?_];rintro n σ' H' ⟨μ',S',env',o',e',s',r',hl,post'⟩;cases n with
 | zero=>cases hl
 | succ n=>
  obtain⟨b,S1,h1,hl⟩:=dQ hl;refine#[μ',S',env',b,S1,s',r',h1,λH2 μ2 e2 s2=>?_];have eT:Ext μ H μ2 H2:=e'.trans e2;have pT:PostS X.K μ2 H2 o' E:=post'.ext e2;cases b with
  | false=>cases hl;dsimp only;rw[if_neg aeI];exact pT σ' H2 μ2 s2.ext s2 (r'.mono e2)
  | true=>
   dsimp only;rw[aam rfl];obtain⟨o4,h4,hl⟩:=gA hl;refine#[FoJ X.K μ H (λμ H o=>PostS X.K μ H o E) (Ox t mb n),λσ2 H2 z=>#[n,by omega,z],?_];refine#[μ2,S1,env',o4,s2,r'.mono e2,h4,?_];cases o4 with
   | nx e5 s5=>exact λσ6 H6 μ6 e6 s6 r6=>#[μ6,s5,e5,o',eT.trans e6,s6,r6,hl,pT.ext e6]
   | ct e5 s5=>exact λσ6 H6 μ6 e6 s6 r6=>#[μ6,s5,e5,o',eT.trans e6,s6,r6,hl,pT.ext e6]
   | bk e5 s5=>cases hl;exact pT
   | rt d5 s5=>cases hl;exact pT
end
inductive TabRel:List (bK×ab)->List (bK×D)->Prop
 | nil:TabRel [] []
 | cons {k:bK} {v:ab} {d:D} {vs:List (bK×ab)} {ds:List (bK×D)} (x:V) (h:RelV x v) (r:∀ K μ H,Rep K μ H x d) (t:TabRel vs ds):TabRel ((k,v)::vs) ((k,d)::ds)
def TabRel.val{k:bK}:∀ {vs ds},TabRel vs ds->∀ {d},Oi ds k=Y d->∃ v x,valueAt vs k=Y v/\RelV x v/\∀ K μ H,Rep K μ H x d
 | _,_,.nil,d,h=>by cases h
 | _,_,.cons (k:=k') (v:=v) x h r t,d,q=>by
  unfold Oi at q;split at q
  ·rename_i e;cases q;refine#[v,x,?_,h,r];simp only at e;simp[valueAt,e]
  ·rename_i e;obtain⟨v',x',h1,h2,h3⟩:=TabRel.val t q;refine#[v',x',?_,h2,h3];simp only at e;rw[<- h1];simp[valueAt,e]
structure xJ(w:tx)(K:Ym)(mg:Str->Option ab)(x:Str)(l:List (bK×D)):Prop where
 ex:∃ (a:gV) (vs:List (bK×ab)),mg x=Y (.ref a)/\(∀ (P:td) (h:NY),K.In h->h.DictOf (Lz P w) a vs)/\TabRel vs l
section
variable{X:Cx}
def wU(hd:∀ (P:td) (h:NY),X.K.In h->h.DictOf (Lz P X.w) a vs):IxR X (λx y H Q=>∃ k v z,x=.ref a/\y=Yx k/\valueAt vs k=Y v/\RelV z v/\Q z H):=by
 intro value slice pins s σ H x y v u Q I rx ry h hs;obtain⟨k,v',z,rfl,rfl,hv,rz,q⟩:=h;cases rx;have dd:=hd X.prog s.heap I.kIn;exact tail_any dd.typeIs F.slot_dict_getitem.lookup (wpAny_getItem_of (qZ ry) dd.mapOf hv #[z,H,I.tok _,rz,q]) hs
noncomputable def dE(l:List (bK×D))(mi:ME):ME:=λenv S=>(mi env S).bind λp=>(OA p.1).bind λk=>(Oi l k).bind λd=>Y (d,p.2)
theorem Rh(g:xJ X.w X.K X.mg x l)(hg:Gl X x)(hx:(x==("__debug__":Str))=false)(hi:DE X i mi)(hs:XH i:=by intro q q;rfl):DE X (.Subscript 8.0 i pos) (dE l mi):=by
 obtain⟨a,vs,h1,h2,h3⟩:=g.ex;refine PE.imp (yU (wU h2) (jN (v:=.ref a) hg h1 rfl hx) hi hs) λσ H Q ⟨μ,S,env,d,S',hS,hE,hm,post⟩=>?_;obtain⟨y,S1,e1,hm⟩:=dQ hm;obtain⟨k,e2,hm⟩:=gA hm;obtain⟨d',e3,hm⟩:=gA hm;cases hm;obtain⟨v,z,v1,v2,v3⟩:=h3.val e3;exact#[μ,S,env,y,_,hS,hE,e1,λu H1 μ1 ex s1 r1=>#[k,v,z,rfl,jJ e2 r1,v1,v2,post _ H1 μ1 ex s1 (v3 _ _ _)]]
end
def pK{K:Ym}(hl:K.lookup a=Y #[.type "dict",J,.dict es n,(List.toArray [])])(hp:∀ P,Pairs (Lz P w) es.toList vs)(hk:∀ P,KeysOf (Lz P w) es)(hn:(vs.map (·.1)).Nodup) :
  ∀ (P:td) (h:NY),K.In h->h.DictOf (Lz P w) a vs:=λP h KX=>#[_,es,n,KX a _ hl,#[rfl,rfl,rfl],rfl,hk P,hp P,hn]
inductive TabLit(w:tx):List DictEntry->List (bK×ab)->Prop
 | nil:TabLit w [] []
 | cons {x:Str} {t:Tok} {v:ab} {es:List DictEntry} {vs:List (bK×ab)} (h:TabLit w es vs):TabLit w (#[PyData.keyHash w.params x,.str x t,v]::es) ((.inr x,v)::vs)
def TabLit.pairs:∀ {es vs},TabLit w es vs->Pairs (Lz P w) es vs
 | _,_,.nil=>.nil
 | _,_,.cons (x:=x) (t:=t) h=>.cons (qZ (k:=.inr x) (show RelV (V.str x) (Value.str x t) from #[t,rfl])) rfl h.pairs
def TabLit.keys:∀ {es vs},TabLit w es vs->∀ e∈es,∃ k,(Lz P w).is k e.key=true/\e.hash=(Lz P w).hash k
 | _,_,.nil,e,h=>by simp at h
 | _,_,.cons (x:=x) (t:=t) h,e,he=>by
  rcases aav.mp he with rfl | he
  ·exact#[.inr x,qZ (k:=.inr x) (show RelV (V.str x) (Value.str x t) from #[t,rfl]),rfl]
  ·exact h.keys e he
def um{K:Ym}{mg:Str->Option ab}{es:List DictEntry}(hg:mg x=Y (.ref a))(hl:K.lookup a=Y #[.type "dict",J,.dict es.toArray n,(List.toArray [])])(t:TabLit w es vs)(hn:(vs.map (·.1)).Nodup)(r:TabRel vs l):xJ w K mg x l:=
 #[a,vs,hg,pK hl (λP=>by simpa using t.pairs) (λP e he=>t.keys e (by simpa using he)) hn,r]
section
variable{X:Cx}{K:Ym}{μ:Fp}{H:Hp}{S:aa}
def Gs:MF:=λo ds S=>match ds with
 | [x]=>if Tp S o=true then(Xw S o).bind λys=>if Dl 40 x=true/\ys.all (Dl 39)=true/\ys.length<=Ph then(ys.findIdx? λd=>Oo d x).bind λj=>Y (.int (j:Nat),S) else J else J
 | _=>J
def xp{s:ce}(I:Inv X pins σ H s):∀ {vs:List V} {us:List ab} {ds:List D},Vals vs us->Reps X.K μ H vs ds->(∀ d∈ds,Dl 39 d=true) ->
  us.map (IR X.K μ H x)=ds.map λd=>Oo d x
 | _,_,_,.nil,.nil,_=>rfl
 | _,_,_,.cons rv tv,.cons r t,ok=>by
  rw[List.map_cons,List.map_cons,rL I rv r 3.05,xp I tv t λd m=>ok d 1.93]
def nZ(hu:X.A.units+64<cLine):MtR X "list.index" (Of X.K Gs):=by
 intro pins s σ H x vs v us Q I rx rv h;obtain⟨μ,S,dx,ds,d,S',hS,r1,r2,h,post⟩:=h;unfold Gs at h;split at h
 ·rename_i y;split at h
  ·rename_i hl;obtain⟨a,ws,es,rfl,hq,hse,re⟩:=qW hS r1 hl;rw[hse] at h;dsimp only[Option.bind_some] at h;split at h
   ·rename_i hk;obtain⟨j,hj,h⟩:=gA h;cases h;cases rx;obtain⟨w,rfl,rw0⟩:=r2.one;obtain⟨u,rfl,ru⟩:=rv.one;obtain⟨its,rvs,⟨⟨cls,dd,data,sl⟩,n,e,hc,hdd,hd⟩,hz⟩:=I.list hq;simp only at hc hdd hd;subst hc hdd hd;have ok:=aaE.mp hk.2.1;have em:=xp (x:=y) I rvs re ok;have ln:its.length=es.length:=by rw[<- re.length,rvs.length]
    obtain⟨hj1,hj2,hj3⟩:=aco.mp hj
    have at_:∀ (m:Nat) (h1:m<its.length) (h2:m<es.length),IR X.K μ H y its[m]=Oo es[m] y:=λm h1 h2=>by
     have:(its.map 2.30)[m]?=(es.map λd=>Oo d y)[m]?:=by rw[em]
     rw[aaP,aaP,aae h1,aae h2] at this;simpa using this
    have sz:Ph<2^63 - 1:=by decide
    refine acj F.slot_list_index #[_,e,rfl] F.entry_list_index (F.args_list_index_2 _ _) (SeqAt.list_indexAt a its.toArray n J sl u 2.30 j (by simpa[ln] using hj1) (by have:=hk.2.2;omega) ?_ ?_) #[e,λw' hw'=>?_,?_]
    ·rw[aez,at_ j 0.0 hj1];exact hj2
    ·intro m hm hmj;rw[aez,at_ m (by simpa using hm) 0.0];have:=hj3 m hmj;simpa using this
    ·exact gX I (by show X.A.units+1+40<cLine;omega) ru rw0 hk.1 rvs re ok w' (by simpa using hw')
    ·exact#[.int _,H,I.tok _,#[_,rfl],post.here hS (.int _)]
   ·cases h
  ·cases h
 ·cases h
def Tb:MF:=λo ds S=>match o,ds with
 | .ref r,[.lst ys]=>(match S[r]? with | some 1.5=>if xs.length+ys.length<=Ph then Y (.non,S.set r (.lst (xs++ys))) else J | _=>J)
 | .ref r,[.tup ys]=>(match S[r]? with | some 1.5=>if xs.length+ys.length<=Ph then Y (.non,S.set r (.lst (xs++ys))) else J | _=>J)
 | _,_=>J
def wW{items:Array ab}{ob:Obj}(hc:ob.cls=.type "tuple")(hd:ob.data=.seq items2 n2)(h0:¬(!items.isEmpty&&Builtin.List.listTooLong (items.size+items2.size))=true)(h1:items.size<=Ph)(h2:(items++items2).size<=Ph+1) :
  Meets (Builtin.«list.extend» #[[.ref l,.ref b],[]]) (λz R s=>s.heap.get? l=Y { cls:=.type "list",data:=.seq items n }/\s.heap.get? b=Y ob/\R (.ok (.ret .none)) { s with heap:=s.heap.update l (Obj.mapSeq (·++items2)) }):=
 .of_wp λprog w A R s z0=>by
  obtain⟨hl,hb,h⟩:=z0;obtain⟨cls,dict,data,slots⟩:=ob;simp only at hc hd;subst hc hd;have f2:=PyProof.Rows.sub_tuple_tuple;have f4:=PyProof.Rows.sub_tuple_list;cases s
  wp_walk using(adM hl rfl (hz:=h1) (_hz':=h2)),AutoSeq1.wpAny_loadPart' hl,AutoSeq1.wpAny_loadPart' hb
  exact#[_,rfl,h]
def rG:MtR X "list.extend" (λx vs H Q=>∃ l b xs zs,x=.ref l/\vs=[.ref b]/\H l=Y 1.5/\DF X.K H b zs/\xs.length+zs.length<=Ph/\Q .non (upd H l (.lst (xs++zs)))):=by
 intro pins s σ H x vs v us Q I rx rv ⟨l,b,xs,zs,e1,e2,hH,hB,hz,q⟩;subst e1 e2;cases rx;obtain⟨u,rfl,ru⟩:=rv.one;cases ru;obtain⟨z,its,n,r,hl,e⟩:=I.lstM hH;obtain⟨its2,r2,⟨ob,e2,hc,n2,hd⟩,hl2⟩:=I.tuple hB;have k1:=r.length;have k2:=r2.length;have hsz:its.toArray.size+its2.toArray.size<=Ph:=by rw[aah,aah];omega
 refine acj adt #[_,e,rfl] aeJ (aeB _ _)
  (wW hc hd (by rw[vS hsz,abh];exact aeI) (by rw[aah];omega) (by rw[Array.size_append];omega)) #[e,e2,?_]
 refine#[.non,_,I.lset (its':=its++its2) hH e 0.3 (r.append r2) ?_,rfl,q];rw[aal];omega
def pJ:MtR X "list.extend" (Of X.K Tb):=by
 intro pins s σ H x vs v us Q I rx rv ⟨μ,S,dx,ds,d,S',hS,r1,r2,h,post⟩
 have go:∀ r xs ys,dx=.ref r->S[r]?=Y 1.5->(if xs.length+ys.length<=Ph then Y (D.non,S.set r (.lst (xs++ys))) else J)=Y (d,S')->∀ b zs,vs=[.ref b]->Reps X.K μ H zs ys->∃ a ws,x=.ref a/\H a=Y (.lst ws)/\ws.length+zs.length<=Ph/\Q .non (upd H a (.lst (ws++zs))):=λr xs ys e q h0 b zs Sv rz=>by
  subst e;split at h0
  ·rename_i hz;cases h0;cases r1 with
   | @ref a _ h'=>
    obtain⟨ws,hw,rw'⟩:=hS.cell r a _ h' q;obtain⟨e,s'⟩:=hS.write h' hw (rw'.append rz);exact#[a,ws,rfl,hw,by rw[rw'.length,rz.length];exact hz,post _ _ μ e s' .non]
  ·cases h0
 unfold Tb at h;split at h
 ·rename_i r ys;obtain⟨w,rfl,rw0⟩:=r2.one;split at h
  ·rename_i xs q;cases rw0 with
   | @lst b zs _ hb nb rz=>
    obtain⟨a,ws,h1,h2,h3,h4⟩:=go r xs ys rfl q h b zs rfl rz;exact iu pins s σ H x _ v us Q I rx rv #[a,b,ws,zs,h1,rfl,h2,hb,h3,h4]
  ·cases h
 ·rename_i r ys;obtain⟨w,rfl,rw0⟩:=r2.one;split at h
  ·rename_i xs q;obtain⟨b,zs,e,hb,rz⟩:=rw0.sqT;subst e;obtain⟨a,ws,h1,h2,h3,h4⟩:=go r xs ys rfl q h b zs rfl rz;exact rG pins s σ H x _ v us Q I rx rv #[a,b,ws,zs,h1,rfl,h2,hb,h3,h4]
  ·cases h
 ·cases h
end
section
variable{X:Cx}{K:Ym}{μ μ':Fp}{H H':Hp}{S S':aa}{tg iter:sn}{pos:Pos}
def OC(g:MG)(t:MT)(e:ME)(r:Nat):Nat->Nat->bn->aa->Option (List D×aa)
 | 0,_,_,_=>J
 | f+1,i,env,S=>match S[r]? with
  | some 1.5=>match xs[i]? with
   | none=>Y ([],S)
   | some d=>(g d env S).bind λp=>(t p.1 p.2).bind λb=>if b.1=true then(e p.1 b.2).bind λy=>(OC g t e r f (i+1) p.1 y.2).bind λz=>Y (y.1::z.1,z.2) else OC g t e r f (i+1) p.1 b.2
  | _=>J
noncomputable def cT(m:ME)(g:MG)(t:MT)(e:ME)(cap:List 0.9):ME:=λenv S=>(m env S).bind λp=>match p.1 with
 | .ref r=>(OC g t e r 2000 0 1.82 p.2).bind λz=>Y (.lst z.1,z.2)
 | _=>J
def yH{cap:List 0.9}(h:tM K (cT mi g t e cap) σ H Q):IJ (Wo K (tM K mi)) (VM K g) (Ga K t) (tM K e) cap σ H Q:=by
 obtain⟨μ,S,env,d,S',hS,hE,hm,post⟩:=h;obtain⟨d0,S1,h1,hm⟩:=dQ hm;dsimp only at hm;split at hm
 case h_2=>cases hm
 rename_i r;obtain⟨ys,S2,h2,hm⟩:=dQ hm;cases hm;refine#[μ,S,env,_,S1,hS,hE,h1,λv H1 μ1 e1 s1 r1=>?_];cases r1 with
 | @ref a _ ha=>
  have hq0:∃ vs,Yv K H1 a vs:=by
   unfold OC at h2;split at h2
   ·rename_i xs q;obtain⟨vs,hv,u⟩:=s1.cell r a _ ha q;exact#[vs,.inl (.inl hv)]
   ·cases h2
  refine#[a,rfl,hq0,λp hp=>?_];have hpn:=s1.notMem hp;refine#[λi n σ' H'=>n+i=2000/\CpJ K μ1 H1 p (λenv S rest=>OC g t e r n i env S=Y (rest,S2)) ys i σ' H',#[2000,rfl,.start s1 ((hE.mono e1).block cap) hp h2],?_];rintro i n σ' H' ⟨hn,c⟩;cases c with | mk cs S' env' vs zs rest eP s' r' hpv rz hl hy hvl=>?_
  subst hy;have pcs:p∉cs:=λz=>s'.disj p aab z;cases n with
  | zero=>cases hl
  | succ n=>
   unfold OC at hl;split at hl
   ·rename_i xs q;have ha':(#[cs,p::μ1.fb]:Fp).cs[r]?=Y a:=eP.ix ha;obtain⟨ws,hv,rv⟩:=s'.cell r a _ ha' q;have hsq:Yv K H' a ws:=.inl (.inl hv);split at hl
    ·rename_i hx;cases hl;have eF:Ext μ1 H1 #[cs,μ1.fb] H':=#[rfl,eP.pre,eP.keep,eP.dom]
     rw[aaF] at post;exact .inl #[#[ws,hsq,by rw[rv.length];simpa using hx],post _ H' #[cs,μ1.fb] (e1.trans eF) s'.less (.lst hpv #[λz=>s'.disj p aab z,hpn.2] rz.less)]
    ·rename_i dd hx;obtain⟨w,hw,rw0⟩:=rv.get hx;refine .inr #[#[ws,w,hsq,hw],λx H2 y=>?_];obtain⟨e2,hy⟩:=y;subst e2;have ex:x=w:=by have:=hy ws hsq;rw[hw] at this;exact(aau this).symm
     subst ex;obtain⟨env3,S3,h3,hl⟩:=dQ hl;obtain⟨b,S4,h4,hl⟩:=dQ hl;refine#[_,S',env',dd,env3,S3,s',r',rw0,h3,λσ3 H3 μ3 e3 s3 r3=>#[μ3,S3,env3,b,S4,s3,r3,h4,λH4 μ4 e4 s4=>?_]];have eA:=e3.trans e4;cases b with
     | false=>
      rw[if_neg aeI] at hl;dsimp only;rw[if_neg aeI];obtain⟨cs4,fb4⟩:=μ4;have hfb:fb4=p::μ1.fb:=eA.fb;subst hfb;exact#[n,Nat.lt_succ_self _,by omega,.mk cs4 S4 env3 vs zs rest (eP.then eA) s4 (r3.mono e4) (eA.keeps hpv pcs).1 (rz.mono eA) hl rfl 0.0]
     | true=>
      rw[aam rfl] at hl;dsimp only;rw[aam rfl];obtain⟨dv,S5,h5,hl⟩:=dQ hl;obtain⟨rs,S6,h6,hl⟩:=dQ hl;cases hl;refine#[μ4,S4,env3,dv,S5,s4,r3.mono e4,h5,λv H5 μ5 e5 s5 r5=>?_];have eB:=eA.trans e5;obtain⟨cs5,fb5⟩:=μ5;have hfb:fb5=p::μ1.fb:=eB.fb;subst hfb;have sz:2000<Ph:=by decide
      exact#[vs,(eB.keeps hpv pcs).1,by omega,n,Nat.lt_succ_self _,by omega,.mk cs5 S5 env3 (vs++[v]) (zs++[dv]) rs ((eP.then eB).chg hp) (s5.chg aab) (((r3.mono e4).mono e5).chg aab) bD (Reps.chg aab ((rz.mono eB).append (.cons r5 .nil))) h6 0.3 (by rw[aal,aaW];omega)]
   ·cases hl
theorem Rr{cap:List 0.9}
  (hc:X.calm=true) (B:BlockOk X N' scope cap) (hi:DE X iter mi) (hg:∀ C s H fp,DG 0.5 tg g) (ht:∀ C s H fp,Sb 0.5 ifs t) (he:∀ C s H fp,DE 0.5 elt me)
  (hs:∀ x,Qf iter X.env x=pure x:=by intro z;rfl):DE X 1.1 (cT mi g t me cap):=
 PE.imp (ib (g:=VM X.K g) (tt:=Ga X.K t) (te:=tM X.K me) hc B (cF hi) hg ht he hs) λz z z h=>yH h
theorem Ft{spos:Pos}{cap:List 0.9}{i:Nat}
  (hN:X.N.Nodup) (hy:X.N[i]?=Y y) (hx:Nb X.env.scope y)
  (hc:X.calm=true) (B:BlockOk X N' scope cap) (hi:DE X iter mi) (hg:∀ C s H fp,DG 0.5 tg g) (ht:∀ C s H fp,Sb 0.5 ifs t) (he:∀ C s H fp,DE 0.5 elt me)
  (hsw:swapsWith 1.1 (Y 1.85) spos.line X.env=pure true:=by rfl)
  (hs:∀ x,Qf iter X.env x=pure x:=by intro z;rfl) (hf:X.fn y=true\/X.env.scope.names.lookup y=Y .local:=by first | exact .inl rfl | exact .inr rfl | assumption) :
  DS X 2.66 (aN (cT mi g t me cap) (ai i)):=
 PS.imp (vF (g:=VM X.K g) (tt:=Ga X.K t) (te:=tM X.K me) hN hy hx hc B (cF hi) hg ht he hsw hs hf) λE σ H h=>by
  obtain⟨μ,S,env,o,hS,hE,hm,post⟩:=h;obtain⟨d,S1,h1,hm⟩:=dQ hm;cases hm;exact yH #[μ,S,env,d,S1,hS,hE,h1,λv H1 μ1 e1 s1 r1=>post _ H1 μ1 e1 s1 ((hE.mono e1).set r1 i)]
end
end M
namespace M
open L2
section
variable{X:Cx}{K:Ym}{μ:Fp}{H:Hp}{S:aa}
def uq(hu:X.A.units+1<cLine):A0d X (λo i v H Q=>∃ a H',o=.ref a/\DPut H a i v H'/\Q H'):=λpins s σ H o i v ov iv u Q I ro ri rv z0=>by
 obtain⟨a,H',e,g,q⟩:=z0;subst e;cases ro;exact ua hu I g ri rv λs' I'=>#[H',I',q]
noncomputable def lO(o i:ME):MG:=λd env S=>(o env S).bind λp=>(i env p.2).bind λq=>match p.1 with
 | .ref r=>match q.2[r]? with
  | some 7.6=>(OA q.1).bind λk=>if ks.length<=500 then Y (env,q.2.set r (.dct ((HA 7.8 k d).map (·.1)) ((HA 7.8 k d).map (·.2)))) else J
  | _=>J
 | _=>J
theorem Vf(hu:X.A.units+64<cLine)(ho:DE X o mo)(hi:DE X i mi)(ha:∀ v,assign 9.9 X.env v=(do
   let ov <- holding [v] 9.3;let iv <- holding [v,ov] (eval i X.env)
   standAt pos
   holding [v,ov,iv] 2.92
   release [v,ov,iv] []):=by intro z;rfl):DG X 9.9 (lO mo mi):=
 PG.imp (aY ho hi (uq 0.0) ha) λv σ H Q z0=>by
  obtain⟨μ,S,env,d,env',S',hS,hE,hr,hm,post⟩:=z0;obtain⟨x,S1,h1,hm⟩:=dQ hm;obtain⟨y,S2,h2,hm⟩:=dQ hm;refine#[μ,S,env,x,S1,hS,hE,h1,λv1 H1 μ1 e1 s1 r1=>#[μ1,S1,env,y,S2,s1,hE.mono e1,h2,λv2 H2 μ2 e2 s2 r2=>?_]];cases x with
  | ref r=>
   dsimp only at hm;cases q:S2[r]? with
   | none=>rw[q] at hm;cases hm
   | some c=>
    rw[q] at hm;cases c with
    | lst xs=>cases hm
    | dct ks xs=>
     obtain⟨k,h3,hm⟩:=gA hm;split at hm
     ·rename_i hz;cases hm;have r1':=r1.mono e2;cases r1' with
      | @ref a _ h'=>
       obtain⟨kvs,hv,hk,rv⟩:=s2.cell r a _ h' q;have rd:=(hr.mono e1).mono e2;have kk:=(KR.of hk rv).put (k:=k) rd;obtain⟨e3,s3⟩:=s2.writeD h' hv (kvs':=qH kvs k v) (ks:=(HA (ks.zip xs) k d).map (·.1)) kk.keys.symm kk.reps;have hkey:=jJ h3 r2;subst hkey;refine#[a,_,rfl,DPut.k hv ?_,post σ _ μ2 ((e1.trans e2).trans e3) s3 (hE.mono ((e1.trans e2).trans e3))];rw[hk,aaf] at hz;exact ado hz 0.1
     ·cases hm
  | _=>cases hm
end
end M
namespace M
open L2
structure RV(P:td)(w:tx)(K:Ym)(mg:Str->Option ab)(base:NY)(k:Nat)(a:gV)(n:Nat)(f:List D->aa->Option (D×aa)):Prop where
 ex:∃ (fd:FuncData) (ps:List Str),ps.length=n/\FnOk P w K mg base Ke k a fd ps (NM K n f)/\W.keepIn K (.ref a)=true/\Binds K fd ps []
def Fn.at{K:Ym}{k:Nat}(F:Fn P w K mg base k x n f)(h:mg x=Y (.ref a)):RV P w K mg base k a n f:=by
 obtain⟨b,fd,ps,h1,h2,h3,h4,h5⟩:=F.ex;rw[h] at h3;cases h3;exact#[fd,ps,h1,h2,h4,h5]
inductive FRel(P:td)(w:tx)(K:Ym)(mg:Str->Option ab)(base:NY)(k:Nat):List (bK×ab)->List (bK×Nat×(List D->aa->Option (D×aa)))->Prop
 | nil:FRel P w K mg base k [] []
 | cons {y:bK} {a:gV} {n:Nat} {f:List D->aa->Option (D×aa)} {vs:List (bK×ab)} {l:List (bK×Nat×(List D->aa->Option (D×aa)))} (h:RV P w K mg base k a n f) (t:FRel P w K mg base k vs l):FRel P w K mg base k ((y,.ref a)::vs) ((y,n,f)::l)
def CK:List (bK×Nat×(List D->aa->Option (D×aa)))->bK->Option (Nat×(List D->aa->Option (D×aa)))
 | [],_=>J
 | (y,p)::l,k=>if y=k then Y p else CK l k
section
variable{P:td}{w:tx}{K:Ym}{mg:Str->Option ab}{base:NY}{k:Nat}
def FRel.val:∀ {vs l},FRel P w K mg base k vs l->CK l y=Y p->∃ a,valueAt vs y=Y (.ref a)/\RV P w K mg base k a p.1 p.2
 | _,_,.nil,q=>by cases q
 | _,_,.cons (y:=y') (a:=a) h t,q=>by
  unfold CK at q;split at q
  ·rename_i e;cases q;exact#[a,by simp[valueAt,e],h]
  ·rename_i e;obtain⟨b,h1,h2⟩:=FRel.val t q;refine#[b,?_,h2];rw[<- h1];simp[valueAt,e]
structure FTab(P:td)(w:tx)(K:Ym)(mg:Str->Option ab)(base:NY)(k:Nat)(x:Str)(l:List (bK×Nat×(List D->aa->Option (D×aa)))):Prop where
 ex:∃ (a:gV) (vs:List (bK×ab)),mg x=Y (.ref a)/\(∀ (P:td) (h:NY),K.In h->h.DictOf (Lz P w) a vs)/\FRel P w K mg base k vs l
end
def EOk.setN{K:Ym}:∀ {σ:L2.St} {env:bn} (i:Nat),EOk K μ H σ env->EOk K μ H (σ.set i x) 2.03
 | _,_,_,.nil=>.nil
 | _,_,0,.no t=>.no t
 | _,_,0,.yes _ t=>.no t
 | _,_,i+1,.no t=>.no (EOk.setN i t)
 | _,_,i+1,.yes h t=>.yes h (EOk.setN i t)
section
variable{X:Cx}{k i:Nat}{x b:Str}{e ix:sn}{es:List sn}{mi:ME}{ms:MA}{p pb pt ps pa pc pr:Pos}{l:List (bK×Nat×(List D->aa->Option (D×aa)))}
def mY(hN:X.N[i]?=Y b)(hv:WJ X.env.scope b)(hr:Room k X.A)(ha:PA X (e::es) t)(hd:(b==("__debug__":Str))=false)(hc:(b==("__classdict__":Str))=false)
  (he:Pi (e::es) X.env=2.1::Pi es X.env) (hpl:(backTo pc 2.7).any (·.1)=false) :
  PE X (.Call (.Name b p) (e::es) [] pc) (λσ H Q=>∃ a n f,σ[i]?=Y (Y (.ref a))/\RV X.prog X.w X.K X.mg X.base k a n f/\IK (NM X.K n f) [] E0 t σ H Q):=by
 intro pins s σ H Q I ⟨a,n,f,hσ,F,h⟩;obtain⟨fd,qs,hn,F,hk,hb⟩:=F.ex;refine acm (ee (yv hN hv hd hc pins s σ H (λv H'=>v=.ref a/\H'=H) I #[_,hσ,rfl,rfl]) λu s1 ⟨v,H1,I1,r,e1,e2⟩=>?_);subst e1 e2;cases r;refine W.callWith_K (h₀:=X.base) I1.ok.mod.kin hk (ee (ha pc pins s1 σ H1 _ I1 h) λus s2 ⟨vs,H2,I2,r2,q⟩=>#[I2.kIn,?_]) he hpl;exact om F hr hb .nil wG I2 r2 q
noncomputable def gY(l:List (bK×Nat×(List D->aa->Option (D×aa))))(i:Nat)(mi:ME)(ms:MA):MS:=λenv S=>(mi env S).bind λp=>(OA p.1).bind λk=>(CK l k).bind λq=>(ms 2.03 p.2).bind λr=>if r.1.length=q.1 then(q.2 r.1 r.2).bind λz=>Y (.rt z.1 z.2) else J
theorem QP(g:FTab X.prog X.w X.K X.mg X.base k x l)(hg:Gl X x)(hx:(x==("__debug__":Str))=false)(hi:DE X ix mi)(hs:XH ix)(hr:Room k X.A)(ha:DA X (e::es) ms)(nd:X.N.Nodup)(hN:X.N[i]?=Y b)(hl:Nb X.env.scope b)(hv:WJ X.env.scope b)
  (hf:X.fn b=true\/X.env.scope.names.lookup b=Y .local) (hd:(b==("__debug__":Str))=false) (hc:(b==("__classdict__":Str))=false) (hlen:i<X.N.length)
  (he:Pi (e::es) X.env=2.1::Pi es X.env) (hpl:(backTo pc 2.7).any (·.1)=false) :
  SM X [.Assign [.Name b pb] (.Subscript (.Name x pt) ix ps) pa,.Return (Y (.Call (.Name b p) (e::es) [] pc)) pr] (gY l i mi ms):=by
 obtain⟨a,vs,h1,h2,h3⟩:=g.ex;intro pins s σ H E I h
 have hlσ:i < σ.length:=by
  have:σ.length=X.N.length:=I.len;omega
 refine fA (kh (i:=i) nd hN hl (yU (wU h2) (jN (v:=.ref a) hg h1 rfl hx) hi hs) rfl hf) (tX (cy (mY hN hv hr ha hd hc he hpl))) pins s σ H E I ?_;obtain⟨μ,S,env,o,hS,hE,hm,post⟩:=h;obtain⟨y,S1,e1,hm⟩:=dQ hm;obtain⟨z,e2,hm⟩:=gA hm;obtain⟨q,e3,hm⟩:=gA hm;obtain⟨fa,v1,F⟩:=h3.val e3;refine#[μ,S,env,y,S1,hS,hE,e1,λu H1 μ1 ex s1 r1=>#[z,.ref fa,.ref fa,rfl,jJ e2 r1,v1,rfl,?_]];obtain⟨ws,S2,e4,hm⟩:=dQ hm;dsimp only at hm;split at hm
 ·rename_i hn;obtain⟨d,S3,e5,hm⟩:=dQ hm;cases hm;refine#[fa,q.1,q.2,by rw[aaw hlσ],F,pv #[μ1,S1,env.set i J,d,S3,s1,(hE.mono ex).setN i,?_,Post.ext ex post]];show(ms 2.03 S1).bind _=_;rw[e4];exact(aam hn).trans e5
 ·cases hm
end
inductive FNs(mg:Str->Option ab):List (bK×ab)->List (Str×Str)->Prop
 | nil:FNs mg [] []
 | cons {x y:Str} {a:gV} {vs:List (bK×ab)} {l:List (Str×Str)} (h:mg y=Y (.ref a)) (t:FNs mg vs l):FNs mg ((.inr x,.ref a)::vs) ((x,y)::l)
structure FNm(w:tx)(K:Ym)(mg:Str->Option ab)(x:Str)(l:List (Str×Str)):Prop where
 ex:∃ (a:gV) (vs:List (bK×ab)),mg x=Y (.ref a)/\(∀ (P:td) (h:NY),K.In h->h.DictOf (Lz P w) a vs)/\FNs mg vs l
def uh{K:Ym}{mg:Str->Option ab}{es:List DictEntry}(hg:mg x=Y (.ref a))(hl:K.lookup a=Y #[.type "dict",J,.dict es.toArray n,(List.toArray [])])(t:TabLit w es vs)(hn:(vs.map (·.1)).Nodup)(r:FNs mg vs l):FNm w K mg x l:=
 #[a,vs,hg,pK hl (λP=>by simpa using t.pairs) (λP e he=>t.keys e (by simpa using he)) hn,r]
section
variable{P:td}{w:tx}{K:Ym}{mg:Str->Option ab}{base:NY}{k:Nat}
def FFs(P:td)(w:tx)(K:Ym)(mg:Str->Option ab)(base:NY)(k:Nat):List (Str×Str)->List (bK×Nat×(List D->aa->Option (D×aa)))->Prop
 | [],[]=>True
 | (x,y)::l,(z,n,f)::r=>z=.inr x/\Fn P w K mg base k y n f/\FFs P w K mg base k l r
 | _,_=>False
def FNs.rel:∀ {vs l r},FNs mg vs l->FFs P w K mg base k l r->FRel P w K mg base k vs r
 | _,_,[],.nil,_=>.nil
 | _,_,(z,n,f)::r,.cons h t,q=>by
  obtain⟨q1,q2,q3⟩:=q;subst q1;exact .cons (q2.at h) (t.rel q3)
def rE(T:FNm w K mg x l)(h:FFs P w K mg base k l r):FTab P w K mg base k x r:=by
 obtain⟨a,vs,h1,h2,h3⟩:=T.ex;exact#[a,vs,h1,h2,h3.rel h]
def FRel.up{k':Nat}(h:k<=k'):∀ {vs l},FRel P w K mg base k vs l->FRel P w K mg base k' vs l
 | _,_,.nil=>.nil
 | _,_,.cons q t=>.cons (by obtain⟨fd,ps,a,b,c⟩:=q.ex;exact#[fd,ps,a,b.mono h,c]) (t.up h)
def FTab.up{k':Nat}(T:FTab P w K mg base k x l)(h:k<=k'):FTab P w K mg base k' x l:=by
 obtain⟨a,vs,h1,h2,h3⟩:=T.ex;exact#[a,vs,h1,h2,h3.up h]
end
section
variable{X:Cx}{e:sn}{m:ME}{pos:Pos}
def LV(_:aa)(x y:D):Option D:=match x,y with
 | .int i,.int j=>Y (.int (i+j))
 | _,_=>J
theorem QU{i:Nat}(hN:X.N.Nodup)(hi:X.N[i]?=Y x)(hx:Nb X.env.scope x)(hf:X.fn x=true\/X.env.scope.names.lookup x=Y .local)(he:DE X e m) :
  DS X (.AugAssign 2.49 .Add e pos) (aN (az LV (af i) m) (ai i)):=PS.imp (cX hN hi hx he oE hf) λE σ H h=>by
 obtain⟨μ,S,env,o,hS,hE,hm,post⟩:=h;obtain⟨d,S1,h1,hm⟩:=dQ hm;cases hm;obtain⟨a,S2,h2,h1⟩:=dQ h1;obtain⟨b,S3,h3,h1⟩:=dQ h1;obtain⟨a',h4,h2⟩:=gA h2;cases h2;obtain⟨d',h5,h1⟩:=gA h1;cases h1;dsimp only at h5
 obtain⟨p,q,rfl,rfl,rfl⟩:∃ p q,a=.int p/\b=.int q/\d=.int (p+q):=by
  cases a<;>first | cases h5 | skip
  cases b<;>first | cases h5 | skip
  exact#[_,_,rfl,rfl,rfl]
 obtain⟨v,e1,r⟩:=hE.get (zn h4);refine#[v,e1,μ,S,env,_,_,hS,hE,h3,λw H1 μ1 e1 s1 r1=>#[p,q,r.int_inv,r1.int_inv,?_]];exact post _ H1 μ1 e1 s1 ((hE.mono e1).set (.int _) i)
end
end M
namespace HT
open PySem PySem.Spec PyProof.Rows Builtin
section
variable{prog:td}{w:tx}{A:NF}{E:ab->ce->Prop}{s:ce}
def zL{it t:gV}(hne:t≠it):∀ (n i:Nat) (s:ce) (Q:List ab->ce->Prop),s.heap.IsListIter it t i->s.heap.IsList t items->i+n<=items.size ->
  (∀ h':NY,h'.IsListIter it t (i+n)->Heap.SameBut it s.heap h'->h'.IsList t items->Q ((items.toList.drop i).take n) { s with heap:=h' })->Xr 2.3 A (draw 8.2 n) Q E s
 | 0=>λi s Q hit hl z hQ=>by
  show Xr _ _ (pure []) Q E s;exact aaB (by simpa using hQ s.heap hit (Heap.SameBut.refl ..) hl)
 | n+1=>λi s Q hit ht hle hQ=>by
  have hlt:i<items.size:=by omega
  show Xr _ _ (pyNext 8.2 >>= _) Q E s;refine aad (aem hit ht (x:=items[i]) (by simp[hlt]) λh₁ hit₁ hs₁=>?_)
  have ht₁:h₁.IsList t items:=by
   obtain⟨o,ho,r⟩:=ht;exact#[o,hs₁.extBut t o hne ho,r]
  refine aad (abt (zL hne n (i+1) _ _ hit₁ ht₁ 0.0 λh₂ hit₂ hs₂ ht₂=>aaB ?_));have hd:items.toList.drop i=items[i]::items.toList.drop (i+1):=by simp[abu,hlt]
  have:=hQ h₂ (by rw[show i+(n+1)=i+1+n by omega];exact hit₂) (hs₁.trans hs₂) ht₂;rw[hd,List.take_succ_cons] at this;exact this
def rX{x1}(hh:A.handled=J)(ht:s.heap.IsList t items)
  (hn:(assignEach elts env).length=items.size) (hstar:(assignEach elts env).findIdx? (·.1)=J)
  (h:∀ h',Heap.ExtBut s.heap.objs.size s.heap h'->Xr 2.3 A (assignInOrder ((assignEach elts env).map (·.2)) items.toList) Q E { s with heap:=h' }) :
  Xr 2.3 A (assign (.Tuple elts x1 pos) env (.ref t)) Q E s:=by
 have hlt:t≠s.heap.objs.size:=by obtain⟨o,ho,z⟩:=ht;exact aaT (aaz ho)
 rw[assign_Tuple];refine aad (adn ?_);unfold unpack;rw[hn,hstar];refine aad (abt ?_);unfold unpackItems;refine aad ?_;unfold notIterableAtAll;refine aad (wpAny_specialOf ht.typeIs slot_list_iter.lookup ?_);refine aaB ?_;simp only[aaL,abE];refine aad (abt (acP ht ?_))
 have ht0:(s.heap.push { cls:=.type "list_iterator",data:=.fields (List.toArray [.ref t,.int 0 0]) }).IsList t items:=by
  obtain⟨o,ho,r⟩:=ht;exact#[o,aak _ ho,r]
 refine aad (abt (zL hlt items.size 0 _ _ #[_,aaC _ rfl,rfl,rfl] ht0 0.0 λh₁ hit₁ hs₁ ht₁=>?_))
 have hall:List.take items.size (List.drop 0 items.toList)=items.toList:=by
  rw[acz];exact abQ 0.3
 rw[hall];rw[if_neg 0.3];refine aad (abt (aes hh hit₁ ht₁ 0.3 λh₂ he₂=>?_));simp only[Option.isSome_none,aaL,abE];exact aaB (h h₂ λb o hb e=>he₂ b o hb (hs₁.extBut b o hb (aak _ e)))
end
end HT
namespace L2
noncomputable def gLst(K:Ym)(n:Nat)(t:Sa):TG:=λv σ H Q=>∃ a xs,v=.ref a/\Yv K H a xs/\xs.length=n/\t xs σ H Q
def pH{X:Cx}{k:Nat}{n:Nat}(hc:X.calm=true)(h:PGs X es t)
  (hn:(assignEach es X.env).length=n:=by rfl) (hst:(assignEach es X.env).findIdx? (·.1)=J:=by rfl):PG X 1.01 (gLst X.K n t):=by
 intro pins s σ H v u Q I r hw;obtain⟨a,xs,e1,hq,hl,hw⟩:=hw;subst e1;cases r;obtain⟨its,rv,ht,hz⟩:=I.list hq;refine HT.rX 9.0 ht.isList (by simp[hn,<- hl,rv.length]) hst λh' hx=>?_;have I1:Inv X pins σ H { s with heap:=h' }:=I.kept (t':=s.toks) λb o e=>hx b o (aaT (aaz e)) e;exact h pins _ σ H xs _ Q I1 (by simpa using rv) hw
end L2
namespace M
open L2
noncomputable abbrev MB:=bn->aa->Option (List D×bn×aa)
end M
namespace M
open L2
section
variable{X:Cx}{K:Ym}{μ:Fp}{H:Hp}{S:aa}
def tI(h:(match o with | .Call (.Name id _) [] [] _=>id != ("super":Str) | .Call _ _ _ _=>false | _=>true)=true):attributeBase o name env w=w:=by
 unfold attributeBase;split
 ·rename_i id _ _;have h':(id != ("super":Str))=true:=h;rw[h'];rfl
 ·rfl
end
end M
namespace M
open L2
section
variable{X:Cx}
theorem Rp:DE X 2.95 (dF []):=PE.imp jd λσ H Q z0=>by
 obtain⟨μ,S,env,d,S',hS,hE,hm,post⟩:=z0;cases hm;intro p hp;obtain⟨cs,fb⟩:=μ;have s2:=hS.more (o:=.dK []) hp;obtain⟨eF,sF,hF⟩:=Ext.shutR hp (hS.notMem hp).2 s2.ext s2 KR.nil;rw[show upd 2.80 p (.dK [])=upd H p (.dK []) from funext λb=>by unfold upd;split<;>rfl] at eF sF;exact post _ _ _ eF sF (.ref (by rw[<- hS.len];simp))
end
end M
namespace M
open L2
section
variable{X:Cx}{k:Nat}{e fx ix:sn}{es:List sn}{mf:ME}{ms:MA}{p pc:Pos}
def FnAts(P:td)(w:tx)(K:Ym)(mg:Str->Option ab)(base:NY)(k:Nat):List (gV×Nat×(List D->aa->Option (D×aa)))->Prop
 | []=>True
 | (a,n,f)::l=>RV P w K mg base k a n f/\FnAts P w K mg base k l
def FnAts.up{K:Ym}{k k':Nat}(h:k<=k'):∀ {l},FnAts P w K mg base k l->FnAts P w K mg base k' l
 | [],_=>trivial
 | (_,_,_)::_,z=>#[by obtain⟨fd,ps,a,b,c⟩:=z.1.ex;exact#[fd,ps,a,b.mono h,c],FnAts.up h z.2]
end
end M
namespace L2
section
variable{X:Cx}{pins:List (gV×Obj)}{σ:St}{H:Hp}{s:ce}{a:gV}{kvs:List (bK×V)}{o:Obj}
def Inv.freeze(I:Inv X pins σ H s)(e:H a=Y 2.5)(ho:s.heap.get? a=Y o):Inv X pins σ (upd H a 2.71) s:=by
 obtain⟨z,hd,vs,rel,dd⟩:=rO I.hok e;exact oX (t':=s.toks) (h':=s.heap) I (by rw[e];exact True.intro) (Heap.SameBut.refl _ _) #[o,ho] #[ho,z,hd,vs,rel,dd]
def Inv.thaw(I:Inv X pins σ H s)(e:H a=Y 2.71)(h0:∀ o u,X.H₀ a≠Y 1.62):Inv X pins σ (upd H a 2.5) s:=by
 have ne:∀ {b u},H b=u->u≠Y 2.71->b≠a:=λn q z=>by subst z;exact q (n.symm.trans e)
 have un:∀ b,H b=J->upd H a 2.5 b=J:=λb n=>by rw[bo (ne n nofun)];exact n
 refine#[I.ok,I.os,I.bare,#[I.base.keep,I.base.slot,λb ob q n hx=>un b (I.base.free b ob q n hx),I.base.there,λb xs q=>?_,λb ob u q=>?_,λb ps q=>?_],I.loc,I.cell,un _ I.free,λx c q=>un _ (I.freeC x c q),λp hp=>?_,λb u q=>?_,I.len]
 ·have:=I.base.tups b xs q;rw[bo (ne this nofun)];exact this
 ·rw[bo (λz=>by subst z;exact h0 ob u q)];exact I.base.frzs b ob u q
 ·obtain⟨m,hm⟩:=I.base.tbls b ps q;exact#[m,by rw[bo (ne hm nofun)];exact hm]
 ·obtain⟨h1,h2,h3⟩:=I.pin p hp;exact#[h1,un _ h2,h3]
 ·by_cases z:b=a
  ·subst z;rw[bD] at q;cases q;exact(I.hok b _ e).2
  ·rw[bo z] at q;exact(I.hok b u q).stay (λw w w r=>r) (λc r=>by rw[bo (ne r nofun)];exact r) λc xs r=>by rw[bo (ne r nofun)];exact r
def Itk(a:gV)(o:Obj)(kvs:List (bK×V)):It:=#[λi H=>H a=Y 2.71/\i<kvs.length,λi H x H'=>H'=H/\∃ p,kvs[i]?=Y p/\x=Yx p.1,λi H=>H a=Y 2.71/\kvs.length<=i]
def KV.at{κ:Type}{kvs:List (κ×V)}{vs:List (κ×ab)}{i:Nat}{p:κ×V}(r:KV kvs vs):kvs[i]?=Y p->∃ q,vs[i]?=Y q/\p.1=q.1:=by
 unfold KV at r
 induction r generalizing i with
 | nil=>intro h;simp at h
 | cons h t ih=>
  intro e;cases i with
  | zero=>simp at e;subst e;exact#[_,rfl,h.1]
  | succ i=>simpa using ih (by simpa using e)
def wS{K:Ym}(a it:gV)(rel:KV kvs vs)(ha:∀ h:NY,h.get? a=Y o->h.DictAt (Lz P w) a vs ep) :
  FM P w K tg (Itk a o kvs) [it] it (λi h=>h.IsKeyIter it a i vs.length ep) where
 mem:=by simp
 obj:=λi h st b hb=>by
  have e:b=it:=by simpa using hb
  subst e;obtain⟨o,e,c,d⟩:=st;exact#[o,e,λv z=>by rw[d] at z;cases z]
 keep:=λi h h' st k=>st.at λo e=>k it 0.3 o e
 item:=by
  intro X hP hw hK hc i pins s σ H E I hf st hg;subst hP hw hK;obtain⟨hq,hi⟩:=hg;have ho:s.heap.get? a=Y o:=(I.hok a _ hq).1;obtain⟨p,hp⟩:∃ p,kvs[i]?=Y p:=#[kvs[i],by simp[hi]]
  obtain⟨⟨k,v⟩,hv,e⟩:=rel.at hp;subst e;obtain⟨f0,f1,f2,f3,f4,f5⟩:=hf it 0.3;refine wpAny_pyNext_dict_item st (ha _ ho) hv λkey h' hkey st' sb=>?_;have I1:Inv X pins σ H { s with heap:=h' }:=I.turned (t':=s.toks) (λb o hb e=>(sb.2 b hb).trans e) f0 f1 f3 f4 f5;have rk:RelV (Yx p.1) key:=by rcases dI hkey with ⟨j,t,e,e'⟩ | ⟨y,t,e,e'⟩<;>(rw[e,e'];exact#[_,rfl])
  obtain⟨o',e,c,d⟩:=id st';exact#[key,rfl,zR (s:={ s with heap:=h' }) e c d 0.1 #[Yx p.1,H,I1,rk,#[rfl,p,hp,rfl],st',λb hb=>(hf b hb).1]]
 done:=by
  intro X hP hw hK hc i pins s σ H E I hf st hg;subst hP hw hK;obtain⟨hq,hi⟩:=hg;have ho:s.heap.get? a=Y o:=(I.hok a _ hq).1;have hl:=rel.length;obtain⟨f0,f1,f2,f3,f4,f5⟩:=hf it 0.3;exact wpAny_pyNext_dict_end 9.0 st (ha _ ho) 0.7 λh' eb=>#[rfl,I.turned (t':=s.toks) (λb o hb e=>eb b o hb e) f0 f1 f3 f4 f5]
 self:=λq q q q q st h=>wpAny_pyIter_keyiter st h
noncomputable def iDct(X:Cx)(tl:TE):TI:=λσ H R=>tl σ H λx H1=>∃ a kvs,x=.ref a/\H1 a=Y 2.5/\∀ o,(∀ o u,X.H₀ a≠Y 1.62)->R (Itk a o kvs) (upd H1 a 2.71)
def zu(hl:PE X l tl):PI X tg l (iDct X tl):=by
 intro pins s σ H R I h;refine ee 2.14 λv s1 ⟨x,H1,I1,r1,q1⟩=>?_;obtain⟨a,kvs,e,hq,q⟩:=q1;subst e;cases r1;obtain⟨z,hd,vs,rel,o,es,ep,ho,dd⟩:=rO I1.hok hq;have I2:=I1.freeze hq ho;refine wpAny_pyIter_dict hd (show s1.heap.DictAt 1.75 a vs ep from #[o,es,ho,dd]) ?_;refine#[s1.heap.objs.size,[s1.heap.objs.size],_,_,_,rfl,I2.kept (t':=s1.toks) λb o e=>aak _ e,wS a _ rel λh e=>#[o,es,e,dd],#[_,aaC _ rfl,rfl,rfl],λb hb=>?_,q o λob u z=>?_]
 ·have e:b=s1.heap.objs.size:=by simpa using hb
  subst e;exact I2.fpOk (aas _) (I2.hok.fresh (aas _))
 ·have:=I1.base.frzs a ob u z;rw[hq] at this;cases this
def A0r(X:Cx)(D:tP):tP:=#[λσ H=>∃ a o kvs,H a=Y 2.71/\(∀ o u,X.H₀ a≠Y 1.62)/\D.nx σ (upd H a 2.5),λz z=>False,λz z=>False,λz z=>False]
def ui{st:Kw}(h:PS X st t):PS X st (λD σ H=>t (A0r X D) σ H):=λpins s σ H D I q=>
 ee (h pins s σ H _ I q) λf s' z=>by
  cases f with
  | next=>obtain⟨σ',H',I',a,o,kvs,e,h0,q⟩:=z;exact#[σ',_,I'.thaw e h0,q]
  | brk=>obtain⟨w,w,w,z⟩:=z;exact z.elim
  | cont=>obtain⟨w,w,w,z⟩:=z;exact z.elim
  | ret u=>obtain⟨w,w,w,w,w,z⟩:=z;exact z.elim
end
end L2
namespace M
open L2
section
variable{X:Cx}{K:Ym}{μ:Fp}{H:Hp}{S:aa}
def FC(f:Nat)(x:D)(S:aa):Option aa:=match x,S[f]? with
 | .int i,Y 1.5=>match (AK xs i:Option D) with
  | some (.ref q)=>match S[q]? with
   | some 1.98=>match (ys[(2:Nat)]?:Option D) with | some (.int c)=>Y (S.set q (.lst (ys.set 2 (.int (c+1))))) | _=>J
   | _=>J
  | _=>J
 | _,_=>J
def Yy:bK->D
 | .inl i=>.int i
 | .inr x=>.str x
def JV(o f:Nat)(kvs:List (bK×D)):List bK->bn->aa->Option qz
 | [],env,S=>Y 1.16
 | k::l,env,S=>(Oi kvs k).bind λx=>(FC f x S).bind λS'=>JV o f kvs l (env.set o (Y (Yy k))) S'
noncomputable def iA(f g o:Nat):MS:=λenv S=>match env[f]?,env[g]? with
 | some (Y (.ref p)),Y (Y (.ref r))=>match S[r]? with
  | some 7.6=>if f=o\/g=o\/env.length<=o then J else JV o p 7.8 ks env S
  | _=>J
 | _,_=>J
def zx(k:bK):Rep K μ H (Yx k) (Yy k):=by cases k<;>first | exact .int _ | exact .str _
structure Bmp(K:Ym)(μ:Fp)(H:Hp)(p:gV)(v:V)(S':aa)(q:gV)(ws:List V)(c:Int):Prop where
 ix:∃ i xs,v=.int i/\H p=Y 1.5/\AK xs i=Y (.ref q)
 cl:H q=Y (.lst ws)
 at2:ws[2]?=Y (.int c)
 ok:SOk K μ S' (upd H q (.lst (ws.set 2 (.int (c+1)))))
 ext:Ext μ H μ (upd H q (.lst (ws.set 2 (.int (c+1)))))
 mem:q∈μ.cs
def uf{f:Nat}(s:SOk K μ S H)(hf:μ.cs[f]?=Y p)(r:Rep K μ H v x)(h:FC f x S=Y S') :
  (∃ q ws c,Bmp K μ H p v S' q ws c)/\∀ (j:Nat) ks vs,S[j]?=Y 7.6->S'[j]?=Y 7.6:=by
 unfold FC at h;split at h
 ·rename_i i xs hc;split at h
  ·rename_i j hj;split at h
   ·rename_i ys hy;split at h
    ·rename_i c h2;cases h;cases r;obtain⟨vs,e,rv⟩:=s.cell f p _ hf hc;obtain⟨u,e1,r1⟩:=bS rv hj;cases r1 with
     | @ref q _ hq=>
      obtain⟨ws,e2,rw0⟩:=s.cell j q _ hq hy;obtain⟨w,e3,r3⟩:=rw0.get h2;rw[r3.int_inv] at e3;obtain⟨e4,s4⟩:=s.write hq e2 (rw0.set (.int (c+1)) 2);refine#[#[q,ws,c,#[i,vs,rfl,e,e1],e2,e3,s4,e4,aax hq],λk ks ds z=>?_];rw[aaq (λw=>by subst w;rw[hy] at z;cases z)];exact z
    ·cases h
   ·cases h
  ·cases h
 ·cases h
noncomputable def rDix:R2:=λx y H Q=>∃ a v,x=.ref a/\DGet H a y (Y v)/\Q v H
theorem UY(hu:X.A.units+64<cLine)(hp:PassesOwn 0.2 X.A X.env X.xe)(hc:X.calm=true)
  (hf:∀ p,PE X (.Name xf p) (Yu f)) (hg:∀ p,PE X (.Name xg p) (Yu g)) (ho:∀ p,PE X (.Name xo p) (Yu o)) (ht:PG X tg (DD o)) :
  DS X (.For tg (.Name xg p0) [.Assign [.Subscript (.Subscript (.Name xf f1) (.Subscript (.Name xg g1) (.Name xo o1) q1) q2) (.Constant (.int 2) j1 q3) q4]
   (.BinOp (.Subscript (.Subscript (.Name xf f2) (.Subscript (.Name xg g2) (.Name xo o2) q5) q6) (.Constant (.int 2) j2 q7) q8) .Add (.Constant (.int 1) j3 q9) qa) pos] [] pos) (iA f g o):=by
 have hx:∀ {a b c d e},PE X (.Subscript (.Name xf a) (.Subscript (.Name xg b) (.Name xo c) d) e) (Sm (Xs X.K) (Yu f) (Sm rDix (Yu g) (Yu o))):=λ{a b c d e}=>
  yU ix_list (hf a) (yU (xO 0.0) (hg b) (ho c) λj j=>rfl) λj j=>rfl
 have hb:PSs X [.Assign [.Subscript (.Subscript (.Name xf f1) (.Subscript (.Name xg g1) (.Name xo o1) q1) q2) (.Constant (.int 2) j1 q3) q4]
   (.BinOp (.Subscript (.Subscript (.Name xf f2) (.Subscript (.Name xg g2) (.Name xo o2) q5) q6) (.Constant (.int 2) j2 q7) q8) .Add (.Constant (.int 1) j3 q9) qa) pos] _:=
  tX (iq (xM cV (yU ix_list hx lc λj j=>rfl) lc) (aY hx lc xH (λj=>rfl)))
 refine PS.imp (ui (aS hp hc (zu (hg p0)) ht hb (λj=>rfl))) λE σ H ⟨μ,S,env,out,hS,hE,hm,post⟩=>?_;unfold iA at hm;split at hm
 ·rename_i p r e1 e2;split at hm
  ·rename_i ks vs hr;split at hm
   ·cases hm
   ·rename_i hn;have n1:f≠o:=λz=>hn (.inl z);have n2:g≠o:=λz=>hn (.inr (.inl z));have hl:¬ env.length<=o:=λz=>hn (.inr (.inr z));obtain⟨vg,eg,rg⟩:=hE.get e2;obtain⟨vf,ef,rf⟩:=hE.get e1;cases rg with
    | @ref a _ ha=>
     cases rf with
     | @ref pa _ hpa=>
      obtain⟨kvs,e0,hk,rr⟩:=hS.cell r a _ ha hr;refine#[_,eg,a,kvs,rfl,e0,λob h0=>?_]
      refine⟨λi m σ' H'=>m=kvs.length - i/\i<=kvs.length/\∃ H1 S1 env1,H'=upd H1 a (.frz ob 2.5)/\H1 a=Y 2.5/\Ext μ H μ H1/\SOk X.K μ S1 H1/\EOk X.K μ H1 σ' env1/\S1[r]?=Y 7.6/\env1[f]?=Y (Y (.ref p))/\env1[g]?=Y (Y (.ref r))/\¬ env1.length<=o/\JV o p 7.8 (ks.drop i) env1 S1=Y out,
       #[_,rfl,abG _,H,S,env,rfl,e0,hS.ext,hS,hE,hr,e1,e2,hl,hm],?_⟩
      rintro i m σ' H' ⟨hm',hi,H1,S1,env1,rfl,ea,ex,s1,r1,c1,g1',g2',l',run⟩;subst hm';by_cases hi':i<kvs.length
      ·refine .inr #[#[bD,hi'],_,λσ2 H2 z=>#[kvs.length - (i+1),by omega,z],λx H2 ⟨eH,kv,hkv,ex'⟩=>?_];subst eH ex';have hki:ks[i]?=Y kv.1:=by rw[hk,aaP,hkv];rfl
       have hd:ks.drop i=kv.1::ks.drop (i+1):=by
        obtain⟨z1,z2⟩:=aaa.mp hki;rw[abu z1,z2]
       rw[hd] at run;obtain⟨x,hx1,run⟩:=gA run;obtain⟨S2,hx2,run⟩:=gA run;obtain⟨kv1,e0',hk1,rr1⟩:=s1.cell r a _ ha c1;rw[ea] at e0';cases e0';obtain⟨v,hv,rv⟩:=(KR.of hk1 rr1).val hx1;obtain⟨⟨q,ws,c,B⟩,stay⟩:=uf s1 hpa rv hx2;obtain⟨ii,xs,rfl,ep,eq⟩:=B.ix
       have fr:∀ {b:gV} {xs:List V},H1 b=Y 1.5->2.65 b=Y 1.5:=λ{b xs} z=>by
        rw[bo (λw=>by subst w;rw[ea] at z;cases z)];exact z
       have qa':q≠a:=λw=>by have:=B.cl;rw[w,ea] at this;cases this
       have ei:(xs:List V).length=xs.length:=rfl
       have i2:FQ ws.length 2=Y 2:=by
        have:=(aaa.mp B.at2).1;unfold FQ;rw[aam 0.1,aam 0.0];rfl
       have a2:AK ws 2=Y (.int c):=by unfold AK;rw[i2];exact B.at2
       have gf:(σ'.set o 2.05)[f]?=Y (Y (.ref pa)):=by
        obtain⟨u,z1,z2⟩:=r1.get g1';cases z2 with | @ref pb _ hpb=>rw[hpa] at hpb;cases hpb;rw[aaq (Ne.symm n1)];exact z1
       have gg:(σ'.set o 2.05)[g]?=Y (Y (.ref a)):=by
        obtain⟨u,z1,z2⟩:=r1.get g2';cases z2 with | @ref pb _ hpb=>rw[ha] at hpb;cases hpb;rw[aaq (Ne.symm n2)];exact z1
       have gO:(σ'.set o 2.05)[o]?=Y 2.05:=aaw (by rw[r1.length];omega)
       have gx:∀ Q:VK,Q (.ref q) 2.65->Sm (Xs X.K) (Yu f) (Sm rDix (Yu g) (Yu o)) (σ'.set o 2.05) 2.65 Q:=λQ z=>
        #[_,gf,_,gg,_,gO,a,.int ii,rfl,#[kvs,kv.1,.inr #[ob,bD],rfl,hv.symm],pa,xs,ii,_,rfl,rfl,.inl (.inl (fr ep)),eq,z]
       refine gx _ #[q,ws,2,_,rfl,rfl,.inl (.inl (fr B.cl)),a2,c,1,rfl,rfl,gx _ #[q,ws,2,2,rfl,rfl,fr B.cl,i2,rfl,hi',_,S2,env1.set o (Y (Yy kv.1)),?_,(bo (Ne.symm qa')).trans ea,ex.trans B.ext,B.ok,(r1.mono B.ext).set (zx _) o,stay r ks vs c1,?_,?_,?_,run]]
       ·funext b;unfold upd;split
        ·rename_i z;rw[if_neg (λw=>qa' (z.symm.trans w))]
        ·rfl
       ·rw[aaq (Ne.symm n1)];exact g1'
       ·rw[aaq (Ne.symm n2)];exact g2'
       ·rw[abY];exact l'
      ·have e:kvs.length=i:=by omega
       have hd:ks.drop i=[]:=by rw[hk];exact List.drop_eq_nil_of_le 2.8
       rw[hd] at run;cases run;refine .inl #[#[bD,ade e],a,ob,kvs,bD,h0,?_]
       have:upd 2.65 a 2.5=H1:=by
        funext b;unfold upd;split
        ·rename_i z;rw[z];exact ea.symm
        ·rfl
       rw[this];exact post σ' H1 μ ex s1 r1
  ·cases hm
 ·cases hm
def rp:MtR X "dict.pop" (λx xs H Q=>∃ a kvs k d,x=.ref a/\H a=Y 2.5/\xs=[Yx k,d]/\((XE kvs k=J/\Q d H)\/∃ v,XE kvs k=Y v/\Q v (upd H a (.dK (BA kvs k))))):=by
 intro pins s σ H x xs v us Q I rx rv h;obtain⟨a,kvs,k,d,rfl,e,rfl,h⟩:=h;cases rx;obtain⟨u,u2,rfl,ru,ru2⟩:=rv.two;rcases h with ⟨l,q⟩ | ⟨v,l,q⟩
 ·exact ga I e ru l λs' I'=>#[_,H,I',ru2,q]
 ·exact d_pop I e ru l (.inr #[u2,rfl]) λw' s' I' rw'=>#[_,_,I',rw',q]
def LI(kvs:List (bK×D))(k:bK):List (bK×D):=match kvs with
 | []=>[]
 | p::r=>if p.1=k then LI r k else p::LI r k
def KR.drop{k:bK}:∀ {vs ds},KR K μ H vs ds->KR K μ H (BA vs k) (LI ds k)
 | _,_,.nil=>.nil
 | _,_,.cons (k:=k') h t=>by
  have ih:=KR.drop (k:=k) t;unfold LI;by_cases e:k'=k
  ·rw[oQ e];simp only[aam e];exact ih
  ·rw[uV e];simp only[if_neg e];exact .cons h ih
def Do:MF:=λo ds S=>match o,ds with
 | .ref r,[y,z]=>match S[r]? with
  | some 7.6=>(OA y).bind λk=>match Oi 7.8 k with
   | some d=>Y (d,S.set r (.dct ((LI 7.8 k).map (·.1)) ((LI 7.8 k).map (·.2))))
   | none=>Y (z,S)
  | _=>J
 | _,_=>J
def zw:MtR X "dict.pop" (Of X.K Do):=MtR.imp rp λx vs H Q z0=>by
 obtain⟨μ,S,dx,ds,d,S',hS,r1,r2,h,post⟩:=z0;unfold Do at h;split at h
 ·rename_i r y z;split at h
  ·rename_i ks xs q;obtain⟨k,h4,h⟩:=gA h;obtain⟨v,w,rfl,rv,rw0⟩:=r2.two;cases r1 with
   | @ref a _ h'=>
    obtain⟨kvs,e,hk,rr⟩:=hS.cell r a _ h' q;have kr:=KR.of hk rr;have ky:=jJ h4 rv;subst ky;split at h
    ·rename_i d' hd;cases h;obtain⟨v,hv,rv⟩:=kr.val hd;have kk:=kr.drop (k:=k);obtain⟨e3,s3⟩:=hS.writeD h' e (kvs':=BA kvs k) kk.keys.symm kk.reps;exact#[a,kvs,k,w,rfl,e,rfl,.inr #[v,hv,post _ _ μ e3 s3 (rv.mono e3)]]
    ·rename_i hn;cases h;exact#[a,kvs,k,w,rfl,e,rfl,.inl #[kr.valN hn,post.here hS rw0]]
  ·cases h
 ·cases h
def KS(S:aa)(d:D):D:=match SR S d with
 | .lst xs=>.lst 1.63
 | d=>d
def zO(s:SOk K μ S H):∀ {vs:List V} {xs:List D},Reps K μ H vs xs->(xs.map (SR S)).all (Dl n)=true->Reps K #[[],[]] H vs 1.63
 | _,_,.nil,_=>.nil
 | _,_,.cons r t,h=>by
  rw[List.map_cons,abA,aag] at h;exact .cons (lT s r h.1) (zO s t h.2)
def nY{d:D}(s:SOk K μ S H)(r:Rep K μ H v d)(h:Dl n (KS S d)=true):Rep K #[[],[]] H v (KS S d):=by
 have main:∀ {a:gV} {vs:List V} {xs:List D},H a=Y 1.08->Reps K μ H vs xs->Dl n (.lst 1.63)=true->Rep K #[[],[]] H (.ref a) (.lst 1.63):=λe q h=>by
  cases n with
  | zero=>cases h
  | succ n=>exact .lst e #[by simp,by simp] (zO s q h)
 by_cases hd:∃ xs,SR S d=.lst xs
 ·obtain⟨xs,hx⟩:=hd;have e:KS S d=.lst 1.63:=by unfold KS;rw[hx]
  rw[e] at h ⊢;cases r with
  | lst ha n r=>cases hx;exact main ha r h
  | @ref a i h'=>
   cases q:S[i]? with
   | none=>simp only[SR,q] at hx;cases hx
   | some c=>
    cases c with
    | lst ys=>
     simp only[SR,q] at hx;cases hx;obtain⟨vs,e,r⟩:=s.cell i a _ h' q;exact main e r h
    | _=>simp only[SR,q] at hx;cases hx
  | _=>cases hx
 ·have e:KS S d=SR S d:=by
   unfold KS;split
   ·rename_i xs hx;exact absurd #[xs,hx] hd
   ·rfl
  rw[e] at h ⊢;exact lT s r h
def LQ(S:aa)(x y:D):Option D:=if Dl 40 (KS S x)=true/\Dl 40 (KS S y)=true then Y (.bl (!Oo (KS S x) (KS S y))) else J
def uj(hu:X.A.units+64<cLine):OpR X (Uv .NotEq) (nA X.K LQ):=by
 intro pins s σ H x y v u Q I rx ry h;obtain⟨μ,S,dx,dy,dz,hS,h1,h2,h3,post⟩:=h;simp only[LQ] at h3;split at h3
 ·rename_i hk;cases h3;exact neRc I 40 X.A 0.0 hk.1 hk.2 (nY hS h1 hk.1) (nY hS h2 hk.2) rx ry X.prog X.w X.xe _ #[.bl _,H,I,rfl,post.here hS (.bl _)]
 ·cases h3
noncomputable def jU(n:Nat)(gs:tL):MG:=λd env S=>match d with
 | .ref r=>match S[r]? with | some 1.5=>if xs.length=n then gs xs env S else J | _=>J
 | d=>aQ n gs d env S
theorem Ve{k n:Nat}(hc:X.calm=true)(h:WL X es gs)(hn:(assignEach es X.env).length=n:=by rfl)(hst:(assignEach es X.env).findIdx? (·.1)=J:=by rfl):DG X 1.01 (jU n gs):=
 λpins s σ H v u Q I r z0=>by
  obtain⟨μ,S,env,d,env',S',hS,hE,hr,hm,post⟩:=z0;cases d with
  | ref i=>
   simp only[jU] at hm;split at hm
   ·rename_i xs hq;split at hm
    ·rename_i hl;cases hr with
     | @ref a _ h'=>
      obtain⟨vs,e,r2⟩:=hS.cell i a _ h' hq;exact pH hc h hn hst pins s σ H _ u Q I r #[a,vs,rfl,.inl (.inl e),by rw[r2.length];exact hl,μ,S,env,xs,env',S',hS,hE,r2,hm,post]
    ·cases hm
   ·cases hm
  | _=>exact Il hc h hn hst pins s σ H v u Q I r #[μ,S,env,_,env',S',hS,hE,hr,hm,post]
end
end M
set_option hygiene false
local macro_rules|`($c:char)=>do let q:=Lean.quote (c.getChar.toNat%48);if c.getChar.toNat<96 then `(MI.af $q) else `(MI.ai $q)
local macro_rules|`($c:scientific)=>if c.getScientific.2.1 then Lean.Macro.throwUnsupported else `(MI.mC (.int $(Lean.quote c.getScientific.1)))
local macro_rules|`(!$s:str)=>`(MI.mC (.str $s))
local macro_rules|`(tactic|simp![$l,*])=>`(tactic|simp only[ob,aj,ak,bJ,oj,bM,bN,aG,av,au,bd,ay,ar,aq,ao,aD,aE,aR,aH,eR,aP,eU,aX,bH,bb,aM,aZ,bq,bu,bL,aJ,bE,bi,ju,bj,bR,$l,*])
set_option hygiene true
namespace MI
open L2 M
@[irreducible] noncomputable def mC(d:D):ME:=M.mC d
def wB{d:D}:mC d=M.mC d:=by unfold mC;rfl
@[irreducible] noncomputable def af(i:Nat):ME:=M.af i
def uU:af i=M.af i:=by unfold af;rfl
@[irreducible] noncomputable def az(f:aa->D->D->Option D)(a b:ME):ME:=M.az f a b
def jl:az f a b=M.az f a b:=by unfold az;rfl
@[irreducible] noncomputable def aC(m:ME):MT:=M.aC m
def wp:aC m=M.aC m:=by unfold aC;rfl
@[irreducible] noncomputable def cU(f g:aa->D->D->Option D)(a b c:ME):ME:=M.cU f g a b c
def sN:cU f g a b c=M.cU f g a b c:=by unfold cU;rfl
@[irreducible] noncomputable def eD(m:ME):MT:=M.eD m
def wT:eD m=M.eD m:=by unfold eD;rfl
@[irreducible] noncomputable def cM(a b:MT):MT:=M.cM a b
def wC:cM a b=M.cM a b:=by unfold cM;rfl
@[irreducible] noncomputable def gE(a b:MT):MT:=M.gE a b
def lM:gE a b=M.gE a b:=by unfold gE;rfl
@[irreducible] noncomputable def eL(a:MT):MT:=M.eL a
def rC:eL a=M.eL a:=by unfold eL;rfl
@[irreducible] noncomputable def Dj(a b:ME):ME:=M.Pl a b
def pI:Dj a b=M.Pl a b:=by unfold Dj;rfl
@[irreducible] noncomputable def AA(a b:ME):ME:=M.Yl a b
def rB:AA a b=M.Yl a b:=by unfold AA;rfl
@[irreducible] noncomputable def SQ(a:ME):ME:=M.Pd a
def wQ:SQ a=M.Pd a:=by unfold SQ;rfl
@[irreducible] noncomputable def lZ(t:MT)(a b:ME):ME:=M.lZ t a b
def rq:lZ t a b=M.lZ t a b:=by unfold lZ;rfl
@[irreducible] noncomputable def am:MA:=M.am 
def pG  : am  = M.am  := by unfold am;rfl
@[irreducible] noncomputable def ac(a:ME)(r:MA):MA:=M.ac a r
def zy:ac a r=M.ac a r:=by unfold ac;rfl
@[irreducible] noncomputable def aW(ms:MA):ME:=M.aW ms
def wR:aW ms=M.aW ms:=by unfold aW;rfl
@[irreducible] noncomputable def eV(ms:MA):ME:=M.eV ms
def rn:eV ms=M.eV ms:=by unfold eV;rfl
@[irreducible] noncomputable def dD(ms:MA):ME:=M.dD ms
def zA:dD ms=M.dD ms:=by unfold dD;rfl
@[irreducible] noncomputable def xN(f:aa->D->Option D)(a:ME):ME:=M.xN f a
def ug:xN f a=M.xN f a:=by unfold xN;rfl
@[irreducible] noncomputable def bA:MO:=M.bA 
def zf  : bA  = M.bA  := by unfold bA;rfl
@[irreducible] noncomputable def bV(m:ME):MO:=M.bV m
def wm:bV m=M.bV m:=by unfold bV;rfl
@[irreducible] noncomputable def bz(a:ME)(lo hi:MO):ME:=M.bz a lo hi
def ze{lo:MO}:bz a lo hi=M.bz a lo hi:=by unfold bz;rfl
@[irreducible] noncomputable def bB(f:List D->aa->Option (D×aa))(ms:MA):ME:=M.bB f ms
def jc:bB f ms=M.bB f ms:=by unfold bB;rfl
@[irreducible] noncomputable def iz(T:String)(m:ME):ME:=M.iz T m
def yp:iz T m=M.iz T m:=by unfold iz;rfl
@[irreducible] noncomputable def ax(n:Nat)(f:List D->aa->Option (D×aa))(ms:MA):ME:=M.ax n f ms
def sO:ax n f ms=M.ax n f ms:=by unfold ax;rfl
@[irreducible] noncomputable def ba:MS:=M.ba 
def qU  : ba  = M.ba  := by unfold ba;rfl
@[irreducible] noncomputable def aF(a b:MS):MS:=M.aF a b
def wl:aF a b=M.aF a b:=by unfold aF;rfl
@[irreducible] noncomputable def bp(m:ME):MS:=M.bp m
def yo:bp m=M.bp m:=by unfold bp;rfl
@[irreducible] noncomputable def dg(m:ME):MS:=M.dg m
def nN:dg m=M.dg m:=by unfold dg;rfl
@[irreducible] noncomputable def bU(t:MT)(a b:MS):MS:=M.bU t a b
def yn:bU t a b=M.bU t a b:=by unfold bU;rfl
@[irreducible] noncomputable def ai(i:Nat):MG:=M.ai i
def oT:ai i=M.ai i:=by unfold ai;rfl
@[irreducible] noncomputable def aK:tL:=M.aK 
def nM  : aK  = M.aK  := by unfold aK;rfl
@[irreducible] noncomputable def ah(g:MG)(gs:tL):tL:=M.ah g gs
def zC:ah g gs=M.ah g gs:=by unfold ah;rfl
@[irreducible] noncomputable def aQ(n:Nat)(gs:tL):MG:=M.aQ n gs
def lN:aQ n gs=M.aQ n gs:=by unfold aQ;rfl
@[irreducible] noncomputable def eX(o i:ME):MG:=M.eX o i
def tW:eX o i=M.eX o i:=by unfold eX;rfl
@[irreducible] noncomputable def lO(o i:ME):MG:=M.lO o i
def wj:lO o i=M.lO o i:=by unfold lO;rfl
@[irreducible] noncomputable def aN(m:ME)(g:MG):MS:=M.aN m g
def jA:aN m g=M.aN m g:=by unfold aN;rfl
@[irreducible] noncomputable def cC(ms:MA):MA:=M.cC ms
def wu:cC ms=M.cC ms:=by unfold cC;rfl
@[irreducible] noncomputable def hZ(mi:MA)(g:MG)(body:MS):MS:=M.hZ mi g body
def lJ:hZ mi g body=M.hZ mi g body:=by unfold hZ;rfl
@[irreducible] noncomputable def ci(mi:MA)(g:MG)(t:MT)(e:ME)(cap:List 0.9):ME:=M.ci mi g t e cap
def wz{cap:List 0.9}:ci mi g t e cap=M.ci mi g t e cap:=by unfold ci;rfl
@[irreducible] noncomputable def dT(m:ME):MA:=M.dT m
def pD:dT m=M.dT m:=by unfold dT;rfl
@[irreducible] noncomputable def cf:MT:=M.cf 
def we  : cf  = M.cf  := by unfold cf;rfl
@[irreducible] noncomputable def dH(f:MF)(o:ME)(ms:MA):ME:=M.dH f o ms
def pC:dH f o ms=M.dH f o ms:=by unfold dH;rfl
@[irreducible] noncomputable def eM(ms:MA):MA:=M.eM ms
def za:eM ms=M.eM ms:=by unfold eM;rfl
@[irreducible] noncomputable def jb(o:ME)(ms:MA):ME:=M.jb o ms
def wg:jb o ms=M.jb o ms:=by unfold jb;rfl
@[irreducible] noncomputable def kD(ms:MA):MA:=M.kD ms
def zb:kD ms=M.kD ms:=by unfold kD;rfl
@[irreducible] noncomputable def gq(ms:List (ME×ME)):ME:=M.gq ms
def tV:gq ms=M.gq ms:=by unfold gq;rfl
@[irreducible] noncomputable def dF(ms:List (ME×ME)):ME:=M.dF ms
def sL:dF ms=M.dF ms:=by unfold dF;rfl
@[irreducible] noncomputable def dP(f:MF)(o:ME)(ms:MA):ME:=M.dP f o ms
def zg:dP f o ms=M.dP f o ms:=by unfold dP;rfl
@[irreducible] noncomputable def dU(m:ME)(g:MG)(body:MS):MS:=M.dU m g body
def xL:dU m g body=M.dU m g body:=by unfold dU;rfl
@[irreducible] noncomputable def el(ms:MA):ME:=M.el ms
def zh:el ms=M.el ms:=by unfold el;rfl
@[irreducible] noncomputable def eh(t:MT)(body:MS):MS:=M.eh t body
def zc:eh t body=M.eh t body:=by unfold eh;rfl
@[irreducible] noncomputable def dE(l:List (bK×D))(a:ME):ME:=M.dE l a
def zd:dE l a=M.dE l a:=by unfold dE;rfl
@[irreducible] noncomputable def cT(m:ME)(g:MG)(t:MT)(e:ME)(cap:List 0.9):ME:=M.cT m g t e cap
def sM{cap:List 0.9}:cT m g t e cap=M.cT m g t e cap:=by unfold cT;rfl
@[irreducible] noncomputable def gY(l:List (bK×Nat×(List D->aa->Option (D×aa))))(i:Nat)(mi:ME)(ms:MA):MS:=M.gY l i mi ms
def nW:gY l i mi ms=M.gY l i mi ms:=by unfold gY;rfl
@[irreducible] noncomputable def jU(n:Nat)(gs:tL):MG:=M.jU n gs
def nR:jU n gs=M.jU n gs:=by unfold jU;rfl
@[irreducible] noncomputable def iA(f g o:Nat):MS:=M.iA f g o
def nT:iA f g o=M.iA f g o:=by unfold iA;rfl
def fT:ax 0 f am=M.ax 0 f M.am:=by rw[sO,pG]
def dM:aC (az f a b)=M.aC (M.az f a b):=by rw[wp,jl]
def fS:aC (cU f g a b c)=M.aC (M.cU f g a b c):=by rw[wp,sN]
def jR:aN m (ai i)=M.aN m (M.ai i):=by rw[jA,oT]
def nk{cap:List 0.9}:aN (ci mi g t e cap) (ai i)=M.aN (M.ci mi g t e cap) (M.ai i):=by rw[jA,oT,wz]
def eS{cap:List 0.9}:aN (cT mi g t e cap) (ai i)=M.aN (M.cT mi g t e cap) (M.ai i):=by rw[jA,oT,sM]
section
variable{X:Cx}{e:sn}{es:List sn}{s:Kw}{ss:List Kw}
def cz{m m':ME}(h:m=m')(d:DE X e m'):DE X e m:=by rw[h];exact d
def xn{m m':MT}(h:m=m')(d:DT X e m'):DT X e m:=by rw[h];exact d
def sX{m m':MT}(h:m=m')(d:DW X e m'):DW X e m:=by rw[h];exact d
def pN{m m':MA}(h:m=m')(d:DA X es m'):DA X es m:=by rw[h];exact d
def iZ{m m':MO}(h:m=m')(d:DO X o m'):DO X o m:=by rw[h];exact d
def xA{m m':MG}(h:m=m')(d:DG X e m'):DG X e m:=by rw[h];exact d
def pq{m m':tL}(h:m=m')(d:WL X es m'):WL X es m:=by rw[h];exact d
def tS{m m':MA}(h:m=m')(d:DI X tg e m'):DI X tg e m:=by rw[h];exact d
def lj{m m':MT}(h:m=m')(d:Sb X es m'):Sb X es m:=by rw[h];exact d
def iC{m m':MS}(h:m=m')(d:DS X s m'):DS X s m:=by rw[h];exact d
def wF{m m':MS}(h:m=m')(d:SM X ss m'):SM X ss m:=by rw[h];exact d
end
inductive GI where
 | fn (n:Nat) (f:List D->aa->Option (D×aa))
 | con (d:D)
 | blt
 | tab (l:List (bK×D))
 | ftab (l:List (bK×Nat×(List D->aa->Option (D×aa))))
 | fns (l:List (gV×Nat×(List D->aa->Option (D×aa))))
structure CI where
 N:List Str
 sc:Scope
 all:Bool
 gs:List 1.4
 mt:List Nat
 nx:Bool
def GOk(X:Cx)(k:Nat)(x:Str):GI->Prop
 | .fn n f=>Fn X.prog X.w X.K X.mg X.base k x n f
 | .con d=>GC X.K X.mg x d
 | .blt=>X.mg x=J
 | .tab l=>xJ X.w X.K X.mg x l
 | .ftab l=>FTab X.prog X.w X.K X.mg X.base k x l
 | .fns l=>FnAts X.prog X.w X.K X.mg X.base k l
structure NX(X:Cx):Prop where
 xe:X.xe=λ_ _=>False
 hs:X.stack=X.env::X.outer
 hfm:X.env.frame=Y X.env.locals
 hex:X.ex=[]
structure js(k:Nat)(c:CI)(X:Cx):Prop where
 N:X.N=c.N
 nd:c.N.Nodup
 sc:X.env.scope=c.sc
 fk:c.sc.kind=.function
 fn:c.all=true->∀ x,X.fn x=true
 calm:X.calm=true
 room:Room k X.A
 xe:PassesOwn 0.2 X.A X.env X.xe
 xf:c.nx=true->NX X
 gs:∀ p∈c.gs,GOk X k p.1 p.2
def Xo:ME:=λz z=>J
def JS:MT:=λz z=>J
def Iy:MS:=λz z=>J
def Bt:MA:=λz z=>J
def PX:MG:=λz z z=>J
section
variable{X:Cx}{k:Nat}{c:CI}{e:sn}{pos:Pos}
def cJ:DE X e Xo:=λ_ _ _ _ _ _ ⟨_,_,_,_,_,_,_,h,_⟩=>by cases h
def rM:DT X e JS:=λ_ _ _ _ _ _ ⟨_,_,_,_,_,_,_,h,_⟩=>by cases h
def kq{s:Kw}:DS X s Iy:=λ_ _ _ _ _ _ ⟨_,_,_,_,_,_,h,_⟩=>by cases h
def mW{s:Kw}:DS X s (aN Xo g):=by
 rw[show aN Xo g=Iy from by rw[jA];rfl];exact kq
def da_no:DA X es Bt:=λ_ _ _ _ _ _ _ ⟨_,_,_,_,_,_,_,h,_⟩=>by cases h
def zM:DI X tg e Bt:=λ_ _ _ _ _ _ ⟨_,_,_,_,_,_,_,h,_⟩=>by cases h
def zN:DG X e PX:=λ_ _ _ _ _ _ _ _ _ ⟨_,_,_,_,_,_,_,_,_,h,_⟩=>by cases h
noncomputable def qi(x:Str):List Str->Option Nat
 | []=>J
 | y::r=>if x==y then Y 0 else(qi x r).map (· + 1)
def dr:∀ {l:List Str} {i:Nat},qi x l=Y i->l[i]?=Y x
 | y::r,i,h=>by
  unfold qi at h;split at h
  ·rename_i e;cases h;simp at e;simp[e]
  ·cases q:qi x r with
   | none=>rw[q] at h;cases h
   | some j=>rw[q] at h;cases h;simpa using dr q
def Gy(x:Str):Bool:=!(x==("__debug__":Str))&&!(x==("__classdict__":Str))&&!(x==("__name__":Str))
def dC(h:Gy x=true):(x==("__debug__":Str))=false:=by
 unfold Gy at h;rw[aag,aag] at h;simpa only[Bool.not_eq_true'] using h.1.1
def vP(h:Gy x=true):(x==("__classdict__":Str))=false:=by
 unfold Gy at h;rw[aag,aag] at h;simpa only[Bool.not_eq_true'] using h.1.2
def ja(h:Gy x=true):x≠"__name__":=by
 unfold Gy at h;rw[aag,aag] at h;have:=h.2;rw[Bool.not_eq_true'] at this;intro z;rw[z] at this;simp at this
def Wt(c:CI)(x:Str):Option GI:=match c.sc.names.lookup x with | some .globalImplicit=>if Gy x then c.gs.lookup x else J | _=>J
def jV(C:js k c X)(h:Wt c x=Y g):Gl X x/\Gy x=true/\GOk X k x g:=by
 unfold Wt at h;split at h
 ·rename_i e;split at h
  ·rename_i o;refine#[?_,o,C.gs _ (abK h)];show X.env.scope.names.lookup x=_;rw[C.sc,e]
  ·cases h
 ·cases h
def HN(c:CI)(x:Str):ME:=match c.sc.names.lookup x with
 | some .globalImplicit=>match Wt c x with | some (.con d)=>mC d | _=>Xo
 | some .local=>match qi x c.N with | some i=>if Gy x then af i else Xo | none=>Xo
 | some .cell=>match qi x c.N with | some i=>if Gy x then af i else Xo | none=>Xo
 | some .free=>match qi x c.N with | some i=>if Gy x then af i else Xo | none=>Xo
 | _=>Xo
def qt(C:js k c X)(hv:WJ c.sc x):DE X 7.4 (match qi x c.N with | some i=>if Gy x then af i else Xo | none=>Xo):=by
 split
 ·rename_i i e;split
  ·rename_i o;exact cz uU <| M.ZI (by rw[C.N];exact dr e) (by rw[C.sc];exact hv) (dC o) (vP o)
  ·exact cJ
 ·exact cJ
def ko(C:js k c X)(x:Str):DE X 7.4 (HN c x):=by
 unfold HN;split
 ·split
  ·rename_i d e;obtain⟨g,o,G⟩:=jV C e;exact cz wB <| M.Vi G g (dC o)
  ·exact cJ
 ·rename_i e;exact qt C (.inl e)
 ·rename_i e;exact qt C (.inr (.inl e))
 ·rename_i e;exact qt C (.inr (.inr e))
 ·exact cJ
def JJ:Const->ME
 | .int i=>mC (.int i)
 | .bool b=>mC (.bl b)
 | .none=>mC .non
 | .str x=>mC (.str x)
 | _=>Xo
def vC(v:Const):DE X (.Constant v j pos) (JJ v):=by
 cases v<;>first | exact cz wB <| M.ZP | exact cz wB <| M.de_bl | exact cz wB <| M.ZM | exact cz wB <| M.ZK | exact cJ
def QC(z y:Bool)(op:Operator)(a b:ME):ME:=match op with
 | .Add=>az OE a b
 | .Sub=>az pB a b
 | .Mult=>az Tt a b
 | .Mod=>az mG a b
 | .FloorDiv=>az Fo a b
 | .Pow=>az yu a b
 | _=>Xo
def a00{mb:ME}(ha:DE X a ma)(hb:DE X b mb):DE X 2.57 (QC z y op ma mb):=by
 cases op<;>first | exact cJ | skip
 ·exact cz jl <| M.zP uo ha hb
 ·exact cz jl <| M.zP eG ha hb
 ·exact cz jl <| M.zP uO ha hb
 ·exact cz jl <| M.zP ku ha hb
 ·exact cz jl <| M.zP da ha hb
 ·exact cz jl <| M.zP lY ha hb
noncomputable def evUn(op:UnaryOp)(a:ME):ME:=match op with
 | .Not=>SQ a
 | .USub=>xN LP a
 | _=>Xo
def a01(ha:DE X a ma):DE X 2.55 (evUn op ma):=by
 cases op<;>first | exact cJ | skip
 ·exact cz wQ <| M.Vg ha
 ·exact cz ug <| M.de_un nD ha
def ZU:CmpOp->Option (aa->D->D->Option D)
 | .Eq=>Y On
 | .NotEq=>Y SO
 | .Lt=>Y RX
 | .LtE=>Y UF
 | .Gt=>Y Zq
 | .GtE=>Y fGe
 | .In=>Y SY
 | .NotIn=>Y Ov
 | .Is=>Y HH
 | .IsNot=>Y qr
def a02(r:Room k X.A)(h:ZU op=Y f):OpR X (Uv op) 1.90:=by
 cases op<;>cases h
 ·exact op_Eq r.units
 ·exact op_Ne r.units
 ·exact op_Lt
 ·exact op_Le
 ·exact op_Gt
 ·exact op_Ge
 ·exact op_Is
 ·exact mS
 ·exact op_In r.units
 ·exact mM r.units
def Ou(z y u v:Bool)(op:CmpOp):Option (aa->D->D->Option D):=if v then(match op with | .NotEq=>Y LQ | op=>ZU op) else ZU op
def lW(r:Room k X.A)(h:Ou z y u v op=Y f):OpR X (Uv op) 1.90:=by
 unfold Ou at h;split at h
 ·split at h
  ·cases h;exact uj (by have:=r.units;omega)
  ·exact a02 r h
 exact a02 r h
def SV:sn->Bool
 | .Set _ _ _=>false
 | _=>true
def jy(h:SV e=true):behindInMarks op e=false:=by cases e<;>first | rfl | cases h
def gW(h:SV e=true)(x:ab):Qf e X.env x=pure x:=by cases e<;>first | rfl | cases h
def QA(c:CI)(E:CI->sn->ME)(a:sn)(ops:List CmpOp)(bs:List sn):ME:=match ops,bs with
 | [op],[b]=>if SV b then(match Ou 8.6 8.5 8.7 8.8 op with | some f=>az f (E c a) (E c b) | none=>Xo) else Xo
 | [op,op'],[b,d]=>if SV d then(match Ou 8.6 8.5 8.7 8.8 op,Ou 8.6 8.5 8.7 8.8 op' with | some f,Y g=>cU f g (E c a) (E c b) (E c d) | _,_=>Xo) else Xo
 | _,_=>Xo
def HU(c:CI)(E:CI->sn->ME)(a:sn)(ops:List CmpOp)(bs:List sn):MT:=match ops,bs with
 | [op],[b]=>if SV b then(match Ou 8.6 8.5 8.7 8.8 op with | some f=>aC (az f (E c a) (E c b)) | none=>JS) else JS
 | [op,op'],[b,d]=>if SV d then(match Ou 8.6 8.5 8.7 8.8 op,Ou 8.6 8.5 8.7 8.8 op' with | some f,Y g=>aC (cU f g (E c a) (E c b) (E c d)) | _,_=>JS) else JS
 | _,_=>JS
section
variable{E:CI->sn->ME}{T:CI->sn->MT}
def a03(C:js k c X)(hE:∀ e,DE X e (E c e)){bs:List sn}:DE X (.Compare a ops bs pos) (QA c E a ops bs):=by
 unfold QA;split
 ·split
  ·rename_i hm;split
   ·rename_i f h;exact cz jl <| M.ZR (lW C.room h) (hE _) (hE _) (jy hm)
   ·exact cJ
  ·exact cJ
 ·split
  ·rename_i hm;split
   ·rename_i f g h1 h2;exact cz sN <| M.Rt (lW C.room h1) (lW C.room h2) (hE _) (hE _) (hE _) (jy hm)
   ·exact cJ
  ·exact cJ
 ·exact cJ
def a04(C:js k c X)(hE:∀ e,DE X e (E c e)){bs:List sn}:DT X (.Compare a ops bs pos) (HU c E a ops bs):=by
 unfold HU;split
 ·split
  ·rename_i hm;split
   ·rename_i f h;exact xn dM <| M.ZA (lW C.room h) (hE _) (hE _) (jy hm)
   ·exact rM
  ·exact rM
 ·split
  ·rename_i hm;split
   ·rename_i f g h1 h2;exact xn fS <| M.QO (lW C.room h1) (lW C.room h2) (hE _) (hE _) (hE _) (jy hm)
   ·exact rM
  ·exact rM
 ·exact rM
def Fc(f:ME->ME->ME):List ME->ME
 | []=>Xo
 | [m]=>m
 | m::r=>f m (Fc f r)
def SU(f:MT->MT->MT):List MT->MT
 | []=>JS
 | [m]=>m
 | m::r=>f m (SU f r)
def zF{E:sn->ME}(hE:∀ e,DE X e (E e)):∀ vs:List sn,DE X 2.33 (Fc Dj 2.34)
 | []=>cJ
 | [e]=>xK (hE e)
 | e::e'::r=>cz pI <| M.Vn (hE e) (zF hE (e'::r))
def a05{E:sn->ME}(hE:∀ e,DE X e (E e)):∀ vs:List sn,DE X 2.44 (Fc AA 2.34)
 | []=>cJ
 | [e]=>xK (hE e)
 | e::e'::r=>cz rB <| M.ZL (hE e) (a05 hE (e'::r))
def a06{E:sn->MT}(hE:∀ e,DT X e (E e)):∀ vs:List sn,DT X 2.33 (SU cM 2.34)
 | []=>rM
 | [e]=>si (kL (hE e))
 | e::e'::r=>si (sX wC <| M.QM (hE e) (foldT_andW hE (e'::r) 0.3))
where foldT_andW {E:sn->MT} (hE:∀ e,DT X e (E e)):∀ vs:List sn,vs≠[]->DW X 2.33 (SU cM 2.34)
 | [],h=>absurd rfl h
 | [e],_=>kL (hE e)
 | e::e'::r,_=>sX wC <| M.QM (hE e) (foldT_andW hE (e'::r) 0.3)
def a07{E:sn->MT}(hE:∀ e,DT X e (E e)):∀ vs:List sn,DT X 2.44 (SU gE 2.34)
 | []=>rM
 | [e]=>si (uM (hE e))
 | e::e'::r=>si (sX lM <| M.WC (hE e) (foldT_orW hE (e'::r) 0.3))
where foldT_orW {E:sn->MT} (hE:∀ e,DT X e (E e)):∀ vs:List sn,vs≠[]->DW X 2.44 (SU gE 2.34)
 | [],h=>absurd rfl h
 | [e],_=>uM (hE e)
 | e::e'::r,_=>sX lM <| M.WC (hE e) (foldT_orW hE (e'::r) 0.3)
def Ow:sn->Bool
 | .Starred _ _=>false
 | _=>true
def cA{es:List sn}(h:Ow e=true):Pi (e::es) X.env=2.1::Pi es X.env:=by cases e<;>first | rfl | cases h
def iD:∀ {es:List sn},es.all Ow=true->(backTo pos 2.7).any (·.1)=false
 | [],_=>rfl
 | e::es,h=>by
  rw[abA,aag] at h;rw[cA h.1];show(false||(backTo pos 2.7).any (·.1))=false;rw[iD h.2];rfl
def CF(E:sn->ME):List sn->MA
 | []=>am
 | e::r=>if Ow e then ac (E e) (CF E r) else Bt
def iw{E:sn->ME}(hE:∀ e,DE X e (E e)):∀ es:List sn,DA X es (CF E es)
 | []=>pN pG <| M.ZS
 | e::r=>by
  unfold CF;split
  ·rename_i h;exact pN zy <| M.Vp (hE e) (iw hE r) (cA h)
  ·exact da_no
def A0s(E:sn->ME):Option sn->MO
 | none=>bA
 | some e=>bV (E e)
def a08{E:sn->ME}(hE:∀ e,DE X e (E e)):∀ o:Option sn,DO X o (A0s E o)
 | none=>iZ zf <| M.Vb
 | some e=>iZ wm <| M.Va (hE e)
def CN(c:CI):sn->Option (List (bK×D))
 | .Name x _=>match Wt c x with | some (.tab l)=>Y l | _=>J
 | _=>J
def a09(C:js k c X)(h:CN c a=Y l):∃ x p,a=.Name x p/\Gl X x/\Gy x=true/\xJ X.w X.K X.mg x l:=by
 unfold CN at h;split at h
 ·split at h
  ·rename_i e;cases h;obtain⟨g,o,G⟩:=jV C e;exact#[_,_,rfl,g,o,G]
  ·cases h
 ·cases h
def Wz(c:CI)(E:sn->ME)(a i:sn):ME:=match i with
 | .Slice lo hi st _=>match st with | none=>bz (E a) (A0s E lo) (A0s E hi) | some st=>(match lo,hi with | none,J=>Xo | _,_=>Xo)
 | i=>match CN c a with | some l=>dE l (E i) | none=>az GD (E a) (E i)
def a0a(C:js k c X){E:sn->ME}(hE:∀ e,DE X e (E e))(a i:sn)(hs:XH i:=by intro z z;rfl):DE X (.Subscript a i pos) (match CN c a with | some l=>dE l (E i) | none=>az GD (E a) (E i)):=by
 cases ht:CN c a with
 | none=>
  dsimp only;exact cz jl <| M.ZO (by have:=C.room.units;omega) (hE a) (hE _) hs
 | some l=>
  obtain⟨x,p,rfl,g,o,G⟩:=a09 C ht;exact cz zd (M.Rh G g (dC o) (hE _) hs)
def a0b(C:js k c X){E:sn->ME}(hE:∀ e,DE X e (E e))(a i:sn):DE X (.Subscript a i pos) (Wz c E a i):=by
 cases i with
 | Slice lo hi st p=>
  cases st with
  | none=>
   show DE X _ (bz (E a) (A0s E lo) (A0s E hi));exact cz ze <| M.Ri (hE a) (a08 hE lo) (a08 hE hi)
  | some st=>
   cases lo with
   | none=>
    cases hi with
    | none=>
     show DE X _ Xo;exact cJ
    | some _=>exact cJ
   | some _=>exact cJ
 | _=>exact a0a C hE a _
def Xj:sn->Option Str
 | .Name x _=>Y x
 | _=>J
def dG(h:Xj e=Y x):∃ p,e=.Name x p:=by cases e<;>cases h;exact#[_,rfl]
def Tq:sn->Option (Str×List sn)
 | .Call f es [] _=>(Xj f).map λx=>(x,es)
 | _=>J
def kZ{x:Str}{es:List sn}(h:Tq e=Y (x,es)):∃ p p2,e=.Call 8.0 es [] p2:=by
 cases e with
 | Call f es' ks p2=>
  cases ks with
  | nil=>
   obtain⟨y,h1,h2⟩:=aeo.mp h;cases h2;obtain⟨p,rfl⟩:=dG h1;exact#[p,p2,rfl]
  | cons _ _=>cases h
 | _=>cases h
def Jx(c:CI)(x:Str):Bool:=match Wt c x with | some .blt=>true | _=>false
def nX(C:js k c X)(h:Jx c x=true):X.mg x=J/\Gl X x/\Gy x=true:=by
 unfold Jx at h;split at h
 ·rename_i e;obtain⟨a,b,d⟩:=jV C e;exact#[d,a,b]
 ·cases h
def Gi(c:CI)(es:List sn):Option sn:=match es with
 | [e1]=>match Tq e1 with
  | some (y,[a])=>if y=="set"&&Jx c y&&Ow a then Y a else J
  | _=>J
 | _=>J
def a0c(h:Gi c es=Y a):∃ p p2,es=[.Call (.Name "set" p) [a] [] p2]/\Jx c "set" = true/\Ow a=true:=by
 unfold Gi at h;split at h
 ·split at h
  ·rename_i hc;split at h
   ·rename_i hb;cases h;rw[aag,aag] at hb;obtain⟨p,p2,rfl⟩:=kZ hc;have z:=hb.1.1;rw[beq_iff_eq] at z;subst z;exact#[p,p2,rfl,hb.1.2,hb.2]
   ·cases h
  ·cases h
 ·cases h
def Ka(c:CI)(es:List sn):Option sn:=match es with
 | [e1]=>match Tq e1 with
  | some (y,[a])=>if y=="range"&&Jx c y&&Ow a then Y a else J
  | _=>J
 | _=>J
def xY(h:Ka c es=Y a):∃ p p2,es=[.Call (.Name "range" p) [a] [] p2]/\Jx c "range" = true/\Ow a=true:=by
 unfold Ka at h;split at h
 ·split at h
  ·rename_i hc;split at h
   ·rename_i hb;cases h;rw[aag,aag] at hb;obtain⟨p,p2,rfl⟩:=kZ hc;have z:=hb.1.1;rw[beq_iff_eq] at z;subst z;exact#[p,p2,rfl,hb.1.2,hb.2]
   ·cases h
  ·cases h
 ·cases h
noncomputable def bltG(z y q:Bool)(x:Str):Option (List D->aa->Option (D×aa)):=
 J
def A0t(z y n g h q l:Bool)(x:Str):Option (List D->aa->Option (D×aa)):=
 if x=="len" then Y (Gz Op) else if x=="int" then Y (Gz Om) else if x=="max" then Y (Gz XD) else if x=="min" then Y (Gz JE)
 else if x=="list" then Y 2.46 else if x=="tuple" then Y 2.2 else if x=="all" then Y (Gz LW) else bltG z y q x
set_option maxHeartbeats 800000 in
def a0d{es:List sn}(C:js k c X)(h:A0t zz yy nn gg hh qq ll x=Y f)(hm:X.mg x=J)(hg:Gl X x)(o:Gy x=true)(hs:(e::es).all Ow=true)(ha:DA X (e::es) ms) :
  DE X (.Call 8.0 (e::es) [] pos) (bB f ms):=by
 rw[abA,aag] at hs;have q1:=cA (X:=X) (es:=es) hs.1;have q2:=iD (X:=X) (pos:=pos) hs.2;unfold A0t at h;split at h
 ·rename_i z;cases h;rw[beq_iff_eq] at z;subst z;exact cz jc <| M.rP kJ hm boot_len ha hg (ja o) (dC o) q1 q2
 split at h
 ·rename_i z;cases h;rw[beq_iff_eq] at z;subst z;exact cz jc <| M.tz lg hm boot_int ha hg (ja o) (dC o) q1 q2
 split at h
 ·rename_i z;cases h;rw[beq_iff_eq] at z;subst z;exact cz jc <| M.rP (uk C.calm) hm boot_max ha hg (ja o) (dC o) q1 q2
 split at h
 ·rename_i z;cases h;rw[beq_iff_eq] at z;subst z;exact cz jc <| M.rP (dO C.calm) hm boot_min ha hg (ja o) (dC o) q1 q2
 split at h
 ·rename_i z;cases h;rw[beq_iff_eq] at z;subst z;exact cz jc <| M.tz xz hm boot_list ha hg (ja o) (dC o) q1 q2
 split at h
 ·rename_i z;cases h;rw[beq_iff_eq] at z;subst z;exact cz jc <| M.tz gU hm boot_tuple ha hg (ja o) (dC o) q1 q2
 split at h
 ·rename_i z;cases h;rw[beq_iff_eq] at z;subst z;exact cz jc <| M.rP (pA C.calm) hm boot_all ha hg (ja o) (dC o) q1 q2
 unfold bltG at h;cases h
def WZ(x:Str):Option String:=if x=="int" then Y "int" else if x=="bool" then Y "bool" else if x=="str" then Y "str" else if x=="tuple" then Y "tuple" else if x=="list" then Y "list" else if x=="dict" then Y "dict" else J
def a0e{T:String}(h:WZ x=Y T):bootBuiltins x=Y 1.96/\(T = "int"\/T = "bool"\/T = "str"\/T = "tuple"\/T = "list"\/T = "dict"):=by
 unfold WZ at h;split at h
 ·rename_i z;cases h;rw[beq_iff_eq] at z;subst z;exact#[boot_int,by simp]
 split at h
 ·rename_i z;cases h;rw[beq_iff_eq] at z;subst z;exact#[boot_bool,by simp]
 split at h
 ·rename_i z;cases h;rw[beq_iff_eq] at z;subst z;exact#[boot_str,by simp]
 split at h
 ·rename_i z;cases h;rw[beq_iff_eq] at z;subst z;exact#[boot_tuple,by simp]
 split at h
 ·rename_i z;cases h;rw[beq_iff_eq] at z;subst z;exact#[boot_list,by simp]
 split at h
 ·rename_i z;cases h;rw[beq_iff_eq] at z;subst z;exact#[boot_dict,by simp]
 cases h
def WA(c:CI)(E:sn->ME):List sn->ME
 | [a,t]=>match Xj t with
  | some y=>match Wt c y,WZ y with | some .blt,Y T=>if Ow a then iz T (E a) else Xo | _,_=>Xo
  | none=>Xo
 | _=>Xo
def Ce(c:CI)(E:sn->ME)(x:Str)(es:List sn):ME:=match Wt c x with
 | some (.fn n f)=>match es with
  | []=>if n==0 then ax 0 f am else Xo
  | e::r=>if (e::r).all Ow then ax n f (CF E (e::r)) else Xo
 | some .blt=>if x=="isinstance" then WA c E es else match (if x=="len" then Gi c es else J) with
  | some a=>Xo
  | none=>match (if x=="list" then Ka c es else J) with
  | some a=>el (CF E [a])
  | none=>match A0t (c.mt.contains 400000) (c.mt.contains 950000) (c.mt.contains 960000) (c.mt.contains 993000) (c.mt.contains 995000) (c.mt.contains 988000) (c.mt.contains 991000) x,es with
   | some f,e::r=>if (e::r).all Ow then bB f (CF E (e::r)) else Xo
   | _,_=>Xo
 | _=>Xo
def a0f(C:js k c X){E:sn->ME}(hE:∀ e,DE X e (E e)):DE X (.Call 8.0 es [] pos) (Ce c E x es):=by
 unfold Ce;split
 ·rename_i n f hg;obtain⟨g,o,G⟩:=jV C hg;split
  ·split
   ·rename_i hn;have:n=0:=by simpa using hn
    subst this;exact cz fT <| M.Ru G C.room g (dC o)
   ·exact cJ
  ·split
   ·rename_i hs;have hs':=hs;rw[abA,aag] at hs;exact cz sO <| M.Vm G C.room 1.65 g (dC o) (cA hs.1) (iD hs.2)
   ·exact cJ
 ·rename_i hg;obtain⟨g,o,G⟩:=jV C hg;split
  ·rename_i z;rw[beq_iff_eq] at z;subst z;unfold WA;split
   ·split
    ·rename_i y hy;obtain⟨p2,rfl⟩:=dG hy;split
     ·rename_i T h1 h2;obtain⟨g',o',G'⟩:=jV C h1;split
      ·rename_i hs;exact cz yp <| M.Mr G G' (a0e h2).1 (hE _) (a0e h2).2 g g' (ja o') (dC o') (cA hs) rfl rfl
      ·exact cJ
     ·exact cJ
    ·exact cJ
   ·exact cJ
  ·split
   ·rename_i a ha;split at ha
    ·rename_i z;rw[beq_iff_eq] at z;subst z;obtain⟨p3,p4,rfl,hb,hs⟩:=a0c ha;obtain⟨m2,g2,o2⟩:=nX C hb;exact cJ
    ·cases ha
   ·split
    ·rename_i a ha;split at ha
     ·rename_i z;rw[beq_iff_eq] at z;subst z;obtain⟨p3,p4,rfl,hb,hs⟩:=xY ha;obtain⟨m2,g2,o2⟩:=nX C hb;exact cz zh (M.Ro C.calm G m2 g g2 1.65 (cA hs))
     ·cases ha
    ·split
     ·rename_i _ f e r hf;split
      ·rename_i hs;exact a0d C (by assumption) G g o hs 1.65
      ·exact cJ
     ·exact cJ
 ·exact cJ
def Iv:sn->Option (sn×Str×Pos)
 | .Attribute o nm ap=>Y (o,nm,ap)
 | _=>J
def a0g{o:sn}{nm:Str}{ap:Pos}(h:Iv e=Y (o,nm,ap)):e=.Attribute o nm ap:=by cases e<;>cases h;rfl
def OT(x:Str):Option MF:=if x=="append" then Y OG else if x=="count" then Y XS else if x=="index" then Y Gs else if x=="extend" then Y Tb else J
def a0h(C:js k c X)(h:OT x=Y f):∃ id,Slot "list" x id/\typeOf 6.4=pure (.type "method_descriptor")/\MtR X id (Of X.K f):=by
 unfold OT at h;split at h
 ·rename_i z;cases h;rw[beq_iff_eq] at z;subst z;exact#[_,aeU,F.type_list_append,vH]
 split at h
 ·rename_i z;cases h;rw[beq_iff_eq] at z;subst z;exact#[_,adx,F.type_list_count,lI C.room.units]
 split at h
 ·rename_i z;cases h;rw[beq_iff_eq] at z;subst z;exact#[_,F.slot_list_index,F.type_list_index,nZ C.room.units]
 split at h
 ·rename_i z;cases h;rw[beq_iff_eq] at z;subst z;exact#[_,adt,F.type_list_extend,pJ]
 cases h
def GP(x:Str):Option MF:=if x=="update" then Y Nu else if x=="pop" then Y Do else J
def a0i(C:js k c X)(h:GP x=Y f):∃ id,Slot "dict" x id/\typeOf 6.4=pure (.type "method_descriptor")/\MtR X id (Of X.K f):=by
 unfold GP at h;split at h
 ·rename_i z;cases h;rw[beq_iff_eq] at z;subst z;exact#[_,aeV,F.type_dict_update,jr]
 split at h
 ·rename_i z;cases h;rw[beq_iff_eq] at z;subst z;exact#[_,adV,F.type_dict_pop,zw]
 cases h
def a0j:∀ {es:List sn},es.all Ow=true->(backTo pos 2.7).all (λx=>!x.1)=true
 | [],_=>rfl
 | e::es,h=>by
  rw[abA,aag] at h;rw[cA h.1];show(true&&(backTo pos 2.7).all (λx=>!x.1))=true;rw[a0j h.2];rfl
def Xy(o:sn):Bool:=match o with | .Call (.Name id _) [] [] _=>id != ("super":Str) | .Call _ _ _ _=>false | _=>true
def Cd(z y:Bool)(E:sn->ME)(o:sn)(nm:Str)(ap cp:Pos)(es:List sn):ME:=match Xy o,es with
 | true,e::r=>if (e::r).all Ow&&(decide ((e::r).length<30)&&ap.endLine==cp.line) then
   (if nm=="count" then jb (E o) (CF E (e::r)) else match GP nm with | some f=>dP f (E o) (CF E (e::r)) | none=>match OT nm with | some f=>dH f (E o) (CF E (e::r)) | none=>Xo) else Xo
 | true,[]=>Xo
 | _,_=>Xo
def a0k(C:js k c X){E:sn->ME}(hE:∀ e,DE X e (E e)):DE X (.Call (.Attribute o nm ap) es [] pos) (Cd z y E o nm ap pos es):=by
 unfold Cd;split
 ·rename_i e r hx;split
  ·rename_i h;rw[aag,aag] at h;have hs:=h.1;rw[abA,aag] at hs
   have few:((backTo pos (Pi (e::r) X.env)).all (λx=>!x.1)&&(backToKw pos 7.1).all (λx=>x.1.isSome)&&decide ((e::r).length+([]:List Keyword).length+(if ([]:List Keyword).isEmpty then 0 else 1)<30))=true:=by
    rw[a0j h.1];show(true&&decide ((e::r).length+0+0<30))=true;exact h.2.1
   split
   ·rename_i hc;rw[beq_iff_eq] at hc;subst hc;exact cz wg (M.ZQ C.room.units (hE _) 1.65 (tI hx) few h.2.2 (cA hs.1) (iD hs.2))
   ·split
    ·rename_i f hf;obtain⟨id,h1,h2,h3⟩:=a0i C hf;exact cz zg (M.Rn h1 h2 h3 (hE _) 1.65 (tI hx) few h.2.2 (cA hs.1) (iD hs.2))
    ·split
     ·rename_i f hf;obtain⟨id,h1,h2,h3⟩:=a0h C hf;exact cz pC (M.JQ h1 h2 h3 (hE _) 1.65 (tI hx) few h.2.2 (cA hs.1) (iD hs.2))
     ·exact cJ
  ·exact cJ
 ·rename_i hx;exact cJ
 ·exact cJ
def Dx:sn->Bool
 | .Slice _ _ _ _=>false
 | _=>true
def HQ(G:sn->MG):List sn->tL
 | []=>aK
 | e::r=>ah (if Ow e then G e else PX) (HQ G r)
def YS(c:CI)(x:Str):MG:=match c.sc.names.lookup x,qi x c.N with
 | some .local,Y i=>ai i
 | some .cell,Y i=>if c.all then ai i else PX
 | _,_=>PX
def Qx(c:CI)(E:sn->ME):sn->MG
 | .Name x _=>YS c x
 | .Subscript o i _=>if Dx i then(if c.mt.contains 600000 then lO (E o) (E i) else eX (E o) (E i)) else PX
 | _=>PX
def Zv(c:CI)(G1 G:sn->MG)(es:List sn):MG:=if es.all Ow then(if c.mt.contains 974000 then jU es.length (HQ G es) else aQ es.length (HQ G es)) else PX
def RY(c:CI)(E:sn->ME):sn->MG
 | .Tuple es _ _=>Zv c (Qx c E) (λe=>match e with | .Tuple es _ _=>if es.all Ow then aQ es.length (HQ (Qx c E) es) else PX | e=>Qx c E e) es
 | e=>Qx c E e
def a0l(C:js k c X)(x:Str):DG X 7.4 (YS c x):=by
 unfold YS;split
 ·rename_i h1 h2;exact xA oT <| M.JP (by rw[C.N];exact C.nd) (by rw[C.N];exact dr h2) (by rw[C.sc];exact .inl h1) (.inr (by rw[C.sc];exact h1))
 ·rename_i h1 h2;split
  ·rename_i ha;exact xA oT <| M.JP (by rw[C.N];exact C.nd) (by rw[C.N];exact dr h2) (by rw[C.sc];exact .inr h1) (.inl (C.fn ha x))
  ·exact zN
 ·exact zN
def a0m(C:js k c X){E:sn->ME}(hE:∀ e,DE X e (E e))(e:sn):DG X e (Qx c E e):=by
 cases e with
 | Name x p=>exact a0l C x
 | Subscript o i p=>
  show DG X _ (if Dx i then(if c.mt.contains 600000 then lO (E o) (E i) else eX (E o) (E i)) else PX);split
  ·rename_i h;split
   ·refine xA wj (M.Vf C.room.units (hE o) (hE i) ?_);cases i<;>first | (intro z;rfl) | cases h
   refine xA tW (M.ZF (hE o) (hE i) ?_);cases i<;>first | (intro z;rfl) | cases h
  ·exact zN
 | _=>exact zN
def tJ{es:List sn}(h:Ow e=true):assignEach (e::es) X.env=(false,assign e X.env)::assignEach es X.env:=by cases e<;>first | rfl | cases h
def mO:∀ {es:List sn},es.all Ow=true->(assignEach es X.env).length=es.length/\(assignEach es X.env).findIdx? (·.1)=J
 | [],_=>#[rfl,rfl]
 | e::es,h=>by
  rw[abA,aag] at h;rw[tJ h.1];obtain⟨a,b⟩:=mO h.2;exact#[by simp[a],by simp[abR,b]]
def vb{G:sn->MG}(hG:∀ e,DG X e (G e)):∀ es:List sn,es.all Ow=true->WL X es (HQ G es)
 | []=>λz=>pq nM <| M.Vd
 | e::r=>λh=>by
  rw[abA,aag] at h;unfold HQ;rw[aam h.1];exact pq zC <| M.Re (hG e) (vb hG r h.2) (by rw[tJ h.1];rfl)
def a0n(C:js k c X){G:sn->MG}(hG:∀ e,DG X e (G e))(es:List sn)(j:Nat):DG X (.Tuple es j pos) (if es.all Ow then aQ es.length (HQ G es) else PX):=by
 split
 ·rename_i h;exact xA lN <| M.Il C.calm (vb hG es h) (mO h).1 (mO h).2
 ·exact zN
def a0o(C:js k c X){G1 G:sn->MG}(hG1:∀ e,DG X e (G1 e))(hG:∀ e,DG X e (G e))(es:List sn)(j:Nat):DG X (.Tuple es j pos) (Zv c G1 G es):=by
 unfold Zv;split
 ·rename_i h;split
  ·exact xA nR <| M.Ve C.calm (vb hG es h) (mO h).1 (mO h).2
  exact xA lN <| M.Il C.calm (vb hG es h) (mO h).1 (mO h).2
 ·exact zN
def oq(C:js k c X){E:sn->ME}(hE:∀ e,DE X e (E e))(e:sn):DG X e (RY c E e):=by
 have h1:=a0m C hE;cases e with
 | Tuple es j p=>
  refine a0o C h1 (λe=>?_) es j;cases e with
  | Tuple es j p=>exact a0n C h1 es j
  | _=>exact h1 _
 | _=>exact h1 _
def A0u(c:CI)(E:sn->ME)(tg it:sn):MA:=match Tq it with
 | some (x,es)=>if x=="enumerate"&&Jx c x then(match tg,es with
   | .Tuple _ _ _,[a]=>if Ow a then eM (CF E [a]) else Bt
   | _,_=>Bt) else if x=="zip"&&Jx c x then(match tg,es with
   | .Tuple _ _ tp,[a,b]=>if Ow a&&Ow b then(kD (CF E [a,b])) else Bt
   | _,_=>Bt) else if x=="range"&&Jx c x then(match es with
   | [a]=>if Ow a then cC (CF E [a]) else Bt
   | _=>Bt) else dT (E it)
 | none=>dT (E it)
theorem HP(C:js k c X){E:sn->ME}(hE:∀ e,DE X e (E e)):DI X tg it (A0u c E tg it):=by
 unfold A0u;split
 ·rename_i x es he;obtain⟨p,p2,rfl⟩:=kZ he;split
  ·rename_i hx;rw[aag] at hx;obtain⟨m,g,o⟩:=nX C hx.2;have z:=hx.1;rw[beq_iff_eq] at z;subst z;split
   ·split
    ·rename_i h;exact tS za (M.Vc m 1.65 g (cA h))
    ·exact zM
   ·exact zM
  split
  ·rename_i hx;rw[aag] at hx;obtain⟨m,g,o⟩:=nX C hx.2;have z:=hx.1;rw[beq_iff_eq] at z;subst z;split
   ·split
    ·rename_i h;rw[aag] at h;exact tS zb (M.ZE m 1.65 g (by rw[cA h.1,cA h.2];rfl) (cA h.2))
    ·exact zM
   ·exact zM
  split
  ·rename_i hx;rw[aag] at hx;obtain⟨m,g,o⟩:=nX C hx.2;have z:=hx.1;rw[beq_iff_eq] at z;subst z;split
   ·split
    ·rename_i h;exact tS wu <| M.Mp m 1.65 g (cA h)
    ·exact zM
   ·exact zM
  ·exact tS pD <| M.Ik (hE _)
 ·exact tS pD <| M.Ik (hE _)
def Wl(c:CI)(it:sn):Bool:=match Tq it with | some (x,_)=>(x=="enumerate"||x=="zip"||x=="range")&&Jx c x | none=>false
def GX(scope sc:Scope):Scope:={ scope with names:=scope.names.map λx=>match x with | (n,k)=>if (k==NameKind.free&&sc.kind==.function&&sc.names.lookup n==Y .cell)=true then(n,.cell) else(n,k) }
def FJ(scope:Scope):List Str:=(scope.names.filter λx=>x.2==.local&&!(x.1==(".0":Str))).map (·.1)++(scope.names.filter λx=>x.2==.free).map (·.1)
def CW(c:CI)(scope:Scope):List 0.9:=(scope.names.filter λx=>x.2==.local&&!(x.1==(".0":Str))).map (λz=>J)++(scope.names.filter λx=>x.2==.free).map (λx=>qi x.1 c.N)
def A0v(c:CI)(scope:Scope):Bool:=
 scope.kind==.function&&(scope.names.all λx=>x.2 != .cell)&&(scope.names.all λx=>x.2 != .local||scope.names.lookup x.1==Y .local)
&&(scope.names.all λx=>x.2 != .free||c.sc.names.lookup x.1==Y .cell||c.sc.names.lookup x.1==Y .free)
&&Ld c.N 2.35 (λy=>c.sc.names.lookup y) (λy=>(GX scope c.sc).names.lookup y) 2.32 2.35&&decide (FJ scope).Nodup
def Cw(c:CI)(scope:Scope):CI:=#[FJ scope,GX scope c.sc,false,c.gs,c.mt,false]
def a0p(C:js k c X)(h:A0v c scope=true):BlockOk X 2.35 scope 2.32/\∀ A s H fp,js k 1.15 (Xv X 2.35 scope A s H fp):=by
 unfold A0v at h;simp only[aag,aaU,beq_iff_eq] at h;obtain⟨⟨⟨⟨⟨h1,h2⟩,h3⟩,h4⟩,h5⟩,h6⟩:=h;refine#[blk h6 h1 h2 h3 ?_ ?_,λA s H fp=>#[rfl,h6,?_,h1,3.5,C.calm,C.room,adQ,3.5,C.gs]]
 ·show(scope.names.all λx=>x.2 != .free||X.env.scope.names.lookup x.1==Y .cell||X.env.scope.names.lookup x.1==Y .free)=true;rw[C.sc];exact h4
 ·show Ld X.N 2.35 (λy=>X.env.scope.names.lookup y) (λy=>(GX scope X.env.scope).names.lookup y) 2.32 2.35=true;rw[C.sc,C.N];exact h5
 ·show GX scope X.env.scope=_;rw[C.sc];rfl
def Zt(T:sn->MT):List sn->MT
 | []=>cf
 | [e]=>T e
 | _=>JS
def uZ{T:sn->MT}(hT:∀ e,DT X e (T e)):∀ es:List sn,Sb X es (Zt T es)
 | []=>lj we <| M.QN
 | [e]=>mw (hT e)
 | _::_::_=>λ_ _ _ _ _ _ ⟨_,_,_,_,_,_,_,h,_⟩=>by cases h
def Ai(c:CI)(E:CI->sn->ME)(T:CI->sn->MT)(elt:sn)(gens:List Comprehension)(scope:Scope)(line:Nat):ME:=match gens with
 | [⟨tg,it,ifs,a⟩]=>if a==0&&SV it&&A0v c scope then if c.mt.contains (line+100000) then cT (E c it) (RY 1.15 (E 1.15) tg) (Zt (T 1.15) ifs) (E 1.15 elt) 2.32 else ci 2.53 (RY 1.15 (E 1.15) tg) (Zt (T 1.15) ifs) (E 1.15 elt) 2.32 else Xo
 | _=>Xo
def zJ(C:js k c X)(hE:∀ c X,js k c X->∀ e,DE X e (E c e))(hT:∀ c X,js k c X->∀ e,DT X e (T c e)):DE X (.ListComp elt gens scope pos) (Ai c E T elt gens scope line):=by
 unfold Ai;split
 ·rename_i tg it ifs a;split
  ·rename_i h;simp only[aag,beq_iff_eq] at h;obtain⟨⟨h0,h1⟩,h2⟩:=h;subst h0;obtain⟨B,C'⟩:=a0p C h2;split
   ·exact cz sM <| M.Rr C.calm B (hE _ _ C it) (λA s H fp=>oq 5.1 3.08 tg) (λA s H fp=>uZ 3.07 ifs) (λA s H fp=>hE _ _ 5.1 elt) (gW h1)
   ·exact cz wz <| M.Vl C.calm B (HP C (hE _ _ C)) (λA s H fp=>oq 5.1 3.08 tg) (λA s H fp=>uZ 3.07 ifs) (λA s H fp=>hE _ _ 5.1 elt) (gW h1)
  ·exact cJ
 ·exact cJ
def Zu(E:sn->ME):List 1.26->List sn->Option (List (ME×ME))
 | [],[]=>Y []
 | some k::ks,v::vs=>(Zu E ks vs).bind λr=>Y ((E k,E v)::r)
 | _,_=>J
def a0q{E:sn->ME}(hE:∀ e,DE X e (E e)):∀ {ks:List 1.26} {vs:List sn} {ms:List (ME×ME)},Zu E ks vs=Y ms->DPs X pos ks vs ms/\ks.all (·.isSome)=true/\ks.length=vs.length
 | [],[],ms,h=>by cases h;exact#[kG,rfl,rfl]
 | some k::ks,v::vs,ms,h=>by
  obtain⟨r,h1,h2⟩:=M.gA h;cases h2;obtain⟨a,b,d⟩:=a0q hE h1;exact#[eE (hE k) (hE v) a,by rw[abA,b];rfl,by rw[aar,aar,d]]
 | [],_::_,_,h=>by cases h
 | none::_,_,_,h=>by cases h
 | some _::_,[],_,h=>by cases h
def HR(c:CI)(E:sn->ME)(ks:List 1.26)(vs:List sn)(line:Nat):ME:=match ks with
 | []=>if vs.isEmpty then(if c.mt.contains line then dF [] else mC (.dct [] [])) else Xo
 | k::r=>if (k::r).length<=15 then(match Zu E (k::r) vs with | some ms=>if c.mt.contains line then dF ms else gq ms | none=>Xo) else Xo
def a0r{E:sn->ME}(C:js k c X)(hE:∀ e,DE X e (E e))(ks:List 1.26)(vs:List sn)(line:Nat):DE X (.Dict ks vs pos) (HR c E ks vs line):=by
 unfold HR;split
 ·split
  ·rename_i h;have:vs=[]:=by simpa using h
   subst this;split
   ·exact cz sL M.Rp
   ·exact cz wB <| M.Vj
  ·exact cJ
 ·rename_i k r;split
  ·rename_i hl;split
   ·rename_i ms h;obtain⟨a,b,d⟩:=a0q (pos:=pos) hE h;split
    ·exact cz sL (M.Rq a b d 0.3 hl)
    ·exact cz tV (M.Vk a b d 0.3 hl)
   ·exact cJ
  ·exact cJ
def Qv(E:sn->ME):List sn->ME
 | []=>Xo
 | _=>Xo
def a0s{E:sn->ME}(hE:∀ e,DE X e (E e)):∀ es:List sn,DE X (.JoinedStr es pos) (Qv E es)
 | []=>cJ
 | _::_=>cJ
def WB(E:sn->ME)(v:sn)(cv:Int)(f:Option sn):ME:=match cv,f with
 | _,_=>Xo
def a0t{E:sn->ME}(hE:∀ e,DE X e (E e)):DE X (.FormattedValue v cv f pos) (WB E v cv f):=by
 exact cJ
def VP(E:CI->sn->ME)(T:CI->sn->MT)(c:CI):sn->ME
 | .Constant v _ _=>JJ v
 | .Name x _=>HN c x
 | .BinOp a op b p=>QC (c.mt.contains (p.line+200000)) (c.mt.contains (p.line+210000)) op (E c a) (E c b)
 | .UnaryOp op a _=>evUn op (E c a)
 | .Compare a ops bs _=>QA c E a ops bs
 | .BoolOp op vs _=>match op with | .And=>Fc Dj (vs.map (E c)) | .Or=>Fc AA (vs.map (E c))
 | .IfExp t a b _=>lZ (T c t) (E c a) (E c b)
 | .Tuple es _ _=>aW 2.06
 | .List es pos=>if c.mt.contains pos.line then dD 2.06 else eV 2.06
 | .Dict ks vs pos=>HR c (E c) ks vs pos.line
 | .Subscript a i _=>Wz c (E c) a i
 | .Call f es ks p=>match Xj f,Iv f,ks with | some x,_,[]=>Ce c (E c) x es | none,Y (o,nm,ap),[]=>Cd (c.mt.contains 500000) (c.mt.contains 999000) (E c) o nm ap p es | _,_,_=>Xo
 | .ListComp elt gens scope p=>Ai c E T elt gens scope p.line
 | .JoinedStr es _=>Qv (E c) es
 | .FormattedValue v cv f _=>WB (E c) v cv f
 | _=>Xo
def VN(E:CI->sn->ME)(T:CI->sn->MT)(c:CI):sn->MT
 | .UnaryOp op a p=>match op with | .Not=>eL (T c a) | op=>eD (E c (.UnaryOp op a p))
 | .BoolOp op vs _=>match op with | .And=>SU cM (vs.map (T c)) | .Or=>SU gE (vs.map (T c))
 | .Compare a ops bs _=>HU c E a ops bs
 | .IfExp _ _ _ _=>JS
 | e=>eD (E c e)
def a0u(hE:∀ c X,js k c X->∀ e,DE X e (E c e))(hT:∀ c X,js k c X->∀ e,DT X e (T c e))(C:js k c X)(e:sn):DE X e (VP E T c e):=by
 have h1:=hE c X C;have h2:=hT c X C;cases e with
 | Constant v j p=>exact vC v
 | Name x p=>exact ko C x
 | BinOp a op b p=>
  show DE X _ (QC (c.mt.contains (p.line+200000)) (c.mt.contains (p.line+210000)) op (E c a) (E c b));exact a00 (z:=c.mt.contains (p.line+200000)) (y:=c.mt.contains (p.line+210000)) (h1 a) (h1 b)
 | UnaryOp op a p=>exact a01 (h1 a)
 | Compare a ops bs p=>exact a03 C h1
 | BoolOp op vs p=>cases op with | And=>exact zF h1 vs | Or=>exact a05 h1 vs
 | IfExp t a b p=>exact cz rq <| M.de_if (h2 t) (h1 a) (h1 b)
 | Tuple es j p=>exact cz wR <| M.ZJ (iw h1 es)
 | List es p=>
  show DE X _ (if c.mt.contains p.line then dD 2.06 else eV 2.06);split
  ·exact cz zA <| M.Vh (iw h1 es)
  ·exact cz rn <| M.ZN (iw h1 es)
 | Dict ks vs p=>exact a0r C h1 ks vs p.line
 | Subscript a i p=>exact a0b C h1 a i
 | Call f es ks p=>
  show DE X _ (match Xj f,Iv f,ks with | some x,_,[]=>Ce c (E c) x es | none,Y (o,nm,ap),[]=>Cd (c.mt.contains 500000) (c.mt.contains 999000) (E c) o nm ap p es | _,_,_=>Xo);split
  ·rename_i x h;obtain⟨p2,rfl⟩:=dG h;exact a0f C h1
  ·rename_i o nm ap _ ha;have:=a0g ha;subst this;exact a0k C h1
  ·exact cJ
 | ListComp elt gens scope p=>exact zJ C hE hT
 | JoinedStr es p=>exact a0s h1 es
 | FormattedValue v cv f p=>exact a0t h1
 | _=>exact cJ
def a0v(hE:∀ c X,js k c X->∀ e,DE X e (E c e))(hT:∀ c X,js k c X->∀ e,DT X e (T c e))(C:js k c X)(e:sn):DT X e (VN E T c e):=by
 have h1:=hE c X C;have h2:=hT c X C;cases e with
 | UnaryOp op a p=>cases op<;>first | exact xn rC <| M.Zz (h2 a) | exact xn wT <| M.Fs (h1 _)
 | BoolOp op vs p=>cases op with | And=>exact a06 h2 vs | Or=>exact a07 h2 vs
 | Compare a ops bs p=>exact a04 C h1
 | IfExp t a b p=>exact rM
 | _=>exact xn wT <| M.Fs (h1 _)
def Sv:Nat->(CI->sn->ME)×(CI->sn->MT)
 | 0=>(λz z=>Xo,λz z=>JS)
 | n+1=>(VP (Sv n).1 (Sv n).2,VN (Sv n).1 (Sv n).2)
def uu:∀ n:Nat,(∀ c X,js k c X->∀ e,DE X e ((Sv n).1 c e))/\(∀ c X,js k c X->∀ e,DT X e ((Sv n).2 c e))
 | 0=>#[λz z z z=>cJ,λz z z z=>rM]
 | n+1=>#[λz z C e=>a0u (uu n).1 (uu n).2 C e,λz z C e=>a0v (uu n).1 (uu n).2 C e]
def Ct:sn->Bool
 | .ListComp _ _ _ _=>false
 | .SetComp _ _ _ _=>false
 | .DictComp _ _ _ _ _=>false
 | _=>true
def iT(h:Ct e=true):swapsWith e t l X.env=pure false:=by cases e<;>first | rfl | cases h
def Cs:sn->Bool
 | .Tuple _ _ _=>true
 | .List _ _=>true
 | _=>false
def a0w(h:Cs t=false\/Cs e=false):swappedStores [t] e X.env=pure J:=by
 rcases h with h | h
 ·cases t<;>first | rfl | cases h
 ·cases t<;>first | rfl | (cases e<;>first | rfl | cases h)
def QH(c:CI)(E:CI->sn->ME)(T:CI->sn->MT)(x:Str)(px:Pos)(e:sn):MS:=match e with
 | .ListComp elt gens scope p=>if c.all&&(c.sc.names.lookup x==Y .local&&px.line==p.line&&!(scope.names.any λy=>y.1==x&&(y.2==.local||y.2==.cell))) then aN 9.6 (YS c x) else if c.all&&c.sc.names.lookup x==Y .cell then aN 9.6 (YS c x) else Iy
 | .DictComp _ _ _ _ _=>Iy
 | e=>if Ct e then aN (E c e) (YS c x) else Iy
def Sh:sn->Option (sn×sn)
 | .Tuple [a,b] _ _=>Y (a,b)
 | _=>J
def yE{a b:sn}(h:Sh t=Y (a,b)):∃ k p,t=.Tuple [a,b] k p:=by
 unfold Sh at h;split at h
 ·cases h;exact#[_,_,rfl]
 ·cases h
def A0w:sn->Option (Str×Pos)
 | .Name x p=>Y (x,p)
 | _=>J
def a0x{e:sn}{x:Str}{p:Pos}(h:A0w e=Y (x,p)):e=.Name x p:=by cases e<;>cases h;rfl
noncomputable def par2(t:sn):Option (Str×Pos×Str×Pos):=(Sh t).bind λq=>(A0w q.1).bind λx=>(A0w q.2).bind λy=>Y (x.1,x.2,y.1,y.2)
def a0y{x y:Str}{px py:Pos}(h:par2 t=Y (x,px,y,py)):∃ k p,t=.Tuple [.Name x px,.Name y py] k p:=by
 obtain⟨a,b,h1,h⟩:=M.dQ h;obtain⟨x,h2,h⟩:=M.gA h;obtain⟨y,h3,h⟩:=M.gA h;cases h;cases a0x h2;cases a0x h3;exact yE h1
def a0z{k:Nat}{a b:sn}(h:(X.env.kindOf x==Y NameKind.local&&X.env.kindOf y==Y NameKind.local)=false):swappedStores [.Tuple [.Name x px,.Name y py] k p] (.Tuple [a,b] k2 p2) X.env=pure J:=by
 unfold swappedStores;simp only;split
 ·rfl
 split
 ·rfl
 rw[aam];generalize hg:List.filterMap _ [Expr.Name x px,Expr.Name y py]=L
 have hL:L.length<=1:=by
  rw[<- hg,ach,ach];cases hx:(X.env.kindOf x==Y NameKind.local) with
  | false=>simp only[hx,abv,aaL,abE];split<;>simp
  | true=>
   have hy:(X.env.kindOf y==Y NameKind.local)=false:=by rw[hx,acr] at h;exact h
   simp only[hy,abv,aaL,abE];split<;>simp
 have h2:(L.length != [Expr.Name x px,Expr.Name y py].length)=true:=by
  rw[bne_iff_ne];show L.length≠2;omega
 rw[h2];rfl
def Jc(c:CI)(x y:Str):Bool:=!(c.sc.names.lookup x==Y .local&&c.sc.names.lookup y==Y .local)
def JI(c:CI)(E:CI->sn->ME)(t e:sn):Option MS:=match par2 t,Sh e with
 | some (x,px,y,py),Y (a,b)=>if Jc c x y then Y (aN (E c e) (RY c (E c) t)) else J
 | _,_=>J
def a0A(C:js k c X){E:CI->sn->ME}(hE:∀ e,DE X e (E c e))(h:JI c E t e=Y m):DS X 2.58 m:=by
 unfold JI at h;split at h
 ·rename_i x px y py a b h1 h2;obtain⟨k1,p1,rfl⟩:=a0y h1;obtain⟨k2,p2,rfl⟩:=yE h2;split at h
  ·rename_i hn;cases h;refine iC jA <| M.QW (hE _) (oq C hE _) rfl (a0z ?_) rfl
   unfold Jc at hn;rw[Bool.not_eq_true'] at hn;show(X.env.scope.names.lookup x==Y NameKind.local&&X.env.scope.names.lookup y==Y NameKind.local)=false;rw[C.sc];exact hn
  cases h
 ·cases h
def QI(c:CI)(E:CI->sn->ME)(T:CI->sn->MT)(t e:sn):MS:=match t with
 | .Name x px=>QH c E T x px e
 | t=>match JI c E t e with
 | some m=>m
 | none=>if Ct e&&Ow t&&(!Cs t||!Cs e) then aN (E c e) (RY c (E c) t) else Iy
def qV{s:Kw}:DS X s (aN m PX):=λz z z z z z z0=>by
 obtain⟨z,z,z,z,z,z,h,z⟩:=z0;rw[jA] at h;obtain⟨z,z,h⟩:=M.gA h;cases h
def a0B(C:js k c X)(hE:∀ c X,js k c X->∀ e,DE X e (E c e))(hT:∀ c X,js k c X->∀ e,DT X e (T c e)):DS X (.Assign [.Name x px] e pos) (QH c E T x px e):=by
 have h1:=hE c X C
 have gen:∀ e,Ct e=true->DS X (.Assign [.Name x px] e pos) (aN (E c e) (YS c x)):=λe hn=>by
  unfold YS;split
  ·rename_i h1' h2;exact iC jR <| M.HY (by rw[C.N];exact C.nd) (by rw[C.N];exact dr h2) (by rw[C.sc];exact .inl h1') (h1 e) (iT hn) (.inr (by rw[C.sc];exact h1'))
  ·rename_i h1' h2;split
   ·rename_i ha;exact iC jR <| M.HY (by rw[C.N];exact C.nd) (by rw[C.N];exact dr h2) (by rw[C.sc];exact .inr h1') (h1 e) (iT hn) (.inl (C.fn ha x))
   ·exact qV
  ·exact qV
 cases e with
 | ListComp elt gens scope p=>
  show DS X _ (if c.all&&(c.sc.names.lookup x==Y .local&&px.line==p.line&&!(scope.names.any λy=>y.1==x&&(y.2==.local||y.2==.cell))) then aN 9.6 (YS c x) else if c.all&&c.sc.names.lookup x==Y .cell then aN 9.6 (YS c x) else Iy);split
  ·rename_i hw;rw[aag] at hw;have hw1:=hw.2;simp only[aag,beq_iff_eq] at hw1;have hl:=hw1.1.1;unfold YS;rw[hl];cases hi:qi x c.N with
   | none=>exact qV
   | some i=>
    have sw:(pure (X.env.blockKind==.function&&X.env.scope.names.lookup x==Y .local&&px.line==p.line&&!(scope.names.any λy=>y.1==x&&(y.2==.local||y.2==.cell))):Sem Bool)=pure true:=by
     have hb:X.env.blockKind=.function:=by unfold Env.blockKind;rw[C.sc,C.fk];rfl
     rw[hb,C.sc];have:=hw.2;simp only[Bool.and_assoc] at this ⊢;rw[this];rfl
    unfold Ai;split
    ·rename_i tg it ifs a;split
     ·rename_i h;simp only[aag,beq_iff_eq] at h;obtain⟨⟨h0,h1'⟩,h2⟩:=h;subst h0;obtain⟨B,C'⟩:=a0p C h2;split
      ·exact iC eS <| M.Ft (by rw[C.N];exact C.nd) (by rw[C.N];exact dr hi) (by rw[C.sc];exact .inl hl) C.calm B (hE _ _ C it) (λA s H fp=>oq 5.1 3.08 tg) (λA s H fp=>uZ 3.07 ifs) (λA s H fp=>hE _ _ 5.1 elt) sw (gW h1') (.inr (by rw[C.sc];exact hl))
      ·exact iC nk <| M.HX (by rw[C.N];exact C.nd) (by rw[C.N];exact dr hi) (by rw[C.sc];exact .inl hl) C.calm B (HP C (hE _ _ C)) (λA s H fp=>oq 5.1 3.08 tg) (λA s H fp=>uZ 3.07 ifs) (λA s H fp=>hE _ _ 5.1 elt) sw (gW h1') (.inr (by rw[C.sc];exact hl))
     ·intro w w w w w w ⟨_,_,_,_,_,_,h,_⟩;rw[jA] at h;obtain⟨w,z,h⟩:=M.gA h;cases z
    ·exact mW
  ·split
   ·rename_i hw;rw[aag,beq_iff_eq] at hw;unfold YS;rw[hw.2];cases hi:qi x c.N with
    | none=>exact qV
    | some i=>
     dsimp only;rw[aam hw.1];refine iC jR <| M.HY (by rw[C.N];exact C.nd) (by rw[C.N];exact dr hi) (by rw[C.sc];exact .inr hw.2) (zJ C hE hT) ?_ (.inl (C.fn hw.1 x))
     show(pure (X.env.blockKind==.function&&X.env.scope.names.lookup x==Y .local&&px.line==p.line&&!(scope.names.any λy=>y.1==x&&(y.2==.local||y.2==.cell))):Sem Bool)=pure false;rw[C.sc,hw.2];have:((Y NameKind.cell:Option NameKind)==Y .local)=false:=by decide
     rw[this,abh];rfl
   ·exact kq
 | SetComp _ _ _ _=>exact kq
 | DictComp _ _ _ _ _=>exact kq
 | _=>exact gen _ rfl
def a0C(C:js k c X)(hE:∀ c X,js k c X->∀ e,DE X e (E c e))(hT:∀ c X,js k c X->∀ e,DT X e (T c e)){t:sn}:DS X 2.58 (QI c E T t e):=by
 have gen:∀ t,DS X 2.58 (match JI c E t e with | some m=>m | none=>if Ct e&&Ow t&&(!Cs t||!Cs e) then aN (E c e) (RY c (E c) t) else Iy):=λt=>by
  split
  ·rename_i h;exact a0A C (hE _ _ C) h
  split
  ·rename_i h;simp only[aag,acs,Bool.not_eq_true'] at h;refine iC jA <| M.QW (hE _ _ C e) (oq C (hE _ _ C) t) (iT h.1.1) (a0w h.2) ?_
   rw[tJ h.1.2];rfl
  ·exact kq
 cases t with
 | Name x px=>exact a0B C hE hT
 | _=>exact gen _
def WY:List MS->MS
 | []=>ba
 | [m]=>m
 | m::r=>aF m (WY r)
def mq{F:Kw->MS}(h:∀ s,DS X s (F s)):∀ ss:List Kw,SM X ss (WY (ss.map F))
 | []=>wF qU <| M.US
 | [s]=>mV (h s)
 | s::s'::r=>wF wl <| M.QQ (h s) (mq h (s'::r))
def Hz:sn->Bool
 | .Constant (.str _) _ _=>true
 | _=>false
def QF(c:CI)(E:sn->ME)(op:Operator)(e:sn):sn->MS
 | .Name x _=>match op,c.sc.names.lookup x,qi x c.N with
  | .Add,Y .local,Y i=>aN (az LV (af i) (E e)) (ai i)
  | .Add,Y .cell,Y i=>if c.all then aN (az LV (af i) (E e)) (ai i) else Iy
  | _,_,_=>Iy
 | _=>Iy
def a0D{E:sn->ME}(C:js k c X)(hE:∀ e,DE X e (E e))(e:sn)(t:sn):DS X (.AugAssign t op e pos) (QF c E op e t):=by
 unfold QF;split
 ·split
  ·rename_i h1 h2;exact iC (by rw[jR,jl,uU]) (M.QU (by rw[C.N];exact C.nd) (by rw[C.N];exact dr h2) (by rw[C.sc];exact .inl h1) (.inr (by rw[C.sc];exact h1)) (hE e))
  ·rename_i h1 h2;split
   ·rename_i ha;exact iC (by rw[jR,jl,uU]) (M.QU (by rw[C.N];exact C.nd) (by rw[C.N];exact dr h2) (by rw[C.sc];exact .inr h1) (.inl (C.fn ha _)) (hE e))
   ·exact kq
  ·exact kq
 ·exact kq
def RQ:Kw->Option (sn×sn)
 | .Assign ts v _=>ts.head?.bind λt=>if ts.length=1 then Y (t,v) else J
 | _=>J
def xI{s:Kw}{t v:sn}(h:RQ s=Y (t,v)):∃ p,s=.Assign [t] v p:=by
 cases s<;>try cases h
 rename_i ts v' p;obtain⟨t',h1,h⟩:=M.gA h;split at h
 ·rename_i hl;cases h;cases ts with
  | nil=>cases hl
  | cons a r=>
   cases r with
   | nil=>cases h1;exact#[_,rfl]
   | cons b r=>simp at hl
 ·cases h
def Nt(c:CI)(x:Str):Option Nat:=match c.sc.names.lookup x with
 | some .local=>(qi x c.N).bind λi=>if Gy x then Y i else J
 | _=>J
def oG(C:js k c X)(h:Nt c x=Y i):(∀ p,L2.PE X 8.0 (Yu i))/\∀ p,PG X 8.0 (DD i):=by
 unfold Nt at h;split at h
 ·rename_i hl;obtain⟨j,h1,h⟩:=M.gA h;split at h
  ·rename_i o;cases h;have e:X.N[i]?=Y x:=by rw[C.N];exact dr h1
   have l:X.env.scope.names.lookup x=Y .local:=by rw[C.sc];exact hl
   exact#[λp=>yv e (.inl l) (dC o) (vP o),λp=>fR (by rw[C.N];exact C.nd) e (.inl l) (.inr l)]
  ·cases h
 ·cases h
def A0x:sn->Option (sn×sn)
 | .Subscript o q _=>Y (o,q)
 | _=>J
def vB{e o q:sn}(h:A0x e=Y (o,q)):∃ p,e=.Subscript o q p:=by cases e<;>cases h;exact#[_,rfl]
noncomputable def isInt(k:Int):sn->Bool
 | .Constant v _ _=>match v with | .int i=>i==k | _=>false
 | _=>false
def wM{e:sn}{k:Int}(h:isInt k e=true):∃ j p,e=.Constant (.int k) j p:=by
 cases e<;>first | cases h;done | skip
 rename_i v j p;cases v<;>first | cases h;done | skip
 rename_i i;have:i=k:=by simpa[isInt] using h
 exact#[j,p,by rw[this]]
noncomputable def addE:sn->Option (sn×sn)
 | .BinOp a op b _=>match op with | .Add=>Y (a,b) | _=>J
 | _=>J
def a0E{e a b:sn}(h:addE e=Y (a,b)):∃ p,e=.BinOp a .Add b p:=by
 cases e<;>first | cases h;done | skip
 rename_i a op b p;cases op<;>cases h;exact#[p,rfl]
def RI(e:sn):Option (Str×Str×Str):=(A0x e).bind λa=>if isInt 2 a.2 then(A0x a.1).bind λb=>(Xj b.1).bind λf=>(A0x b.2).bind λd=>(Xj d.1).bind λg=>(Xj d.2).bind λo=>Y (f,g,o) else J
def xE{e:sn}{f g o:Str}(h:RI e=Y (f,g,o)):∃ pf pg po p1 p2 j p3 p4,e=.Subscript (.Subscript (.Name f pf) (.Subscript (.Name g pg) (.Name o po) p1) p2) (.Constant (.int 2) j p3) p4:=by
 obtain⟨a,b,h1,c1⟩:=M.dQ h;dsimp only at c1;split at c1
 ·rename_i hi;obtain⟨x,y,h2,c2⟩:=M.dQ c1;obtain⟨f',h3,c3⟩:=M.gA c2;obtain⟨z,w,h4,c4⟩:=M.dQ c3;obtain⟨g',h5,c5⟩:=M.gA c4;obtain⟨o',h6,c6⟩:=M.gA c5;cases c6;obtain⟨p4,rfl⟩:=vB h1;obtain⟨j,p3,rfl⟩:=wM hi;obtain⟨p2,rfl⟩:=vB h2;obtain⟨p1,rfl⟩:=vB h4;obtain⟨pf,rfl⟩:=dG h3;obtain⟨pg,rfl⟩:=dG h5;obtain⟨po,rfl⟩:=dG h6;exact#[_,_,_,_,_,_,_,_,rfl]
 ·cases c1
def Cv(c:CI)(tg it:sn):List Kw->Option (Nat×Nat×Nat)
 | s::r=>if r.isEmpty then(RQ s).bind λa=>(RI a.1).bind λt=>(addE a.2).bind λb=>(RI b.1).bind λu=>(Xj it).bind λg=>(Xj tg).bind λo=>
   if isInt 1 b.2&&(decide (u=t)&&decide (t.2=(g,o))) then(Nt c t.1).bind λi=>(Nt c g).bind λj=>(Nt c o).bind λk=>Y (i,j,k) else J else J
 | []=>J
def a0F(C:js k c X){f g o:Nat}(h:Cv c tg it body=Y (f,g,o)):DS X (.For tg it body [] pos) (iA f g o):=by
 cases body with
 | nil=>cases h
 | cons s r=>
  cases r with
  | cons _ _=>cases h
  | nil=>
   rw[Cv,List.isEmpty_nil,aam rfl] at h;obtain⟨t0,v0,h1,c1⟩:=M.dQ h;obtain⟨t,h2,c2⟩:=M.gA c1;obtain⟨b1,b2,h3,c3⟩:=M.dQ c2;obtain⟨u,h4,c4⟩:=M.gA c3;obtain⟨xg,h5,c5⟩:=M.gA c4;obtain⟨xo,h6,c6⟩:=M.gA c5;split at c6
   ·rename_i hc;rw[aag,aag] at hc;obtain⟨hc1,hc2,hc3⟩:=hc;have e1:=aaD hc2;have e2:=aaD hc3;obtain⟨xf,t2⟩:=t;subst e1;have e2:t2=(xg,xo):=e2;subst e2;obtain⟨i,h7,c7⟩:=M.gA c6;obtain⟨j,h8,c8⟩:=M.gA c7;obtain⟨k',h9,c9⟩:=M.gA c8;cases c9;obtain⟨p,rfl⟩:=xI h1;obtain⟨p2,rfl⟩:=a0E h3;obtain⟨z,z,z,z,z,z,z,z,rfl⟩:=xE h2;obtain⟨z,z,z,z,z,z,z,z,rfl⟩:=xE h4;obtain⟨z,z,rfl⟩:=wM hc1;obtain⟨z,rfl⟩:=dG h5;obtain⟨z,rfl⟩:=dG h6;exact iC nT <| M.UY (by have:=C.room.units;omega) C.xe C.calm (oG C h7).1 (oG C h8).1 (oG C h9).1 ((oG C h9).2 _)
   ·cases c6
def VO(E:CI->sn->ME)(T:CI->sn->MT)(F:CI->Kw->MS)(c:CI):Kw->MS
 | .Return o _=>match o with | some e=>bp (E c e) | none=>λz S=>Y (.rt .non S)
 | .Pass _=>ba
 | .Break _=>λenv S=>Y (.bk env S)
 | .Continue _=>λenv S=>Y (.ct env S)
 | .Expr e _=>if Hz e then ba else if Ct e then dg (E c e) else Iy
 | .If t a b _=>bU (T c t) (WY (a.map (F c))) (WY (b.map (F c)))
 | .Assign ts e _=>match ts with | [t]=>QI c E T t e | _=>Iy
 | .AugAssign t op e _=>QF c (E c) op e t
 | .While tst body els _=>match els with | []=>eh (T c tst) 1.13 | _=>Iy
 | .For tg it body els _=>match els with | []=>if SV it then(match Cv c tg it body with | some (f,g,o)=>iA f g o | none=>if Wl c it then hZ 2.53 2.28 1.13 else dU (E c it) 2.28 1.13) else Iy | _=>Iy
 | _=>Iy
def a0G{F:CI->Kw->MS}(hE:∀ c X,js k c X->∀ e,DE X e (E c e))(hT:∀ c X,js k c X->∀ e,DT X e (T c e))(hF:∀ c X,js k c X->∀ e,DS X e (F c e))(C:js k c X)(s:Kw):DS X s (VO E T F c s):=by
 have h1:=hE c X C;have h2:=hT c X C;have h3:=hF c X C;cases s with
 | Return o p=>cases o with | none=>exact mx | some e=>exact iC yo <| M.ZC (h1 e)
 | Pass p=>exact iC qU <| M.UU
 | Break p=>exact pk
 | Continue p=>exact vR
 | Expr e p=>
  show DS X _ (if Hz e then ba else if Ct e then dg (E c e) else Iy);split
  ·rename_i h;unfold Hz at h;split at h
   ·exact iC qU <| M.ZD
   ·cases h
  ·split
   ·rename_i h;exact iC nN <| M.UX (h1 e) (iT h)
   ·exact kq
 | If t a b p=>exact iC yn <| M.ds_if (h2 t) (mq h3 a) (mq h3 b)
 | Assign ts e p=>
  show DS X _ (match ts with | [t]=>QI c E T t e | _=>Iy);split
  ·exact a0C C hE hT
  ·exact kq
 | AugAssign t op e p=>exact a0D C h1 e t
 | While tst body els p=>
  cases els with
  | nil=>exact iC zc <| M.QR C.xe (h2 tst) (mq h3 body)
  | cons _ _=>exact kq
 | For tg it body els p=>
  cases els with
  | nil=>
   show DS X _ (if SV it then(match Cv c tg it body with | some (f,g,o)=>iA f g o | none=>if Wl c it then hZ 2.53 2.28 1.13 else dU (E c it) 2.28 1.13) else Iy);split
   ·rename_i h;split
    ·rename_i f g o hb;exact a0F C hb
    split
    ·exact iC lJ <| M.QS C.xe C.calm (HP C h1) (oq C h1 tg) (mq h3 body) (gW h)
    ·exact iC xL <| M.UW C.xe C.calm (h1 it) (oq C h1 tg) (mq h3 body) (gW h)
   ·exact kq
  | cons _ _=>exact kq
 | _=>exact kq
def A0y(n:Nat):Nat->CI->Kw->MS
 | 0=>λz z=>Iy
 | m+1=>VO (Sv n).1 (Sv n).2 (A0y n m)
def a0H(n:Nat):∀ m:Nat,∀ c X,js k c X->∀ s,DS X s (A0y n m c s)
 | 0=>λz z z z=>kq
 | m+1=>λz z C s=>a0G (uu n).1 (uu n).2 (a0H n m) C s
def NE:sn->Option (sn×sn)
 | .Subscript o q _=>Y (o,q)
 | _=>J
def vn{e o q:sn}(h:NE e=Y (o,q)):∃ p,e=.Subscript o q p:=by cases e<;>cases h;exact#[_,rfl]
def VQ:Kw->Option sn
 | .Return v _=>v
 | _=>J
def a0I{s:Kw}{e:sn}(h:VQ s=Y e):∃ p,s=.Return (Y e) p:=by cases s<;>cases h;exact#[_,rfl]
noncomputable def dAsg(s:Kw):Option (Str×Str×sn):=(RQ s).bind λa=>(Xj a.1).bind λb=>(NE a.2).bind λq=>(Xj q.1).bind λx=>(NE q.2).bind λz=>Y (b,x,q.2)
def a0J{s:Kw}{b x:Str}{ix:sn}(h:dAsg s=Y (b,x,ix)):XH ix/\∃ pb pt ps pa,s=.Assign [.Name b pb] (.Subscript (.Name x pt) ix ps) pa:=by
 obtain⟨t,v,h1,h⟩:=M.dQ h;obtain⟨b,h2,h⟩:=M.gA h;obtain⟨o,i,h3,h⟩:=M.dQ h;obtain⟨x,h4,h⟩:=M.gA h;obtain⟨o2,i2,h5,h⟩:=M.dQ h;cases h;obtain⟨pa,rfl⟩:=xI h1;obtain⟨pb,rfl⟩:=dG h2;obtain⟨ps,rfl⟩:=vn h3;obtain⟨pt,rfl⟩:=dG h4;obtain⟨p,rfl⟩:=vn h5;exact#[by intro z z;rfl,_,_,_,_,rfl]
noncomputable def dRet(s:Kw):Option (Str×sn×List sn):=(VQ s).bind λv=>(Tq v).bind λp=>p.2.head?.bind λe=>Y (p.1,e,p.2.tail)
def a0K{s:Kw}{b:Str}{e:sn}{es:List sn}(h:dRet s=Y (b,e,es)):∃ p pc pr,s=.Return (Y (.Call (.Name b p) (e::es) [] pc)) pr:=by
 obtain⟨v,h1,h⟩:=M.gA h;obtain⟨b,l,h2,h⟩:=M.dQ h;obtain⟨e,h3,h⟩:=M.gA h;cases h;obtain⟨pr,rfl⟩:=a0I h1;obtain⟨p,pc,rfl⟩:=kZ h2;cases l<;>cases h3;exact#[_,_,_,rfl]
def WD(c:CI)(b x:Str)(ix:sn)(e:sn)(es:List sn):Option MS:=match qi b c.N,Wt c x with
 | some i,Y (.ftab l)=>if Gy b&&c.sc.names.lookup b==Y .local&&(e::es).all Ow then Y (gY l i ((Sv 40).1 c ix) (CF ((Sv 40).1 c) (e::es))) else J
 | _,_=>J
def Cn(c:CI):List Kw->Option MS
 | [s,t]=>match dAsg s,dRet t with
  | some (b,x,ix),Y (b',e,es)=>if b'==b then WD c b x ix e es else J
  | _,_=>J
 | _=>J
def a0L(C:js k c X)(h:Cn c body=Y m):SM X body m:=by
 unfold Cn at h;split at h
 ·rename_i s t;split at h
  ·rename_i b x ix b' e es h1 h2;obtain⟨hs,pb,pt,ps,pa,rfl⟩:=a0J h1;obtain⟨p,pc,pr,rfl⟩:=a0K h2;split at h
   ·rename_i hb;rw[beq_iff_eq] at hb;subst hb;unfold WD at h;split at h
    ·rename_i i l hi hg;obtain⟨g,o,G⟩:=jV C hg;split at h
     ·rename_i hc;simp only[aag,beq_iff_eq] at hc;obtain⟨⟨o1,h3⟩,h4⟩:=hc;cases h;rw[abA,aag] at h4
      exact wF nW <| M.QP G g (dC o) ((uu 40).1 _ _ C ix) hs C.room (iw ((uu 40).1 _ _ C) _) (by rw[C.N];exact C.nd) (by rw[C.N];exact dr hi) (by rw[C.sc];exact .inl h3) (by rw[C.sc];exact .inl h3) (.inr (by rw[C.sc];exact h3)) (dC o1) (vP o1)
       (by rw[C.N];exact(aaa.mp (dr hi)).1) (cA h4.1) (iD h4.2)
     ·cases h
    ·cases h
   ·cases h
  ·cases h
 ·cases h
def Lg(c:CI)(body:List Kw):MS:=match Cn c body with
 | some m=>m
 | none=>WY (body.map (A0y 40 20 c))
def a0M(C:js k c X)(body:List Kw):SM X body (Lg c body):=by
 unfold Lg;cases h:Cn c body with
 | some m=>exact a0L C h
 | none=>exact mq (a0H 40 20 c X C) body
end
end
def OF(N:List Str)(st:Kw)(gs:List 1.4)(mt:List Nat):CI:=#[N,Xt st,true,gs,mt,true]
def GK(P:td)(w:tx)(K:Ym)(mg:Str->Option ab)(base:NY)(k:Nat)(p:Str×GI):Prop:=match p.2 with
 | .fn n f=>Fn P w K mg base k p.1 n f
 | .con d=>GC K mg p.1 d
 | .blt=>mg p.1=J
 | .tab l=>xJ w K mg p.1 l
 | .ftab l=>FTab P w K mg base k p.1 l
 | .fns l=>FnAts P w K mg base k l
def a0N{K:Ym}{k:Nat}{st:Kw}{gs:List 1.4}{mt:List Nat}
  (F:bW K mg x st) (Sc:aU N ps (Xt st)) (hb:VT x st ps) (hg:∀ p∈gs,GK P w K mg base k p) :
  Fn P w K mg base (k+1) x ps.length (Gw N 1.55 ps.length):=
 pZ F Sc hb λa cdv A outer s H E hr=>a0M (k:=k) ⟨rfl,Sc.nd,rfl,Sc.kind,λz z=>rfl,rfl,hr,adQ,λz=>#[rfl,rfl,rfl,rfl],λp hp=>by
  have:=hg p hp;obtain⟨x,g⟩:=p
  cases g<;>exact this⟩ _
def GKs(P:td)(w:tx)(K:Ym)(mg:Str->Option ab)(base:NY)(k:Nat):List 1.4->Prop
 | []=>True
 | p::r=>GK P w K mg base k p/\GKs P w K mg base k r
def GKs.mem{K:Ym}{k:Nat}:∀ {gs:List 1.4},GKs P w K mg base k gs->∀ p∈gs,GK P w K mg base k p
 | q::r,h,p,hp=>by
  rcases aav.mp hp with rfl | hp
  ·exact h.1
  ·exact GKs.mem h.2 p hp
def a0O{K:Ym}{k:Nat}{st:Kw}{mt:List Nat}(F:bW K mg "law" st)(hfa:mg "law" = Y (.ref fa))(Sc:aU N ["_law_script"] (Xt st))
  (hbt:∀ (Yx doc pm:ab) (an:Option gV) (cdv ct v:ab),bindArgs (W.fnOf "law" "law" (Tc st) (SH st) (Xt st) .none Yx doc pm an cdv ct) #[[v],[]]=pure [(("_law_script":Str),v)])
  (hg:∀ base,GKs P w K mg base k gs) :
  ∃ fd:FuncData,(∀ (s:ce) (v:ab),BindsTo s fd #[[v],[]] [("_law_script",v)])/\∀ base:NY,K.In base->base.Ns Tx mg->FnOk P w K mg base Ke (k+1) fa fd ["_law_script"] (NM K 1 (Gw N 1.55 1)):=
 oN F hfa Sc hbt λbase a cdv A outer s H E hr=>a0M (k:=k) ⟨rfl,Sc.nd,rfl,Sc.kind,λz z=>rfl,rfl,hr,adQ,λz=>#[rfl,rfl,rfl,rfl],λp hp=>by
  have:=GKs.mem (hg base) p hp;obtain⟨x,g⟩:=p
  cases g<;>exact this⟩ _
section
variable{P:List ab->Prop}
def jt(h:P []):∀ us:List ab,us.length=0->P us:=λus e=>by rw[abi e];exact h
def cO{n:Nat}(h:∀ a,∀ us:List ab,us.length=n->P (a::us)):∀ us:List ab,us.length=n+1->P us:=λus e=>by
 cases us with
 | nil=>cases e
 | cons a us=>exact h a us (Nat.succ.inj e)
end
section
variable{P:td}{w:tx}{K:Ym}{mg:Str->Option ab}{base:NY}{k:Nat}{x:Str}{st:Kw}{N ps:List Str}{gs:List (Str×GI)}{mt:List Nat}
def GK.up{k':Nat}(h:k<=k'):∀ {p:Str×GI},GK P w K mg base k p->GK P w K mg base k' p
 | (_,.fn _ _),g=>Fn.up g h
 | (_,.con _),g=>g
 | (_,.blt),g=>g
 | (_,.tab _),g=>g
 | (_,.ftab _),g=>FTab.up g h
 | (_,.fns _),g=>FnAts.up h g
end
def Bz(P:Params)(x:Str)(t:Nat)(v:ab):DictEntry:=#[PyData.keyHash P x,.str x t,v]
def XQ(x:Str)(t l n a b:Nat)(u v:ab)(c d:Nat):Obj:=#[.type "code",J,.fields (List.toArray [.str x t,.str x (t+1),.str "/claim/cut.py" (t+2),.int l 0,.int n 0,.int 0 0,.int 0 0,.int 3 0,.ref a,.bool true,.int 181 0,.ref b,.none,u,v,.ref c,.int d 0,.int l 0,.str "/claim/cut.py" (d+1)]),(List.toArray [])]
def CJ(x:Str)(st:Kw)(m:Str)(t c:Nat):Obj:=#[.type "function",J,.func (W.fnOf x x (Tc st) (SH st) (Xt st) .none .none .none (.str m t) J (.ref c) .none),(List.toArray [])]
def dB{K:Ym}(X:K.In h)(G:h.Ns Tx mg){st:Kw}(m:Str)(f t c:Nat)(e:(W.nsIn K Tx x,K.lookup f,W.codeIn K (.ref c) x,W.keepIn K (.ref f))=(Y (Y (.ref f)),Y (CJ x st m t c),true,true)):bW K mg x st:=by
 have e1:=congrArg (·.1) e;have e2:=congrArg (·.2.1) e;have e3:=congrArg (·.2.2.1) e;have e4:=congrArg (·.2.2.2) e;exact#[_,_,pE (st:=st) (show K.lookup f=Y #[.type "function",J,.func (W.fnOf x x (Tc st) (SH st) (Xt st) .none .none .none (.str m t) J (.ref c) .none),(List.toArray [])] from e2) e3 e4,acw X G e1]
def bv{K:Ym}{k:Nat}{st:Kw}{mt:List Nat}
  (F:bW K mg x st) (Sc:aU N ps (Xt st)) (hb:VT x st ps) (hg:GKs P w K mg base k gs):Fn P w K mg base (k+1) x ps.length (Gw N 1.55 ps.length):=a0N F Sc hb (GKs.mem hg)
def jk{m:MS}(h:Lg c b=m):Gw N (Lg c b) n=Gw N m n:=by rw[h]
section
variable{env e:bn}{S S':aa}{x y d:D}{f g:aa->D->D->Option D}{a b c:ME}{ms:MA}{t u:MT}{k l:Bool}{p q:MS}{tg:MG}
@[simp high] theorem ob{α β:Type}{a:α}{f:α->Option β}:(Y a).bind f=f a:=id rfl
@[simp high] theorem obn{α β:Type}{f:α->Option β}:(J:Option α).bind f=J:=id rfl
@[simp high] theorem oj{α:Type}{a:Option α}:(Y a).join=a:=rfl
@[simp high] theorem bJ{α:Type}{a:α}{l:List α}:(a::l)[0]?=Y a:=rfl
@[simp high] theorem bN{α:Type}{a b:α}{l:List α}:(a::b::l)[1]?=Y b:=rfl
@[simp high] theorem bM{α:Type}{a:α}{l:List α}{i:Nat}:(a::l)[i+1]?=l[i]?:=rfl
@[simp high] theorem eR{α:Type}{a b:α}{l:List α}:(a::l).set 0 b=b::l:=rfl
@[simp high] theorem eU{α:Type}{a b:α}{l:List α}{i:Nat}:(a::l).set (i+1) b=a::l.set i b:=rfl
def Fv(S:aa)(z:D):Option (D×aa):=Y (z,S)
@[simp] theorem aj:Fv S d=Y (d,S):=rfl
@[simp] theorem bd:mC d env S=Y (d,S):=by rw[wB];rfl
@[simp] theorem ak:af i env S=(env[i]?).join.bind (Fv S):=by rw[uU];rfl
def YJ(f:aa->D->D->Option D)(x:D)(q:D×aa):Option (D×aa):=(f q.2 x q.1).bind (Fv q.2)
noncomputable def kOp1(f:aa->D->D->Option D)(b:ME)(env:bn)(q:D×aa):Option (D×aa):=(b env q.2).bind (YJ f q.1)
@[simp] theorem av:kOp1 f b env (x,S)=(b env S).bind (YJ f x):=id rfl
@[simp] theorem au:YJ f x (y,S)=(f S x y).bind (Fv S):=id rfl
@[simp] theorem aG:az f a b env S=(a env S).bind (kOp1 f b env):=by rw[jl];rfl
def Wb(q:D×aa):Option (Bool×aa):=match q.1 with | .bl k=>Y (k,q.2) | _=>J
@[simp] theorem aD:Wb (.bl k,S)=Y (k,S):=id rfl
@[simp] theorem aE:aC a env S=(a env S).bind Wb:=by rw[wp];rfl
def YO(g:aa->D->D->Option D)(y:D)(q:D×aa):Option (D×aa):=(g q.2 y q.1).bind (Fv q.2)
def PJ(g:aa->D->D->Option D)(c:ME)(env:bn)(y:D)(S:aa)(z:D):Option (D×aa):=match z with
 | .bl true=>(c env S).bind (YO g y)
 | .bl false=>Y 9.1
 | _=>J
def Uj(f g:aa->D->D->Option D)(c:ME)(env:bn)(x:D)(q:D×aa):Option (D×aa):=(f q.2 x q.1).bind (PJ g c env q.1 q.2)
def YQ(f g:aa->D->D->Option D)(b c:ME)(env:bn)(q:D×aa):Option (D×aa):=(b env q.2).bind (Uj f g c env q.1)
@[simp] theorem kCh1_s:YQ f g b c env (x,S)=(b env S).bind (Uj f g c env x):=id rfl
@[simp] theorem kCh2_s:Uj f g c env x (y,S)=(f S x y).bind (PJ g c env y S):=id rfl
@[simp] theorem kChz_t:PJ g c env y S 8.3=(c env S).bind (YO g y):=id rfl
@[simp] theorem kChz_f:PJ g c env y S 3.9=Y 9.1:=id rfl
@[simp] theorem kCh3_s:YO g y (x,S)=(g S y x).bind (Fv S):=id rfl
@[simp] theorem mChain_s:cU f g a b c env S=(a env S).bind (YQ f g b c env):=by
 rw[sN];unfold M.cU YQ Uj PJ
 congr 1
def BG(q:D×aa):Option (Bool×aa):=(qB q.2 q.1).bind λk=>Y (k,q.2)
@[simp] theorem gF:BG (.bl k,S)=Y (k,S):=id rfl
@[simp] theorem kTru_n:BG (.non,S)=Y 1.91:=id rfl
@[simp] theorem kTru_i:BG 3.21=Y (i != 0,S):=id rfl
@[simp] theorem kTru_t:BG 2.07=Y (!xs.isEmpty,S):=id rfl
@[simp] theorem kTru_l:BG 1.40=Y (!xs.isEmpty,S):=id rfl
@[simp] theorem fv:eD a env S=(a env S).bind BG:=by rw[wT];rfl
def PL(u:MT)(env:bn)(q:Bool×aa):Option (Bool×aa):=if q.1=true then u env q.2 else Y (false,q.2)
def YI(u:MT)(env:bn)(q:Bool×aa):Option (Bool×aa):=if q.1=true then Y (true,q.2) else u env q.2
def Wg(q:Bool×aa):Option (Bool×aa):=Y (!q.1,q.2)
@[simp] theorem gi:PL u env (true,S)=u env S:=id rfl
@[simp] theorem ig:PL u env 1.91=Y 1.91:=id rfl
@[simp] theorem BI:YI u env (true,S)=Y (true,S):=id rfl
@[simp] theorem nQ:YI u env 1.91=u env S:=id rfl
@[simp] theorem kQ:Wg (k,S)=Y (!k,S):=id rfl
@[simp] theorem dm:cM t u env S=(t env S).bind (PL u env):=by rw[wC];rfl
@[simp] theorem jQ:gE t u env S=(t env S).bind (YI u env):=by rw[lM];rfl
@[simp] theorem kM:eL t env S=(t env S).bind Wg:=by rw[rC];rfl
@[simp] theorem iU:cf env S=Y (true,S):=by rw[we];rfl
def Uk(b:ME)(env:bn)(q:D×aa):Option (D×aa):=(qB q.2 q.1).bind λk=>if k=true then b env q.2 else Y (q.1,q.2)
def Wf(b:ME)(env:bn)(q:D×aa):Option (D×aa):=(qB q.2 q.1).bind λk=>if k=true then Y (q.1,q.2) else b env q.2
@[simp] theorem wL:Uk b env 3.7=b env S:=id rfl
@[simp] theorem YR:Uk b env 9.1=Y 9.1:=id rfl
@[simp] theorem kOr_t:Wf b env 3.7=Y 3.7:=id rfl
@[simp] theorem kOr_f:Wf b env 9.1=b env S:=id rfl
@[simp] theorem qg:Dj a b env S=(a env S).bind (Uk b env):=by rw[pI];rfl
@[simp] theorem Wa:AA a b env S=(a env S).bind (Wf b env):=by rw[rB];rfl
def EB(q:D×aa):Option (D×aa):=(qB q.2 q.1).bind λk=>Y (.bl (!k),q.2)
@[simp] theorem Ub:EB 1.40=Y (.bl (!!xs.isEmpty),S):=id rfl
@[simp] theorem kNotV_t:EB 2.07=Y (.bl (!!xs.isEmpty),S):=id rfl
@[simp] theorem kOr_c{d:D}{ds:List D}:Wf b env (.lst (d::ds),S)=Y (.lst (d::ds),S):=id rfl
@[simp] theorem kOr_e:Wf b env (.lst [],S)=b env S:=id rfl
@[simp] theorem kNotV_s:EB (.bl k,S)=Y (.bl (!k),S):=id rfl
@[simp] theorem Jm:SQ a env S=(a env S).bind EB:=by rw[wQ];rfl
def A0z(a b:ME)(env:bn)(q:Bool×aa):Option (D×aa):=if q.1=true then a env q.2 else b env q.2
@[simp] theorem zl:A0z a b env (true,S)=a env S:=id rfl
@[simp] theorem ED:A0z a b env 1.91=b env S:=id rfl
@[simp] theorem mX:lZ t a b env S=(t env S).bind (A0z a b env):=by rw[rq];rfl
@[simp] theorem ay:am env S=Y ([],S):=by rw[pG];rfl
def Hu(x:D)(q:List D×aa):Option (List D×aa):=Y (x::q.1,q.2)
def PH(ms:MA)(env:bn)(q:D×aa):Option (List D×aa):=(ms env q.2).bind (Hu q.1)
@[simp] theorem ao{xs:List D}:Hu x (xs,S)=Y (x::xs,S):=id rfl
@[simp] theorem aq:PH ms env (x,S)=(ms env S).bind (Hu x):=id rfl
@[simp] theorem ar:ac a ms env S=(a env S).bind (PH ms env):=by rw[zy];rfl
def JO(q:List D×aa):Option (D×aa):=if q.1.length<=Ph then Y (.tup q.1,q.2) else J
def Mt(q:List D×aa):Option (D×aa):=if q.1.length<=Ph then Y (.lst q.1,q.2) else J
def Ms(q:List D×aa):Option (D×aa):=if q.1.length<=Ph then Y (.ref q.2.length,q.2++[.lst q.1]) else J
def sz{n:Nat}(h:n<=1000):n<=Ph:=aaJ h 0.1
def dW{xs:List D}(h:xs.length<=1000):JO (xs,S)=Y 2.07:=aam (sz h)
def kR{xs:List D}(h:xs.length<=1000):Mt (xs,S)=Y 1.40:=aam (sz h)
def nU{xs:List D}(h:xs.length<=1000):Ms (xs,S)=Y (.ref S.length,S++[.lst xs]):=aam (sz h)
def ZT:∀ S (u v w:D),JO ([u,v,w],S)=Y (.tup [u,v,w],S):=λS u v w=>dW 0.3
def Fy:∀ S (x y:D),JO ([x,y],S)=Y (.tup [x,y],S):=λS x y=>dW 0.3
def Hh:∀ S (u v:D),JO ([u,v],S)=Y (.tup [u,v],S):=λS u v=>dW 0.3
def IL:∀ S (u v x y:D),JO ([u,v,x,y],S)=Y (.tup [u,v,x,y],S):=λS u v x y=>dW 0.3
def uG(S:aa)(x:D):JO ([x],S)=Y (.tup [x],S):=dW 0.3
def ju(S:aa)(x y:D):JO ([x,y],S)=Y (.tup [x,y],S):=dW 0.3
def kT3(S:aa)(x y z:D):JO 2.51=Y (.tup [x,y,z],S):=dW 0.3
theorem YA(S:aa)(x y z u:D):JO ([x,y,z,u],S)=Y (.tup [x,y,z,u],S):=dW 0.3
def kL0(S:aa):Mt ([],S)=Y (.lst [],S):=kR 0.3
def kL1(S:aa)(x:D):Mt ([x],S)=Y (.lst [x],S):=kR 0.3
def kL2(S:aa)(x y:D):Mt ([x,y],S)=Y (.lst [x,y],S):=kR 0.3
def kL3(S:aa)(x y z:D):Mt 2.51=Y (.lst [x,y,z],S):=kR 0.3
def kL4(S:aa)(x y z u:D):Mt ([x,y,z,u],S)=Y (.lst [x,y,z,u],S):=kR 0.3
def kL5(S:aa)(x y z u v:D):Mt ([x,y,z,u,v],S)=Y (.lst [x,y,z,u,v],S):=kR 0.3
def kL6(S:aa)(x y z u v w:D):Mt ([x,y,z,u,v,w],S)=Y (.lst [x,y,z,u,v,w],S):=kR 0.3
theorem Uc(S:aa):Ms ([],S)=Y (.ref S.length,S++[.lst []]):=nU 0.3
def kLR3(S:aa)(x y z:D):Ms 2.51=Y (.ref S.length,S++[.lst [x,y,z]]):=nU 0.3
@[simp] theorem bb:aW ms env S=(ms env S).bind JO:=by rw[wR];rfl
@[simp] theorem jo:eV ms env S=(ms env S).bind Mt:=by rw[rn];rfl
@[simp] theorem mD:dD ms env S=(ms env S).bind Ms:=by rw[zA];rfl
def Wj(f:List D->aa->Option (D×aa))(q:List D×aa):Option (D×aa):=f q.1 q.2
@[simp] theorem bY{f:List D->aa->Option (D×aa)}{xs:List D}:Wj f (xs,S)=f xs S:=id rfl
@[simp] theorem bX{f:List D->aa->Option (D×aa)}:bB f ms env S=(ms env S).bind (Wj f):=by rw[jc];rfl
def Fx(n:Nat)(f:List D->aa->Option (D×aa))(q:List D×aa):Option (D×aa):=if q.1.length=n then f q.1 q.2 else J
@[simp] theorem kCallN_0{f:List D->aa->Option (D×aa)}:Fx 0 f ([],S)=f [] S:=id rfl
@[simp] theorem rj{f:List D->aa->Option (D×aa)}:Fx 1 f ([x],S)=f [x] S:=id rfl
@[simp] theorem bj{f:List D->aa->Option (D×aa)}:Fx 2 f ([x,y],S)=f [x,y] S:=id rfl
@[simp] theorem bO{f:List D->aa->Option (D×aa)}{z:D}:Fx 3 f 2.51=f [x,y,z] S:=id rfl
@[simp] theorem PK{f:List D->aa->Option (D×aa)}{z w:D}:Fx 4 f ([x,y,z,w],S)=f [x,y,z,w] S:=id rfl
@[simp] theorem aJ{n:Nat}{f:List D->aa->Option (D×aa)}:ax n f ms env S=(ms env S).bind (Fx n f):=by rw[sO];rfl
noncomputable def kIsI(T:String)(q:D×aa):Option (D×aa):=(HG T q.2 q.1).bind (Fv q.2)
@[simp] theorem PC:kIsI T (x,S)=(HG T S x).bind (Fv S):=id rfl
@[simp] theorem Pf:iz T a env S=(a env S).bind (kIsI T):=by rw[yp];rfl
def A00(f:aa->D->Option D)(q:D×aa):Option (D×aa):=(f q.2 q.1).bind (Fv q.2)
@[simp] theorem kUn_s{f:aa->D->Option D}:A00 f (x,S)=(f S x).bind (Fv S):=id rfl
@[simp] theorem mUn_s{f:aa->D->Option D}:xN f a env S=(a env S).bind (A00 f):=by rw[ug];rfl
@[simp] theorem cL:bA env S=Y (J,S):=by rw[zf];rfl
def We(q:D×aa):Option (Option Int×aa):=match q.1 with | .int i=>Y (Y i,q.2) | _=>J
@[simp] theorem dq:We 3.21=Y (Y i,S):=id rfl
@[simp] theorem dj:bV a env S=(a env S).bind We:=by rw[wm];rfl
def Dn(x:D)(l:Option Int)(q:Option Int×aa):Option (D×aa):=match x with
 | .tup xs=>Y (.tup (XB xs l q.1),q.2)
 | .lst xs=>Y 1.99
 | .rol xs=>Y 1.99
 | .ref r=>match q.2[r]? with | some 1.5=>Y 1.99 | _=>J
 | _=>J
def a0P{r:Nat}{l h:Option Int}(hr:S[r]?=Y 1.5):Dn (.ref r) l (h,S)=Y 2.43:=by
 show(match S[r]? with | some 1.5=>Y (D.lst (XB xs l h),S) | _=>J)=_;rw[hr]
def YD(hi:MO)(env:bn)(x:D)(q:Option Int×aa):Option (D×aa):=(hi env q.2).bind (Dn x q.1)
noncomputable def kSl1(lo hi:MO)(env:bn)(q:D×aa):Option (D×aa):=(lo env q.2).bind (YD hi env q.1)
@[simp] theorem eQ{lo:MO}:kSl1 lo hi env (x,S)=(lo env S).bind (YD hi env x):=id rfl
@[simp] theorem eO{l:Option Int}:YD hi env x (l,S)=(hi env S).bind (Dn x l):=id rfl
@[simp] theorem ls{l h:Option Int}:Dn 5.2 l (h,S)=Y (.tup (XB xs l h),S):=id rfl
@[simp] theorem YC{l h:Option Int}:Dn 1.5 l (h,S)=Y 2.43:=id rfl
@[simp] theorem kSl3_r{l h:Option Int}:Dn (.rol xs) l (h,S)=Y 2.43:=id rfl
@[simp] theorem cE{lo:MO}:bz a lo hi env S=(a env S).bind (kSl1 lo hi env):=by rw[ze];rfl
@[simp] theorem bi:ba env S=Y 1.16:=by rw[qU];rfl
def Pz(q:MS):qz->Option qz
 | .nx e S=>q e S
 | .rt d S=>Y 1.78
 | .bk e S=>Y (.bk e S)
 | .ct e S=>Y (.ct e S)
@[simp] theorem aH:Pz q 1.97=q e S:=id rfl
@[simp] theorem cj:Pz q 1.78=Y 1.78:=id rfl
@[simp] theorem kSeq_bk:Pz q (.bk e S)=Y (.bk e S):=id rfl
@[simp] theorem kSeq_ct:Pz q (.ct e S)=Y (.ct e S):=id rfl
@[simp] theorem aR:aF p q env S=(p env S).bind (Pz q):=by rw[wl];unfold M.aF;congr 1;funext o;cases o<;>rfl
def A01(q:D×aa):Option qz:=Y (.rt q.1 q.2)
@[simp] theorem bH:A01 (d,S)=Y 1.78:=id rfl
@[simp] theorem aX:bp a env S=(a env S).bind A01:=by rw[yo];rfl
def Wh(env:bn)(q:D×aa):Option qz:=Y (.nx env q.2)
@[simp] theorem ie:Wh env (d,S)=Y 1.16:=id rfl
@[simp] theorem ia:dg a env S=(a env S).bind (Wh env):=by rw[nN];rfl
def YL(p q:MS)(env:bn)(r:Bool×aa):Option qz:=if r.1=true then p env r.2 else q env r.2
@[simp] theorem bR:YL p q env (true,S)=p env S:=id rfl
@[simp] theorem bE:YL p q env 1.91=q env S:=id rfl
@[simp] theorem aZ:bU t p q env S=(t env S).bind (YL p q env):=by rw[yn];rfl
def A02(q:bn×aa):Option qz:=Y (.nx q.1 q.2)
@[simp] theorem bL:A02 (e,S)=Y 1.97:=id rfl
noncomputable def kAsg(tg:MG)(env:bn)(q:D×aa):Option qz:=(tg q.1 env q.2).bind A02
@[simp] theorem bu:kAsg tg env (d,S)=(tg d env S).bind A02:=id rfl
@[simp] theorem bq:aN a tg env S=(a env S).bind (kAsg tg env):=by rw[jA];rfl
@[simp] theorem aP:ai i d env S=Y (env.set i (Y d),S):=by rw[oT];rfl
@[simp] theorem bP:aK [] env S=Y (env,S):=by rw[nM];rfl
def A03(gs:tL)(r:List D)(q:bn×aa):Option (bn×aa):=gs r q.1 q.2
@[simp] theorem cQ:A03 gs r (e,S)=gs r e S:=id rfl
@[simp] theorem bC{r:List D}:ah tg gs (d::r) env S=(tg d env S).bind (A03 gs r):=by rw[zC];rfl
@[simp] theorem cn:aQ 2 gs 1.29 env S=gs [x,y] env S:=by rw[lN];rfl
@[simp] theorem rH{z:D}:aQ 3 gs 1.41 env S=gs [x,y,z] env S:=by rw[lN];rfl
@[simp] theorem uY{z w:D}:aQ 4 gs 2.12 env S=gs [x,y,z,w] env S:=by rw[lN];rfl
def EA(env:bn)(d:D)(r:Nat)(k:Int)(S:aa):Option (bn×aa):=match S[r]? with
 | some 1.5=>(FQ xs.length k).bind λj=>Y (env,S.set r 2.54)
 | _=>J
def Jv(env:bn)(d o:D)(q:D×aa):Option (bn×aa):=match o,q.1 with
 | .ref r,.int k=>EA env d r k q.2
 | _,_=>J
def Px(i:ME)(env:bn)(d:D)(q:D×aa):Option (bn×aa):=(i env q.2).bind (Jv env d q.1)
@[simp] theorem kSub1_s:Px a env d (x,S)=(a env S).bind (Jv env d x):=id rfl
@[simp] theorem kSub2_s:Jv env d (.ref r) 3.21=EA env d r i S:=id rfl
def wH{r:Nat}(h:S[r]?=Y 1.5)(hj:FQ xs.length i=Y j):EA env d r i S=Y (env,S.set r 2.54):=by
 unfold EA;rw[h];show(FQ xs.length i).bind _=_;rw[hj];rfl
@[simp] theorem gSubD_s:eX a b d env S=(a env S).bind (Px b env d):=by
 rw[tW];unfold M.eX Px Jv EA;congr 1
noncomputable def kFor(tg:MG)(p:MS)(env:bn)(q:List D×aa):Option qz:=AI tg p q.1 env q.2
@[simp] theorem sU{xs:List D}:kFor tg p env (xs,S)=AI tg p xs env S:=id rfl
@[simp] theorem sK:hZ ms tg p env S=(ms env S).bind (kFor tg p env):=by rw[lJ];rfl
def Hq(tg:MG)(p:MS)(xs:List D):qz->Option qz
 | .nx e s=>AI tg p xs e s
 | .ct e s=>AI tg p xs e s
 | .bk e s=>Y 3.00
 | .rt d s=>Y 2.98
noncomputable def kLp1(tg:MG)(p:MS)(xs:List D)(q:bn×aa):Option qz:=(p q.1 q.2).bind (Hq tg p xs)
@[simp] theorem jS:kLp1 tg p xs (e,S)=(p e S).bind (Hq tg p xs):=id rfl
@[simp] theorem iV:Hq tg p xs 1.97=AI tg p xs e S:=id rfl
@[simp] theorem kLp2_ct:Hq tg p xs (.ct e S)=AI tg p xs e S:=id rfl
@[simp] theorem kLp2_bk:Hq tg p xs (.bk e S)=Y 1.97:=id rfl
@[simp] theorem BJ:Hq tg p xs 1.78=Y 1.78:=id rfl
@[simp] theorem lK:AI tg p [] env S=Y 1.16:=id rfl
def dN{xs:List D}:AI tg p (d::xs) env S=(tg d env S).bind (kLp1 tg p xs):=by
 show(tg d env S).bind _=_
 first | rfl | (congr 1;funext q;show(p q.1 q.2).bind _=(p q.1 q.2).bind _;congr 1;funext o;cases o<;>rfl)
def Ht(q:D×aa):Option (List D×aa):=match q.1 with | .lst xs=>Y (xs,q.2) | .rol xs=>Y (xs,q.2) | .tup xs=>Y (xs,q.2) | _=>J
@[simp] theorem BK:Ht 1.40=Y (xs,S):=id rfl
@[simp] theorem kItS_r:Ht (.rol xs,S)=Y (xs,S):=id rfl
@[simp] theorem Hs:Ht 2.07=Y (xs,S):=id rfl
@[simp] theorem er:dT a env S=(a env S).bind Ht:=by rw[pD];rfl
def Wc(q:List D×aa):Option (List D×aa):=match q.1 with | [.int j]=>if -(2^62)<=j/\j<2^62 then Y (FW 0 j.toNat,q.2) else J | _=>J
def sS{j:Int}(h:-1000000<=j)(h':j<=1000000):Wc ([.int j],S)=Y (FW 0 j.toNat,S):=aam #[by omega,by omega]
@[simp] theorem jI:cC ms env S=(ms env S).bind Wc:=by rw[wu];rfl
def SS(q:List D×aa):Option (D×aa):=Y (.lst q.1,q.2)
def Oq(g:MG)(t:MT)(e:ME)(cap:List 0.9)(env:bn)(q:List D×aa):Option (D×aa):=if q.1.length<=Ph then(KQ g t e q.1 1.82 q.2).bind SS else J
def nV{cap:List 0.9}{xs:List D}(h:xs.length<=1000):Oq tg t a cap env (xs,S)=(KQ tg t a xs 1.82 S).bind SS:=aam (sz h)
@[simp] theorem jT{xs:List D}:SS (xs,S)=Y 1.40:=id rfl
@[simp] theorem cw{cap:List 0.9}:ci ms tg t a cap env S=(ms env S).bind (Oq tg t a cap env):=by rw[wz];rfl
def YM(x:D)(q:List D×aa):Option (List D×aa):=Y (x::q.1,q.2)
def YN(g:MG)(t:MT)(e:ME)(xs:List D)(env:bn)(q:D×aa):Option (List D×aa):=(KQ g t e xs env q.2).bind (YM q.1)
def Ui(g:MG)(t:MT)(e:ME)(xs:List D)(env:bn)(q:Bool×aa):Option (List D×aa):=if q.1=true then(e env q.2).bind (YN g t e xs env) else KQ g t e xs env q.2
noncomputable def kCl1(g:MG)(t:MT)(e:ME)(xs:List D)(q:bn×aa):Option (List D×aa):=(t q.1 q.2).bind (Ui g t e xs q.1)
@[simp] theorem BQ:kCl1 tg t a xs (e,S)=(t e S).bind (Ui tg t a xs e):=id rfl
@[simp] theorem BP:Ui tg t a xs e (true,S)=(a e S).bind (YN tg t a xs e):=id rfl
@[simp] theorem Hv:Ui tg t a xs e 1.91=KQ tg t a xs e S:=id rfl
@[simp] theorem BO:YN tg t a xs e (d,S)=(KQ tg t a xs e S).bind (YM d):=id rfl
@[simp] theorem BN{xs:List D}:YM d (xs,S)=Y (d::xs,S):=id rfl
@[simp] theorem Yn:KQ tg t a [] env S=Y ([],S):=id rfl
def kO{xs:List D}:KQ tg t a (d::xs) env S=(tg d env S).bind (kCl1 tg t a xs):=id rfl
def BL(n:Nat)(f:List D->aa->Option (D×aa))(q:List D×aa):Option qz:=if q.1.length=n then(f q.1 q.2).bind A01 else J
def Wi(l:List (bK×Nat×(List D->aa->Option (D×aa))))(i:Nat)(ms:MA)(env:bn)(q:D×aa):Option qz:=(OA q.1).bind λk=>(CK l k).bind λp=>(ms 2.03 q.2).bind (BL p.1 p.2)
def a0Q{l:List (bK×Nat×(List D->aa->Option (D×aa)))}{i n:Nat}{f:List D->aa->Option (D×aa)}{k:bK}(h:OA d=Y k)(h':CK l k=Y (n,f)):Wi l i ms env (d,S)=(ms 2.03 S).bind (BL n f):=by
 show(OA d).bind _=_;rw[h];show(CK l k).bind _=_;rw[h'];rfl
def a0R{n:Nat}{f:List D->aa->Option (D×aa)}{xs:List D}(h:xs.length=n):BL n f (xs,S)=(f xs S).bind A01:=aam h
def a0S{l:List (bK×Nat×(List D->aa->Option (D×aa)))}{i:Nat}:gY l i a ms env S=(a env S).bind (Wi l i ms env):=by rw[nW];rfl
@[simp] theorem mJ:OE S (.int i) (.int j)=Y (.int (i+j)):=id rfl
def fQ{xs ys:List D}(h:xs.length+ys.length<=1000):OE S 5.2 (.tup ys)=Y (.tup (xs++ys)):=aam (sz h)
theorem HK{xs ys:List D}(h:xs.length+ys.length<=1000):OE S 1.5 1.98=Y (.lst (xs++ys)):=aam (sz h)
@[simp] theorem BZ:pB S (.int i) (.int j)=Y (.int (i - j)):=id rfl
@[simp] theorem fLt_i:RX S (.int i) (.int j)=Y (.bl (decide (i<j))):=id rfl
@[simp] theorem fLe_i:UF S (.int i) (.int j)=Y (.bl (decide (i<=j))):=id rfl
@[simp] theorem Fl:Zq S (.int i) (.int j)=Y (.bl (decide (j<i))):=id rfl
@[simp] theorem fGe_i:fGe S (.int i) (.int j)=Y (.bl (decide (j<=i))):=id rfl
@[simp] theorem fNeg_i:LP S (.int i)=Y (.int (-i)):=id rfl
def kg{j:Int}(h:0<j):mG S (.int i) (.int j)=Y (.int (i%j)):=aam (aaj h)
theorem HJ{j:Int}(h:0<j)(h':j<1073741824):Fo S (.int i) (.int j)=Y (.int (i / j)):=aam (by show(decide (0<j)&&decide (j<1073741824))=true;rw[aaj h,aaj h'];rfl)
def a0T{i j:Int}(h:(decide (0<=j)&&decide (j<=1000000)&&decide (i.natAbs<2^64))=true):yu S (.int i) (.int j)=Y (.int (i^j.toNat)):=aam h
def iP(h:qN i j=true):Tt S (.int i) (.int j)=Y (.int (i*j)):=aam h
def nL{i:Int}(h:-18446744073709551616<i)(h':i<18446744073709551616):qN i j=true:=by
 unfold qN;rw[aaj (p:=i.natAbs<18446744073709551616) 0.0];rfl
theorem Bb{j:Int}(h:-18446744073709551616<j)(h':j<18446744073709551616):qN i j=true:=by
 unfold qN;rw[aaj (p:=j.natAbs<18446744073709551616) 0.0];simp
@[simp] theorem fIx_t:GD S 5.2 (.int i)=AK xs i:=id rfl
@[simp] theorem Wx:GD S 1.5 (.int i)=AK xs i:=id rfl
@[simp] theorem fIx_r:GD S (.rol xs) (.int i)=AK xs i:=id rfl
def oU{r:Nat}(h:S[r]?=Y 1.5):GD S (.ref r) (.int i)=AK xs i:=by
 have:Xw S (.ref r)=Y xs:=by simp only[Xw,h]
 have t:CO S (.ref r)=J:=by simp only[CO,h]
 unfold GD;rw[t];show(Xw S (.ref r)).bind _=_;rw[this];rfl
theorem Iw{α:Type}{xs:List α}{i:Int}(h0:0<=i)(h:i<xs.length):AK xs i=Y (xs[i.toNat]'(by omega)):=by
 unfold AK FQ;rw[aam h0,aam h];show xs[i.toNat]?=_;rw[aae]
@[simp] theorem HF:Gz Op [.tup xs] S=Y 1.84:=id rfl
@[simp] theorem Zj:Gz Op [.lst xs] S=Y 1.84:=id rfl
@[simp] theorem Zi:Gz Op [.rol xs] S=Y 1.84:=id rfl
@[simp] theorem fInt1_i:Gz Om [.int i] S=Y 3.21:=id rfl
@[simp] theorem mH:Gz Om [.bl k] S=Y (.int (if k then 1 else 0),S):=id rfl
@[simp] theorem UE:Gz XD [.int i,.int j] S=Y (.int (if j>i then j else i),S):=id rfl
@[simp] theorem UC:Gz JE [.int i,.int j] S=Y (.int (if j<i then j else i),S):=id rfl
@[simp] theorem UA{g:List D->D}{xs:List D}:Gz (Xx g) [.tup xs] S=Y (g xs,S):=id rfl
@[simp] theorem fD{g:List D->D}{xs:List D}:Gz (Xx g) [.lst xs] S=Y (g xs,S):=id rfl
def a0U{bs:List Bool}(h:YV xs=Y bs):Gz LW [.lst xs] S=Y (.bl (bs.all id),S):=by
 show((YV xs).bind _).bind _=_;rw[h];rfl
@[simp] theorem mZ:HH S x .non=Y (.bl (qk x .non)):=id rfl
@[simp] theorem fIs_b:HH S x (.bl k)=Y (.bl (qk x (.bl k))):=id rfl
@[simp] theorem rK:qr S x .non=Y (.bl (!qk x .non)):=id rfl
@[simp] theorem fIsNot_b:qr S x (.bl k)=Y (.bl (!qk x (.bl k))):=id rfl
def mI(h:Dl 40 x=true)(h':Dl 40 y=true):On S x y=Y (.bl (Oo x y)):=by
 unfold On;rw[vc h,vc h'];exact aam #[h,h']
theorem Ca(h:Dl 40 x=true)(h':Dl 40 y=true):SO S x y=Y (.bl (!Oo x y)):=by
 unfold SO;rw[vc h,vc h'];exact aam #[h,h']
@[simp] theorem kn:On S (.int i) (.int j)=Y (.bl (i==j)):=mI (by simp[Dl]) (by simp[Dl])
@[simp] theorem Ql:SO S (.int i) (.int j)=Y (.bl (!(i==j))):=Ca (by simp[Dl]) (by simp[Dl])
@[simp] theorem fEq_bb:On S (.bl k) (.bl l)=Y (.bl (k==l)):=mI (by simp[Dl]) (by simp[Dl])
@[simp] theorem cr:On S (.str i) (.str j)=Y (.bl (i==j)):=mI (by simp[Dl]) (by simp[Dl])
@[simp] theorem tf:SO S (.str i) (.str j)=Y (.bl (!(i==j))):=Ca (by simp[Dl]) (by simp[Dl])
def jp(hs:Xw S y=Y ys)(h:Dl 40 x=true)(h':ys.all (Dl 39)=true):SY S x y=Y (.bl (ys.any λd=>Oo d x)):=by
 unfold SY;rw[hs];exact aam #[h,h']
def a0V(hs:Xw S y=Y ys)(h:Dl 40 x=true)(h':ys.all (Dl 39)=true):Ov S x y=Y (.bl (!ys.any λd=>Oo d x)):=by
 unfold Ov;rw[hs];exact aam #[h,h']
def a0W{xs:List D}{k:Int}(h0:0<=k)(h1:k<=100000)(h:xs.length*k.toNat<=1000):Tt S 5.2 (.int k)=Y (.tup (ZB k.toNat xs).flatten):=aam #[by omega,by omega,sz h]
def IS(f:MF)(x:D)(q:List D×aa):Option (D×aa):=f x q.1 q.2
def YU(f:MF)(ms:MA)(env:bn)(q:D×aa):Option (D×aa):=if Tp q.2 q.1=true then(ms env q.2).bind (IS f q.1) else J
@[simp] theorem jz{f:MF}:dH f a ms env S=(a env S).bind (YU f ms env):=by rw[pC];rfl
@[simp] theorem kMeth_l{f:MF}{xs:List D}:YU f ms env 1.40=(ms env S).bind (IS f 1.5):=id rfl
def oR{f:MF}{r:Nat}{xs:List D}(h:S[r]?=Y 1.5):YU f ms env (.ref r,S)=(ms env S).bind (IS f (.ref r)):=by
 unfold YU;exact aam (by simp only[Tp,h])
@[simp] theorem dX{f:MF}{xs:List D}:IS f x (xs,S)=f x xs S:=id rfl
def lS{r:Nat}(h:S[r]?=Y 1.5)(hz:xs.length<1000):OG (.ref r) [y] S=Y (.non,S.set r (.lst (xs++[y]))):=by
 simp only[OG,h];exact aam (aaH hz 0.1)
def EE(q:List D×aa):Option (List D×aa):=match q.1 with | [.tup xs]=>Y (XR 0 xs,q.2) | _=>J
@[simp] theorem kEnum_s:EE ([.tup xs],S)=Y (XR 0 xs,S):=id rfl
@[simp] theorem oP:eM ms env S=(ms env S).bind EE:=by rw[za];rfl
def a0X{ns:List Int}(h:ns.length<64):WV S (.lst 2.0)=Y ns:=by
 unfold WV;rw[aam (show Tp S (.lst 1.09)=true from rfl)];show(qm 1.09).bind _=_;rw[wP];exact aam h
def Uh(ms:MA)(env:bn)(q:D×aa):Option (D×aa):=if Nw q.1=true then(ms env q.2).bind (IS Ta q.1) else if Tp q.2 q.1=true then(ms env q.2).bind (IS XS q.1) else J
@[simp] theorem Pj:jb a ms env S=(a env S).bind (Uh ms env):=by rw[wg];rfl
@[simp] theorem kCnt_t:Uh ms env 2.07=(ms env S).bind (IS Ta 5.2):=id rfl
@[simp] theorem kCnt_l:Uh ms env 1.40=(ms env S).bind (IS XS 1.5):=id rfl
def a0Y{xs:List D}(h:Dl 40 x=true)(h':xs.all (Dl 39)=true):Ta 5.2 [x] S=Y (.int (xs.countP λd=>Oo d x),S):=by
 show(if Nw 5.2=true then XO 5.2 [x] S else J)=_;rw[aam (show Nw 5.2=true from rfl)];exact aam #[h,h']
def TX(q:List D×aa):Option (List D×aa):=match q.1 with | [.tup xs,.tup ys]=>if xs.length<=ys.length then Y (SL xs ys,q.2) else J | _=>J
@[simp] theorem kZip_s:TX ([.tup xs,.tup xs],S)=Y (SL xs xs,S):=aam (aas _)
def a0Z{xs ys:List D}(h:xs.length<=ys.length):TX ([.tup xs,.tup ys],S)=Y (SL xs ys,S):=aam h
@[simp] theorem Yk:kD ms env S=(ms env S).bind TX:=by rw[zb];rfl
@[simp] theorem WN{xs ys:List D}:SL (x::xs) (y::ys)=.tup [x,y]::SL xs ys:=id rfl
@[simp] theorem zipD_nl:SL [] xs=[]:=by cases xs<;>rfl
@[simp] theorem zipD_nr:SL xs []=[]:=by cases xs<;>rfl
def YF(k:bK)(d:D)(z:List (bK×D)×aa):Option (List (bK×D)×aa):=Y ((k,d)::z.1,z.2)
def Ua(r:List (ME×ME))(env:bn)(k:bK)(q:D×aa):Option (List (bK×D)×aa):=(Oh r env q.2).bind (YF k q.1)
noncomputable def kPr2(b:ME)(r:List (ME×ME))(env:bn)(S:aa)(k:bK):Option (List (bK×D)×aa):=(b env S).bind (Ua r env k)
def YG(b:ME)(r:List (ME×ME))(env:bn)(q:D×aa):Option (List (bK×D)×aa):=(OA q.1).bind (kPr2 b r env q.2)
@[simp] theorem qe:Oh [] env S=Y ([],S):=id rfl
@[simp] theorem nO{r:List (ME×ME)}:Oh ((a,b)::r) env S=(a env S).bind (YG b r env):=id rfl
@[simp] theorem kPr1_i:YG b r env 3.21=(b env S).bind (Ua r env (.inl i)):=id rfl
@[simp] theorem Ho:YG b r env (.str i,S)=(b env S).bind (Ua r env (.inr i)):=id rfl
@[simp] theorem Hn{k:bK}:Ua r env k (d,S)=(Oh r env S).bind (YF k d):=id rfl
@[simp] theorem Hm{k:bK}{z:List (bK×D)}:YF k d (z,S)=Y ((k,d)::z,S):=id rfl
def KD(z:List (bK×D)×aa):Option (D×aa):=if z.1.length<=15 then Y (.dct ((Ad [] z.1).map (·.1)) ((Ad [] z.1).map (·.2)),z.2) else J
def KO(z:List (bK×D)×aa):Option (D×aa):=if z.1.length<=15 then Y (.ref z.2.length,z.2++[.dct ((Ad [] z.1).map (·.1)) ((Ad [] z.1).map (·.2))]) else J
@[simp] theorem Jr:gq ps env S=(Oh ps env S).bind KD:=by rw[tV];rfl
@[simp] theorem Eu:dF ps env S=(Oh ps env S).bind KO:=by rw[sL];rfl
def a12{k:bK}:∀ {l:List (bK×D)},k∉l.map (·.1)->EM l k=false
 | [],_=>rfl
 | p::r,h=>by
  rw[List.map_cons,aav,not_or] at h;unfold EM;rw[if_neg (λz=>h.1 z.symm)];exact a12 h.2
def qd:∀ {l m:List (bK×D)},((m++l).map (·.1)).Nodup->Ad m l=m++l
 | [],m,_=>by rw[aaF];rfl
 | p::r,m,h=>by
  show Ad (HA m p.1 p.2) r=_
  have hn:p.1∉m.map (·.1):=by
   rw[aaI,List.map_cons,abd] at h;intro z;exact h.2.2 _ z _ aab rfl
  unfold HA;rw[a12 hn,if_neg aeI];rw[qd (by rw[aay];exact h),aay];rfl
def sG{l:List (bK×D)}(h:(l.map (·.1)).Nodup):Ad [] l=l:=qd (m:=[]) h
def a13{l:List (bK×D)}(h:(l.map (·.1)).Nodup)(hl:l.length<=15):KD (l,S)=Y (.dct (l.map (·.1)) (l.map (·.2)),S):=by
 unfold KD;rw[aam hl];simp only[sG h]
def zm{l:List (bK×D)}(h:(l.map (·.1)).Nodup)(hl:l.length<=15):KO (l,S)=Y (.ref S.length,S++[.dct (l.map (·.1)) (l.map (·.2))]):=by
 unfold KO;rw[aam hl];simp only[sG h]
def nu{α β:Type}:∀ (l:List (α×β)),(l.map (·.1)).zip (l.map (·.2))=l
 | []=>rfl
 | p::r=>by rw[List.map_cons,List.map_cons,List.zip_cons_cons,nu r]
@[simp] theorem fIx_dct:GD S 7.6 y=(OA y).bind (Oi 7.8):=id rfl
def fIx_d{l:List (bK×D)}{k:bK}(h:OA y=Y k):GD S (.dct (l.map (·.1)) (l.map (·.2))) y=Oi l k:=by
 show(OA y).bind (λk=>Oi ((l.map (·.1)).zip (l.map (·.2))) k)=_;rw[h,nu];rfl
def a14{r:Nat}{l:List (bK×D)}{k:bK}(hr:S[r]?=Y (.dct (l.map (·.1)) (l.map (·.2))))(h:OA y=Y k):GD S (.ref r) y=Oi l k:=by
 have:CO S (.ref r)=Y l:=by simp only[CO,hr,nu]
 unfold GD;rw[this];show(OA y).bind _=_;rw[h];rfl
def Pr(f:MF)(ms:MA)(env:bn)(q:D×aa):Option (D×aa):=if Rv q.2 q.1=true then(ms env q.2).bind (IS f q.1) else J
def BM(g:MG)(t:MT)(e:ME)(cap:List 0.9)(env:bn)(q:D×aa):Option (D×aa):=match q.1 with
 | .ref r=>(OC g t e r 2000 0 1.82 q.2).bind SS
 | _=>J
def a15{g:MG}{t:MT}{e:ME}{cap:List 0.9}:cT a g t e cap env S=(a env S).bind (BM g t e cap env):=by rw[sM];rfl
def a16{g:MG}{t:MT}{e:ME}{cap:List 0.9}:BM g t e cap env (.ref r,S)=(OC g t e r 2000 0 1.82 S).bind SS:=id rfl
def OD(l:List (bK×D))(q:D×aa):Option (D×aa):=(OA q.1).bind λk=>(Oi l k).bind λd=>Y (d,q.2)
@[simp] theorem wq{l:List (bK×D)}:dE l a env S=(a env S).bind (OD l):=by rw[zd];rfl
@[simp] theorem wv{f:MF}:dP f a ms env S=(a env S).bind (Pr f ms env):=by rw[zg];rfl
@[simp] theorem kMethD_d{f:MF}{ks:List bK}{vs:List D}:Pr f ms env (.dct ks vs,S)=(ms env S).bind (IS f 7.6):=id rfl
def a17{f:MF}{r:Nat}{ks:List bK}{vs:List D}(h:S[r]?=Y 7.6):Pr f ms env (.ref r,S)=(ms env S).bind (IS f (.ref r)):=by
 unfold Pr;exact aam (by simp only[Rv,h])
@[simp] theorem valD_nil{k:bK}:Oi [] k=J:=id rfl
@[simp] theorem valD_cons{k k':bK}{l:List (bK×D)}:Oi ((k',d)::l) k=if k'=k then Y d else Oi l k:=id rfl
@[simp] theorem keyOf_i:OA (.int i)=Y (.inl i):=id rfl
@[simp] theorem BE:OA (.str i)=Y (.inr i):=id rfl
def a18{r:Nat}{l m:List (bK×D)}(hr:S[r]?=Y (.dct (l.map (·.1)) (l.map (·.2))))(hl:l.length+m.length<=1000) :
  Nu (.ref r) [.dct (m.map (·.1)) (m.map (·.2))] S=Y (.non,S.set r (.dct ((Ad l m).map (·.1)) ((Ad l m).map (·.2)))):=by
 simp only[Nu,hr,nu];exact aam (by rw[aaf,aaf];exact sz hl)
def YY(tg:MG)(p:MS)(env:bn)(q:D×aa):Option qz:=match q.1 with
 | .ref r=>MK tg p r 2000 0 env q.2
 | .lst xs=>AI tg p xs env q.2
 | .rol xs=>AI tg p xs env q.2
 | .tup xs=>AI tg p xs env q.2
 | _=>J
@[simp] theorem kN:dU a tg p env S=(a env S).bind (YY tg p env):=by rw[xL];rfl
@[simp] theorem Ug:YY tg p env 1.40=AI tg p xs env S:=id rfl
@[simp] theorem kForD_o:YY tg p env (.rol xs,S)=AI tg p xs env S:=id rfl
@[simp] theorem Ue:YY tg p env 2.07=AI tg p xs env S:=id rfl
@[simp] theorem Uf:YY tg p env (.ref r,S)=MK tg p r 2000 0 env S:=id rfl
def LB(tg:MG)(p:MS)(r f i:Nat):qz->Option qz
 | .nx e s=>MK tg p r f i e s
 | .ct e s=>MK tg p r f i e s
 | .bk e s=>Y 3.00
 | .rt d s=>Y 2.98
noncomputable def kRl1(tg:MG)(p:MS)(r f i:Nat)(q:bn×aa):Option qz:=(p q.1 q.2).bind (LB tg p r f i)
@[simp] theorem YE{f:Nat}:kRl1 tg p r f i (e,S)=(p e S).bind (LB tg p r f i):=id rfl
@[simp] theorem TZ{f:Nat}:LB tg p r f i 1.97=MK tg p r f i e S:=id rfl
@[simp] theorem kRl2_ct{f:Nat}:LB tg p r f i (.ct e S)=MK tg p r f i e S:=id rfl
@[simp] theorem kRl2_bk{f:Nat}:LB tg p r f i (.bk e S)=Y 1.97:=id rfl
@[simp] theorem kRl2_rt{f:Nat}:LB tg p r f i 1.78=Y 1.78:=id rfl
def a19{r f i:Nat}(h:S[r]?=Y 1.5)(hx:xs.length<=i):MK tg p r (f+1) i env S=Y 1.16:=by
 have hx':xs[i]?=J:=by simpa using hx
 unfold MK;rw[h];simp only[hx']
def a1a{r f i:Nat}(h:S[r]?=Y 1.5)(hx:xs[i]?=Y d):MK tg p r (f+1) i env S=(tg d env S).bind (kRl1 tg p r f (i+1)):=by
 show(match S[r]? with | some 1.5=>_ | _=>J)=_;rw[h];show(match xs[i]? with | none=>_ | some d=>_)=_;rw[hx];show(tg d env S).bind _=_
 first | rfl | (congr 1;funext q;show(p q.1 q.2).bind _=(p q.1 q.2).bind _;congr 1;funext o;cases o<;>rfl)
def Hr(q:List D×aa):Option (D×aa):=match q.1 with | [.int j]=>if 0<=j/\j<=1000 then Y (.lst (FW 0 j.toNat),q.2) else J | _=>J
@[simp] theorem Pe:el ms env S=(ms env S).bind Hr:=by rw[zh];rfl
def a1b{j:Int}(h0:0<=j)(h1:j<=1000):Hr ([.int j],S)=Y (.lst (FW 0 j.toNat),S):=aam #[h0,h1]
def Yz(t:MT)(p:MS)(f:Nat):qz->Option qz
 | .nx e s=>Ox t p f e s
 | .ct e s=>Ox t p f e s
 | .bk e s=>Y 3.00
 | .rt d s=>Y 2.98
def A04(t:MT)(p:MS)(f:Nat)(env:bn)(q:Bool×aa):Option qz:=if q.1=true then(p env q.2).bind (Yz t p f) else Y (.nx env q.2)
@[simp] theorem OZ:eh t p env S=Ox t p 5000 env S:=by rw[zc];rfl
def a1c{f:Nat}:Ox t p (f+1) env S=(t env S).bind (A04 t p f env):=by
 show(t env S).bind _=_
 first | rfl | (congr 1;done)
@[simp] theorem kWh_t{f:Nat}:A04 t p f env (true,S)=(p env S).bind (Yz t p f):=id rfl
@[simp] theorem kWh_f{f:Nat}:A04 t p f env 1.91=Y 1.16:=id rfl
@[simp] theorem TY{f:Nat}:Yz t p f 1.97=Ox t p f e S:=id rfl
def a1d{ns:List Int}(h:ns.length<64)(h0:ns≠[]):Gz XD [.lst 2.0] S=Y (.int (AM ns),S):=by
 show((XD S [.lst 1.09]).bind _)=_
 have:XD S [.lst 1.09]=Y (.int (AM ns)):=by
  show((WV S (.lst 1.09)).bind _)=_;rw[a0X h];show(if ns.isEmpty=true then J else Y (D.int (AM ns)))=_;rw[if_neg (by cases ns with | nil=>exact absurd rfl h0 | cons _ _=>simp)]
 rw[this];rfl
def a1e{x y:D}(h:(BS x||BS y)=true)(h1:ML S x=Y xs)(h2:ML S y=Y ys)(hl:xs.length+ys.length<=1000):OE S x y=Y (.lst (xs++ys)):=by
 unfold OE;rw[aam h,h1,h2];exact aam (sz hl)
def BH(x d:D)(env:bn)(q:D×aa):Option (bn×aa):=match x with
 | .ref r=>match q.2[r]? with
  | some 7.6=>(OA q.1).bind λk=>if ks.length<=500 then Y (env,q.2.set r (.dct ((HA 7.8 k d).map (·.1)) ((HA 7.8 k d).map (·.2)))) else J
  | _=>J
 | _=>J
def Pw(b:ME)(env:bn)(d:D)(q:D×aa):Option (bn×aa):=(b env q.2).bind (BH q.1 d env)
@[simp] theorem Up:lO a b d env S=(a env S).bind (Pw b env d):=by rw[wj];rfl
@[simp] theorem Pv:Pw b env d (x,S)=(b env S).bind (BH x d env):=id rfl
theorem A10{n:Nat}(h:n<=1000000):n<=Ph:=aaJ h 0.1
def KW:qz->Option (D×aa)
 | .rt d S'=>Y (d,S')
 | .nx _ S'=>Y (.non,S')
 | .bk _ _=>J
 | .ct _ _=>J
@[simp] theorem aM:KW 1.78=Y (d,S):=id rfl
@[simp] theorem outM_nx:KW 1.97=Y (.non,S):=id rfl
def ca{n:Nat}{ds:List D}{S:aa}(h:ds.length=n):Gw N m n ds S=(m 2.97 S).bind KW:=by
 unfold Gw;rw[aam h];first | rfl | (congr 1;funext o;cases o<;>rfl)
def runG{n:Nat}{S:aa}(h:FV N ds=env)(hn:ds.length=n):Gw N m n ds S=(m env S).bind KW:=by rw[<- h];exact ca hn
def kw{N:List Str}{n k:Nat}{ds:List D}{S:aa}(hN:N.length=k)(h:ds.map Y++ZB (k - ds.length) J=env)(hn:ds.length=n):Gw N m n ds S=(m env S).bind KW:=runG (by unfold FV;rw[hN];exact h) hn
@[simp] theorem rep0:ZB 0 (J:Option D)=[]:=id rfl
end
noncomputable def qX:MS:=
 aF (bU (aC (az Zq 1.2 0e0)) (aF (aN (az mG 1.2 '1') 'b') (aF (aN (az Fo 1.2 '1') (eX '0' 0e0)) (bp '2'))) ba) (aF (aN (az OE 7.5 1e0) (eX '0' 2e0)) (aF (aN (az mG (az OE (az OE (az Tt 6.1 48271e0) 12345e0) (az Tt 7e0 7.5)) 2147483647e0) (eX '0' 1e0)) (bp (az mG (az Fo (az mG (az Tt 6.1 6.1) 1999999973e0) 64e0) '1'))))
def Hl:MS:=
 aF (aN 1e0 '`') (aF (hZ (cC (ac 10e0 am)) 'a' (aN 1.48 '`')) (bp '0'))
def Mi:MS:=
 aF (bU (aC (az RX '1' 1.00)) (bp (az GD '0' '1')) ba) (bp 0e0)
def Mj(cellAt far:List D->aa->Option (D×aa)):MS:=
 aF (aN (ax 2 cellAt (ac '0' (ac (az mG '1' (bB (Gz XD) (ac 1e0 (ac 1.00 am)))) am))) 'b') (aF (aN (az mG (az Tt (az OE (az OE (az mG '2' 2147483629e0) (az Tt (az Tt 7919e0 '1') '1')) 11e0) 48271e0) 2147483647e0) 'c') (aF (aN (az mG (az OE (az OE (az Tt '3' 39373e0) (az Tt 7e0 '1')) 1e0) 2147483629e0) 'c') (aF (bU (aC (az RX '2' (az yu 10e0 18e0))) (aN 0e0 'b') ba) (bp (dD (ac (az mG '2' (ax 0 far am)) (ac '3' 2.50)))))))
def qa6{a b c:D}:AK [a,b,c] 0=Y a/\AK [a,b,c] 1=Y b/\AK [a,b,c] 2=Y c:=#[rfl,rfl,rfl]
def Pk(S:aa)(r:Nat):Prop:=∃ a b c:Int,S[r]?=Y (.lst [.int a,.int b,.int c])/\0<=a/\0<=b/\b<2147483647
noncomputable def p60:Int:=1000000000000000000000000000000000000000000000000000000000000
def a1f:(10:Int)^(60:Int).toNat=p60:=by decide +kernel
def a1g:p60.natAbs<=2^(200*1):=by decide +kernel
def a1h:0<p60:=by decide +kernel
def a1i{i:Int}(h:i.natAbs<2^4000):qN i p60=true:=by
 unfold qN;rw[aaj h,aaj (p:=p60.natAbs<2^4000) (by decide +kernel)];simp
def Qi:MS:=aN 1.48 '`'
def a1j:yu S (.int 10) (.int 60)=Y (.int p60):=by
 have h:=a0T (S:=S) (i:=10) (j:=60) (by decide +kernel);rw[a1f] at h;exact h
def a1k{o:Option D}(h1:yu S (.int 10) (.int 60)=Y (.int p))(h2:Tt S (.int a) (.int p)=Y (.int (a*p))):Qi [Y (.int a),o] S=Y (.nx [Y (.int (a*p)),o] S):=by
 simp[Qi,h1,h2]
def a1l{o:Option D}(h:qN a p60=true):Qi [Y (.int a),o] S=Y (.nx [Y (.int (a*p60)),o] S):=a1k a1j (iP h)
def farL{B:Nat}(hB:∀ i:Int,i.natAbs<B->qN i p60=true)(l:List D):∀ (a:Int) (o:Option D),0<a->a.natAbs*2^(200*l.length)<B->∃ q o',AI 'a' Qi l [Y (.int a),o] S=Y (.nx [Y (.int q),o'] S)/\0<q:=by
 induction l with
 | nil=>exact λa o h z=>#[a,o,rfl,h]
 | cons d l ih=>
  intro a o h hb;have h1:a.natAbs<B:=ado (Nat.le_mul_of_pos_right _ (Nat.pow_pos 0.1)) hb
  obtain⟨q,o',e,hq⟩:=ih (a*p60) (Y d) (Int.mul_pos h a1h) (by
   rw[Int.natAbs_mul];refine ado ?_ hb;rw[aar,Nat.mul_add,Nat.pow_add,Nat.mul_assoc];refine aeH _ ?_;rw[adB]
   exact aeH _ a1g)
  refine#[q,o',?_,hq];rw[dN,aP,ob,jS];show(Qi [Y (.int a),Y d] S).bind _=_;rw[a1l (hB a h1),ob,iV];exact e
def a1m{N:List Str}(hN:N.length=2):∃ q:Int,Gw N Hl 0 [] S=Y (.int q,S)/\0<q:=by
 obtain⟨q,o',e,hq⟩:=farL (S:=S) (λi h=>a1i h) (FW 0 10) 1 J 0.1 (by decide +kernel);refine#[q,?_,hq];rw[ca (show([]:List D).length=0 from rfl)];have:FV N []=[J,J]:=by simp[FV,hN,ZB]
 rw[this];have k1:Wc ([.int 10],S)=Y (FW 0 10,S):=sS 0.1 0.1;have e':AI 'a' (aN 1.48 '`') (FW 0 10) [Y (.int 1),J] S=Y (.nx [Y (.int q),o'] S):=e;simp![Hl,sK,jI,k1,sU,e']
inductive PkQ(pick:List D->aa->Option (D×aa))(S:aa)(r:Nat)(m:Int):Prop
 | mk (q:Int) (S':aa) (e:pick [.ref r,.int m] S=Y (.int q,S')) (h0:0<=q) (h1:q<m) (p:Pk S' r) (k:(∀ j,j≠r->S'[j]?=S[j]?)/\S'.length=S.length)
def a1n{m:Int}{N:List Str}(hN:N.length=3)(h:Pk S r)(h0:0<m)(h1:m<1073741824) :
  PkQ (Gw N qX 2) S r m:=by
 suffices z:∃ q S',Gw N qX 2 [.ref r,.int m] S=Y (.int q,S')/\0<=q/\q<m/\Pk S' r/\(∀ j,j≠r->S'[j]?=S[j]?)/\S'.length=S.length by
  obtain⟨q,S',e,a,b,c,d⟩:=z;exact#[q,S',e,a,b,c,d]
 obtain⟨a,b,c,h,ha,hb,hb'⟩:=h;have hr:r<S.length:=(aaa.mp h).1;have hm:∀ x:Int,0<=x%m/\x%m<m:=λx=>#[acq _ 0.0,ads _ h0]
 have hst:FV N [.ref r,.int m]=[Y (.ref r),Y (.int m),J]:=by simp[FV,hN]
 rw[ca (show [D.ref r,D.int m].length=2 from rfl),hst];have hs:∀ c:Cell,(S.set r c)[r]?=Y c:=λc=>aaw hr;by_cases hp:0<a
 ·refine#[a%m,S.set r (.lst [.int (a / m),.int b,.int c]),?_,(hm a).1,(hm a).2,#[a / m,b,c,hs _,Int.ediv_nonneg ha 0.0,hb,hb'],λj hj=>by rw[aaq 1.43],by simp];have w:=wH (env:=[Y (.ref r),Y (.int m),Y (.int (a%m))]) (d:=.int (a / m)) h (show FQ _ 0=Y 0 from rfl);simp[qX,oU h,hp,kg h0,HJ h0 h1,qa6,w]
 ·have hB:∀ x:Int,0<=x%2147483647/\x%2147483647<2147483647:=λx=>#[acq _ 0.1,ads _ 0.1]
  let b':=(b*48271+12345+7*(c+1))%2147483647;have hb2:=hB (b*48271+12345+7*(c+1));have m3:qN b' b'=true:=nL 0.0 0.0;have s1:(S.set r (.lst [.int a,.int b,.int (c+1)]))[r]?=Y (.lst [.int a,.int b,.int (c+1)]):=hs _;have s2:((S.set r (.lst [.int a,.int b,.int (c+1)])).set r (.lst [.int a,.int b',.int (c+1)]))[r]?=Y (.lst [.int a,.int b',.int (c+1)]):=aaw (by simpa using hr);refine#[b'*b'%1999999973 / 64%m,(S.set r (.lst [.int a,.int b,.int (c+1)])).set r (.lst [.int a,.int b',.int (c+1)]),?_,(hm _).1,(hm _).2,#[a,b',c+1,s2,ha,(hB _).1,(hB _).2],λj hj=>by rw[aaq 1.43,aaq 1.43],by simp];have e1:Tt (S.set r (.lst [.int a,.int b,.int (c+1)])) (.int b) (.int 48271)=Y (.int (b*48271)):=iP (Bb 0.1 0.1);have e2:Tt (S.set r (.lst [.int a,.int b,.int (c+1)])) (.int 7) (.int (c+1))=Y (.int (7*(c+1))):=iP 3.06;have e3:∀ S x,mG S (.int x) (.int 2147483647)=Y (.int (x%2147483647)):=λu u=>kg 0.1;have e4:∀ S x,mG S (.int x) (.int 1999999973)=Y (.int (x%1999999973)):=λu u=>kg 0.1;have e5:∀ S x,Fo S (.int x) (.int 64)=Y (.int (x / 64)):=λu u=>HJ 0.1 0.1;have w1:=wH (env:=[Y (.ref r),Y (.int m),J]) (d:=.int (c+1)) h (show FQ _ 2=Y 2 from rfl);have w2:=wH (env:=[Y (.ref r),Y (.int m),J]) (d:=.int b') s1 (show FQ _ 1=Y 1 from rfl);simp[qX,oU h,oU s1,oU s2,hp,kg h0,qa6,e1,e2,e3,e4,e5,w1];rw[show(b*48271+12345+7*(c+1))%2147483647=b' from rfl,w2];simp[oU (hs _),qa6,iP m3,e4,e5,kg h0]
def a1o{S:aa}{ns:List Int}{k:Int}{N:List Str}(hN:N.length=2)(h0:0<=k):∃ v,Gw N Mi 2 [.rol 2.0,.int k] S=Y (.int v,S):=by
 rw[ca (show [D.rol 2.0,D.int k].length=2 from rfl)];have hst:FV N [D.rol 2.0,D.int k]=[Y (D.rol 2.0),Y (.int k)]:=by simp[FV,hN]
 rw[hst];by_cases h:k<ns.length
 ·have e:AK 1.09 k=Y (.int (ns[k.toNat]'(by omega))):=by
   rw[Iw h0 (by simpa using h)];simp
  exact#[ns[k.toNat]'(by omega),by simp[Mi,h,e]]
 ·exact#[0,by simp[Mi,h]]
def qag{S:aa}{a b:Int}(ha:0<=a)(hb:0<=b)(hb':b<2147483647):Pk (S++[.lst [.int a,.int b,.int c]]) S.length:=#[a,b,c,by simp,ha,hb,hb']
def a1p{S:aa}{ns:List Int}{k:Int}{N:List Str}{cellAt far:List D->aa->Option (D×aa)}(hN:N.length=4)(h0:0<=k)(h1:k<=100000)
  (hc:∀ S k,0<=k->∃ v,cellAt [.rol 2.0,.int k] S=Y (.int v,S)) (hf:∀ S,∃ q,far [] S=Y (.int q,S)/\0<q) :
  ∃ a b,Gw N (Mj cellAt far) 2 [.rol 2.0,.int k] S=Y (.ref S.length,S++[.lst [.int a,.int b,.int 0]])/\0<=a/\0<=b/\b<2147483647:=by
 rw[ca (show [D.rol 2.0,D.int k].length=2 from rfl)];have hst:FV N [D.rol 2.0,D.int k]=[Y (D.rol 2.0),Y (.int k),J,J]:=by simp[FV,hN,ZB]
 rw[hst];have hmx:0<(if 2.19>1 then(ns.length:Int) else 1):=by split<;>omega
 obtain⟨v,hv⟩:=hc S (k%(if 2.19>1 then(ns.length:Int) else 1)) (acq _ 0.0);obtain⟨q,hq,q0⟩:=hf S;have e1:∀ S x,mG S (.int x) (.int 2147483629)=Y (.int (x%2147483629)):=λz z=>kg 0.1;have e2:∀ S x,mG S (.int x) (.int 2147483647)=Y (.int (x%2147483647)):=λz z=>kg 0.1;have e3:∀ S x,mG S (.int x) (.int q)=Y (.int (x%q)):=λz z=>kg q0;have p1:∀ S,Tt S (.int 7919) (.int k)=Y (.int (7919*k)):=λz=>iP 3.06;have p2:∀ S,Tt S (.int (7919*k)) (.int k)=Y (.int (7919*k*k)):=λz=>iP (Bb 0.0 0.0);have p3:∀ S x,Tt S (.int x) (.int 48271)=Y (.int (x*48271)):=λz z=>iP (Bb 0.1 0.1);have p4:∀ S x,Tt S (.int x) (.int 39373)=Y (.int (x*39373)):=λz z=>iP (Bb 0.1 0.1);have p5:∀ S,Tt S (.int 7) (.int k)=Y (.int (7*k)):=λz=>iP 3.06
 have pw:∀ S,yu S (.int 10) (.int 18)=Y (.int 1000000000000000000):=λS=>by
  have h:=a0T (S:=S) (i:=10) (j:=18) (by decide +kernel)
  rwa[show(10:Int)^(18:Int).toNat=1000000000000000000 by decide +kernel] at h
 have hb:∀ x:Int,0<=x%2147483629/\x%2147483629<2147483647:=λx=>#[acq _ 0.1,by have:=ads x (show(0:Int)<2147483629 by decide);omega]
 by_cases h:v<1000000000000000000
 ·refine#[0%q,(((v%2147483629+7919*k*k+11)*48271%2147483647)*39373+7*k+1)%2147483629,?_,acq _ 0.0,(hb _).1,(hb _).2];simp[-Int.zero_emod,Mj,kg hmx,hv,e1,e2,e3,p1,p2,p3,p4,p5,pw,h,hq,kLR3]
 ·refine#[v%q,(((v%2147483629+7919*k*k+11)*48271%2147483647)*39373+7*k+1)%2147483629,?_,acq _ 0.0,(hb _).1,(hb _).2];simp[Mj,kg hmx,hv,e1,e2,e3,p1,p2,p3,p4,p5,pw,h,hq,kLR3]
def a1q{tg:MG}{p:MS}(I:bn->aa->Prop):∀ (xs:List D),(∀ d∈xs,∀ env S,I env S->∃ env1 S1 env2 S2,tg d env S=Y (env1,S1)/\p env1 S1=Y (.nx env2 S2)/\I env2 S2) ->
  ∀ env S,I env S->∃ env' S',AI tg p xs env S=Y 2.91/\I env' S'
 | []=>λz env S h=>#[env,S,rfl,h]
 | d::xs=>λhs env S h=>by
  obtain⟨env1,S1,env2,S2,e1,e2,h2⟩:=hs d aab env S h;obtain⟨env',S',e3,h3⟩:=a1q I xs (λd hd=>hs d (aac _ hd)) env2 S2 h2;exact#[env',S',by rw[dN,e1,ob,jS,e2,ob,iV,e3],h3]
def a1r{lo:Int}{d:D}(h:d∈FW lo n):∃ i:Nat,i<n/\d=.int (lo+(i:Int)):=by
 obtain⟨i,hi⟩:=abX.mp h;exact#[i,vD lo n i d hi]
def SK:D->Bool
 | .ref _=>false
 | .exc _ _ _=>false
 | .fn _=>false
 | _=>true
noncomputable abbrev PF:=List D->aa->Option (D×aa)
def IC(pick:PF):Prop:=∀ (S:aa) (r:Nat) (m:Int),Pk S r->0<m->m<1073741824->PkQ pick S r m
def BB(pick:PF):MS:=
 aF (aN (az GD (eV (ac (!"rows") (ac (!"readers") (ac (!"writers") (ac (!"turns") (ac (!"passes") am)))))) (ax 2 pick (ac '0' (ac 5e0 am)))) 'a') (aF (aN (az GD (eV (ac 0e0 (ac 0e0 (ac 1e0 (ac 2e0 (ac 3e0 (ac 5e0 am))))))) (ax 2 pick (ac '0' (ac 6e0 am)))) 'b') (aF (aN (az Tt (az GD (eV (ac 0e0 (ac 1e0 (ac 2e0 (ac 9e0 am))))) (ax 2 pick (ac '0' (ac 4e0 am)))) (bB (Gz Om) (ac (az On '1' (!"passes")) am))) 'c') (bp (aW (ac '1' (ac '2' (ac '3' (ac (ax 2 pick (ac '0' (ac 2e0 am))) am))))))))
def a1s{q:Int}(h0:0<=q)(h1:q<6):∃ i:Int,AK [D.int 0,D.int 0,D.int 1,D.int 2,D.int 3,D.int 5] q=Y (.int i)/\0<=i/\i<=5:=by
 obtain rfl | rfl | rfl | rfl | rfl | rfl:q=0\/q=1\/q=2\/q=3\/q=4\/q=5:=by omega
 all_goals exact#[_,rfl,by decide,by decide]
def a1t{q:Int}(h0:0<=q)(h1:q<4):∃ i:Int,AK [D.int 0,D.int 1,D.int 2,D.int 9] q=Y (.int i)/\0<=i/\i<=9:=by
 obtain rfl | rfl | rfl | rfl:q=0\/q=1\/q=2\/q=3:=by omega
 all_goals exact#[_,rfl,by decide,by decide]
def forR{tg:MG}{p:MS}{lo:Int}(I:Nat->bn->aa->Prop)(n:Nat)(step:∀ i,i<n->∀ env S,I i env S->∃ env1 S1 env2 S2,tg (.int (lo+(i:Int))) env S=Y (env1,S1)/\p env1 S1=Y (.nx env2 S2)/\I (i+1) env2 S2) :
  ∀ env S,I 0 env S->∃ env' S',AI tg p (FW lo n) env S=Y 2.91/\I n env' S':=by
 have gen:∀ (m k:Nat),k+m=n->∀ env S,I k env S->∃ env' S',AI tg p ((List.range' k m).map λ(i:Nat)=>D.int (lo+(i:Int))) env S=Y 2.91/\I n env' S':=by
  intro m
  induction m with
  | zero=>exact λk hk env S h=>#[env,S,rfl,by rw[<- hk];exact h]
  | succ m ih=>
   intro k hk env S h;obtain⟨env1,S1,env2,S2,e1,e2,h2⟩:=step k 0.0 env S h;obtain⟨env',S',e3,h3⟩:=ih (k+1) 0.0 env2 S2 h2;refine#[env',S',?_,h3];rw[List.range'_succ,List.map_cons,dN,e1,ob,jS,e2,ob,iV,e3]
 intro env S h;have:=gen n 0 0.0 env S h;unfold FW;rw[List.range_eq_range'];exact this
def EntOk(n:Int)(xs:List D)(d:D):Prop:=∃ (g:Int) (w:Str) (m:Int) (t:D),d=.tup [.int g,.str w,.int m,t]/\0<=g/\g<n/\(w = "read"\/w = "write")/\0<=m/\m<=999/\(t=.non\/∃ k,t=.int k/\1<=k/\k<=9)/\AK xs g=Y (.str "out")
def EntOk.up{n':Int}{d:D}(h:EntOk n xs d)(hn:n<=n'):EntOk n' xs d:=by
 obtain⟨g,w,m,t,e,h0,h1,r⟩:=h;exact#[g,w,m,t,e,h0,by omega,r]
def a1u{S:aa}{q:Nat}(h:S[q]?=Y 1.5):Gz Op [.ref q] S=Y 1.84:=by
 have e:Xw S (.ref q)=Y xs:=by simp only[Xw,h]
 show((Xw S (.ref q)).bind _).bind _=_;rw[e];rfl
def zI{S:aa}{q:Nat}(h:S[q]?=Y 1.5):Gz (Xx g) [.ref q] S=Y (g xs,S):=by
 have e:Xw S (.ref q)=Y xs:=by simp only[Xw,h]
 show((Xw S (.ref q)).bind _).bind _=_;rw[e];rfl
def Pk.app{c:Cell}(h:Pk S r):Pk (S++[c]) r/\S.length≠r:=by
 obtain⟨a,b,d,h,z⟩:=h;have hr:=(aaa.mp h).1;exact#[#[a,b,d,by rw[aap hr];exact h,z],by omega]
def Hx(x:Str):Prop:=x = "rows"\/x = "readers"\/x = "writers"\/x = "turns"\/x = "passes"
theorem Cy{q:Int}(h0:0<=q)(h1:q<5):∃ x:Str,AK [D.str "rows",D.str "readers",D.str "writers",D.str "turns",D.str "passes"] q=Y (.str x)/\Hx x:=by
 obtain rfl | rfl | rfl | rfl | rfl:q=0\/q=1\/q=2\/q=3\/q=4:=by omega
 ·exact#[_,rfl,.inl rfl]
 ·exact#[_,rfl,.inr 4.6]
 ·exact#[_,rfl,.inr (.inr 4.6)]
 ·exact#[_,rfl,.inr (.inr (.inr 4.6))]
 ·exact#[_,rfl,.inr (.inr (.inr 3.22))]
def Keep(r:Nat)(S S':aa):Prop:=(∀ j,j≠r->S'[j]?=S[j]?)/\S'.length=S.length
def Keep.trans(h:Keep r S S')(h':Keep r S' S''):Keep r S S'':=#[λj z=>(h'.1 j z).trans (h.1 j z),h'.2.trans h.2]
def Keep.refl:Keep r S S:=#[λz z=>rfl,rfl]
structure qae(x:Str)(a b c:Int):Prop where
 w:Hx x
 a0:0<=a
 a5:a<=5
 b0:0<=b
 b9:b<=9
 c0:0<=c
 c1:c<=1
def a1v{pick:PF}(hp:IC pick){S:aa}{r:Nat}{N:List Str}(hN:N.length=4)(h:Pk S r):∃ x a b c S',Gw N (BB pick) 1 [.ref r] S=Y (.tup [.str x,.int a,.int b,.int c],S')/\qae x a b c/\Pk S' r/\Keep r S S':=by
 have hst:FV N [D.ref r]=[Y (.ref r),J,J,J]:=by simp[FV,hN,ZB]
 rw[ca (show [D.ref r].length=1 from rfl),hst];obtain⟨q1,S1,e1,l1,g1,P1,K1⟩:=hp _ _ 5 h 0.1 0.1;obtain⟨q2,S2,e2,l2,g2,P2,K2⟩:=hp _ _ 6 P1 0.1 0.1;obtain⟨q3,S3,e3,l3,g3,P3,K3⟩:=hp _ _ 4 P2 0.1 0.1;obtain⟨q4,S4,e4,l4,g4,P4,K4⟩:=hp _ _ 2 P3 0.1 0.1;obtain⟨x,i1,wx⟩:=Cy l1 g1;obtain⟨a,i2,a0,a5⟩:=a1s l2 g2;obtain⟨b,i3,b0,b9⟩:=a1t l3 g3;have m1:∀ S (z:Bool),Tt S (.int b) (.int (if z=true then 1 else 0))=Y (.int (b*(if z=true then 1 else 0))):=λS z=>iP (nL 0.0 0.0);refine#[x,a,b*(if (x==("passes":Str))=true then 1 else 0),q4,S4,?_,#[wx,a0,a5,by split<;>omega,by split<;>omega,l4,by omega],P4,Keep.trans K1 (Keep.trans K2 (Keep.trans K3 K4))];simp[-beq_iff_eq,BB,kL5,kL6,kL4,YA,e1,e2,e3,e4,i1,i2,i3,m1]
def gC{S:aa}{c:Cell}:(S++[c])[S.length]?=Y c:=by simp
def a1w{S:aa}{c d:Cell}:(S++[c]).set S.length d=S++[d]:=by
 rw[List.set_append,if_neg (abL _)];simp
def a1x:(Str.ofString a==Str.ofString b)=decide (Str.ofString a=Str.ofString b):=rfl
inductive Wd where | out | reads | rising | writes | raised
deriving DecidableEq
noncomputable def Wd.s:Wd->Str
 | .out=>"out"
 | .reads=>"reads"
 | .rising=>"rising"
 | .writes=>"writes"
 | .raised=>"raised"
def Wd.eq(a b:Wd):(a.s==b.s)=decide (a=b):=by cases a<;>cases b<;>decide +kernel
structure En where
 g:Nat
 wr:Bool
 m:Int
 t:Option Int
def SJ(b:Bool):Str:=if b then "write" else "read"
def oF(b:Bool):(SJ b==("write":Str))=b:=by cases b<;>decide +kernel
def uK(b:Bool):(SJ b==("read":Str)) = !b:=by cases b<;>decide +kernel
def IU:Option Int->D
 | none=>.non
 | some k=>.int k
noncomputable def En.d(e:En):D:=.tup [.int 1.42,.str 6.8,.int e.m,IU e.t]
noncomputable abbrev Rm:=List Wd×List En
noncomputable def Wd.d(w:Wd):D:=.str w.s
def Mx(ws:List Wd):D:=.tup 1.32
def Oz(es:List En):D:=.tup 7.3
def Dk(R:Rm):D:=.tup [Mx R.1,Oz R.2]
inductive Rw where | rows | readers | writers | turns | passes
deriving DecidableEq
noncomputable def Rw.s:Rw->Str
 | .rows=>"rows"
 | .readers=>"readers"
 | .writers=>"writers"
 | .turns=>"turns"
 | .passes=>"passes"
def Rw.eq(a b:Rw):(a.s==b.s)=decide (a=b):=by cases a<;>cases b<;>decide +kernel
structure Rl where
 w:Rw
 a:Int
 b:Int
 c:Int
noncomputable def Rl.d(r:Rl):D:=.tup [.str r.w.s,.int r.a,.int r.b,.int r.c]
structure Rl.Ok(r:Rl):Prop where
 a0:0<=r.a
 a5:r.a<=5
 b0:0<=r.b
 b9:r.b<=9
 c0:0<=r.c
 c1:r.c<=1
def a1y(h:Hx x):∃ w:Rw,x=w.s:=by
 rcases h with rfl | rfl | rfl | rfl | rfl
 ·exact#[.rows,rfl]
 ·exact#[.readers,rfl]
 ·exact#[.writers,rfl]
 ·exact#[.turns,rfl]
 ·exact#[.passes,rfl]
section
variable{α:Type}{enc:α->D}{p:α->Bool}{f:α->D}{t:MT}{e:ME}{rest:bn}{S:aa}
def a1z:∀ (xs:List α) (a:Option D),(∀ x∈xs,t (Y (enc x)::rest) S=Y (p x,S))->(∀ x∈xs,p x=true->e (Y (enc x)::rest) S=Y (f x,S))->KQ '`' t e 2.16 (a::rest) S=Y ((xs.filter p).map f,S)
 | []=>λa z z=>by simp
 | x::r=>λa h h2=>by
  have ih:=a1z r (Y (enc x)) (λy hy=>h y 1.60) λy hy=>h2 y 1.60;rw[List.map_cons,kO,aP,ob,eR,BQ,h x 0.3,ob];cases hp:p x with
  | true=>rw[BP,h2 x 0.3 hp,ob,BO,ih,ob,BN,acV hp,List.map_cons]
  | false=>rw[Hv,ih,acW (by simp[hp])]
def fL{cap:List 0.9}{a:Option D}{xs:List α}(hc:Od cap env=a::rest)(hl:xs.length<=1000)(h:∀ x∈xs,t (Y (enc x)::rest) S=Y (p x,S))(h2:∀ x∈xs,p x=true->e (Y (enc x)::rest) S=Y (f x,S)) :
  Oq '`' t e cap env (xs.map enc,S)=Y (.lst ((xs.filter p).map f),S):=by
 rw[nV (by rw[aaf];exact hl),hc,a1z xs a h h2,ob,jT]
def a1A:∀ (xs:List α) (k:Nat) (a b:Option D),(∀ i x,xs[i]?=Y x->t (Y (.int ((k+i:Nat):Int))::Y (enc x)::rest) S=Y (p x,S))->KQ (aQ 2 (ah '`' 1.25)) t '0' (XR k 2.16) (a::b::rest) S=Y (((xs.zipIdx k).filter λq=>p q.1).map λq=>.int (q.2:Int),S)
 | []=>λk a b z=>by simp[XR]
 | x::r=>λk a b h=>by
  have ih:=a1A r (k+1) (Y 1.89) (Y (enc x)) (λi y hy=>by
   have:=h (i+1) y (by simpa using hy);rw[show k+(i+1)=k+1+i by omega] at this
   exact this)
  have h0:=h 0 x rfl;rw[acK] at h0;rw[List.map_cons,XR,kO,cn,bC,aP,ob,eR,cQ,bC,aP,ob,eU,eR,cQ,bP,ob,BQ,h0,ob,abN];cases hp:p x with
  | true=>
   rw[BP,ak,bJ,oj,ob,aj,ob,BO,ih,ob,BN,acV (p:=λq:α×Nat=>p q.1) (a:=(x,k)) hp,List.map_cons]
  | false=>rw[Hv,ih,acW (p:=λq:α×Nat=>p q.1) (a:=(x,k)) (by simp[hp])]
theorem BF{cap:List 0.9}{a b:Option D}{xs:List α}(hc:Od cap env=a::b::rest)(hl:xs.length<=1000)(h:∀ (i:Nat) x,xs[i]?=Y x->t (Y 6.3::Y (enc x)::rest) S=Y (p x,S)) :
  Oq (aQ 2 (ah '`' 1.25)) t '0' cap env (XR 0 2.16,S)=Y (.lst ((xs.zipIdx.filter λq=>p q.1).map λq=>.int (q.2:Int)),S):=by
 rw[nV (by rw[oW,aaf];exact hl),hc,a1A xs 0 a b (λi x hx=>by rw[adb];exact h i x hx),ob,jT]
end
theorem RM{α:Type}{xs:List α}{i:Nat}{x:α}(h:xs[i]?=Y x):AK xs (i:Int)=Y x:=by
 have hl:=(aaa.mp h).1;rw[Iw 0.0 0.0];rw[aaa] at h;obtain⟨z,h⟩:=h;simpa using h
def at4(x a b c:D):AK [x,a,b,c] 0=Y x/\AK [x,a,b,c] 1=Y a/\AK [x,a,b,c] 2=Y b/\AK [x,a,b,c] 3=Y c:=#[rfl,rfl,rfl,rfl]
def at2(x a:D):AK [x,a] 0=Y x/\AK [x,a] 1=Y a:=#[rfl,rfl]
section
variable{S:aa}{e:En}{r:Rl}{R:Rm}
def En.ix0:GD S e.d (.int 0)=Y (.int 1.42):=rfl
def En.ix1:GD S e.d (.int 1)=Y 4.8:=rfl
def En.ix2:GD S e.d (.int 2)=Y 2.00:=rfl
def En.ix3:GD S e.d (.int 3)=Y (IU e.t):=rfl
def Rl.ix0:GD S r.d (.int 0)=Y 3.20:=rfl
def Rl.ix1:GD S r.d (.int 1)=Y (.int r.a):=rfl
def Rl.ix2:GD S r.d (.int 2)=Y (.int r.b):=rfl
def Rl.ix3:GD S r.d (.int 3)=Y (.int r.c):=rfl
def Rm.ix0:GD S (Dk R) (.int 0)=Y (Mx R.1):=rfl
def Rm.ix1:GD S (Dk R) (.int 1)=Y (Oz R.2):=rfl
def yA{ws:List Wd}{i:Nat}(h:ws[i]?=Y w):GD S (Mx ws) 6.3=Y w.d:=by
 show AK 1.32 (i:Int)=_;exact RM (by rw[aaP,h];rfl)
theorem QK{es:List En}{i:Nat}{e:En}(h:es[i]?=Y e):GD S (Oz es) 6.3=Y e.d:=by
 show AK 7.3 (i:Int)=_;exact RM (by rw[aaP,h];rfl)
end
theorem NU{d i:Nat}:HT.fU n d 2.52=min i n:=by
 show(if (i:Int)<0 then((i:Int)+(n:Int)).toNat else min (i:Int).toNat n)=_;rw[if_neg 0.0,abf]
theorem NV{d:Nat}:HT.fU n d J=d:=rfl
def a1B{α:Type}(xs:List α)(i:Nat)(h:i<=xs.length):XB xs J 2.52=xs.take i:=by
 unfold XB;rw[NU,NV,adc h];simp
def oZ{α:Type}(xs:List α)(i:Nat)(h:i<=xs.length):XB xs 2.52 J=xs.drop i:=by
 unfold XB;rw[NU,NV,adc h,abQ 0.3]
def Hk:MS:=bp (az OE (az OE (bz '0' bA (bV '1')) (aW 3.8)) (bz '0' (bV (az OE '1' 1e0)) bA))
def a1C{α:Type}(xs:List α)(i:Nat)(h:i<xs.length)(x:α):xs.take i++[x]++xs.drop (i+1)=xs.set i x:=by
 rw[List.set_eq_take_append_cons_drop,aam h];simp
def a1D{N:List Str}(hN:N.length=3){ws:List Wd}{i:Nat}{w:Wd}(h:i<ws.length)(hl:ws.length<=100):Gw N Hk 3 [Mx ws,.int (i:Int),w.d] S=Y 1.74:=by
 have hst:FV N [Mx ws,D.int (i:Int),w.d]=[Y (Mx ws),Y 6.3,Y w.d]:=by simp[FV,hN]
 rw[ca (show [Mx ws,D.int (i:Int),w.d].length=3 from rfl),hst];have k1:JO ([w.d],S)=Y (.tup [w.d],S):=dW 0.3;have c1:XB 1.32 J 2.52=(ws.take i).map Wd.d:=by rw[a1B _ _ 2.8,acF]
 have c2:XB 1.32 (Y ((i:Int)+1)) J=(ws.drop (i+1)).map Wd.d:=by
  rw[show((i:Int)+1)=((i+1:Nat):Int) by omega,oZ _ _ 2.8,acT]
 have a1:OE S (.tup ((ws.take i).map Wd.d)) (.tup [w.d])=Y (.tup ((ws.take i).map Wd.d++[w.d])):=fQ 0.7;have a2:OE S (.tup ((ws.take i).map Wd.d++[w.d])) (.tup ((ws.drop (i+1)).map Wd.d))=Y (.tup ((ws.take i).map Wd.d++[w.d]++(ws.drop (i+1)).map Wd.d)):=fQ 0.7
 have e:(ws.take i).map Wd.d++[w.d]++(ws.drop (i+1)).map Wd.d=(ws.set i w).map Wd.d:=by
  rw[<- a1C ws i h w];simp
 rw[e] at a2;simp![Hk,Mx,cE,eQ,cL,eO,dj,dq,ls,c1,k1,a1,mJ,c2,a2]
section
variable{S:aa}{ws:List Wd}{es:List En}{ms:MA}{env:bn}
theorem Zw(a b:Wd):Oo a.d b.d=decide (a=b):=Wd.eq a b
theorem Yb:((ws.map Wd.d).all (Dl n))=true:=by
 rw[aaE];intro d hd;obtain⟨w,z,rfl⟩:=aai.mp hd;cases n<;>rfl
def zZ(w:Wd):Ta (Mx ws) [w.d] S=Y (.int (ws.count w:Nat),S):=by
 have h:=a0Y (S:=S) (x:=w.d) (xs:=ws.map Wd.d) rfl Yb;rw[show Mx ws=.tup 1.32 from rfl,h]
 congr 4
 rw[abZ];apply List.countP_congr;intro a z;simp[Zw]
def qA:Uh ms env (Mx ws,S)=(ms env S).bind (IS Ta (Mx ws)):=rfl
def zY:Gz Op [Mx ws] S=Y (.int 2.17,S):=by
 rw[show Mx ws=.tup 1.32 from rfl,HF,aaf]
def a1E:Gz Op [Oz es] S=Y (.int 2.22,S):=by
 rw[show Oz es=.tup 7.3 from rfl,HF,aaf]
end
def IT(r:Rl)(ws:List Wd)(wr:Bool):Bool:=
 if ws.count .reads+ws.count .rising+ws.count .out<ws.length then false
 else if wr then decide (ws.count .reads+ws.count .rising=0)
 else decide (ws.count .rising=0)&&(decide (r.a=0)||decide (((ws.count .reads+ws.count .rising:Nat):Int)<r.a))
def BC:MS:=
 aF (aN (az OE (jb '1' (ac (!"reads") am)) (jb '1' (ac (!"rising") am))) 'c') (aF (bU (aC (az RX (az OE '3' (jb '1' (ac (!"out") am))) 2.67)) 2.72 ba) (aF (bU (aC (az On '2' (!"write"))) (bp (az On '3' 0e0)) ba) (bp (Dj (az On (jb '1' (ac (!"rising") am)) 0e0) (AA (az On 6.1 0e0) (az RX '3' 6.1))))))
def a1F{N:List Str}(hN:N.length=4){r:Rl}{ws:List Wd}:Gw N BC 3 [r.d,Mx ws,.str (SJ wr)] S=Y (.bl (IT r ws wr),S):=by
 refine abn (kw (env:=[Y r.d,Y (Mx ws),Y 6.2,J]) hN rfl rfl) ?_;have c1:∀ S,Ta (Mx ws) [.str "reads"] S=Y (.int (ws.count .reads:Nat),S):=λS=>zZ .reads;have c2:∀ S,Ta (Mx ws) [.str "rising"] S=Y (.int (ws.count .rising:Nat),S):=λS=>zZ .rising;have c3:∀ S,Ta (Mx ws) [.str "out"] S=Y (.int (ws.count .out:Nat),S):=λS=>zZ .out;unfold IT;simp![BC,Pj,qA,dX,c1,c2,c3,mJ,bX,bY,zY,fLt_i];by_cases h1:ws.count .reads+ws.count .rising+ws.count .out<ws.length
 ·have:decide (1.49+1.04+1.79<(2.17:Int))=true:=aaj 0.0;rw[this,aam h1];simp
 ·have:decide (1.49+1.04+1.79<(2.17:Int))=false:=aao 0.0;rw[this,if_neg h1];cases wr with
  | true=>
   have e:(SJ true==("write":Str))=true:=oF true
   have e2:(1.49+1.04==0)=decide (ws.count Wd.reads+ws.count Wd.rising=0):=by
    rw[aaN];simp;omega
   simp[e,e2]
  | false=>
   have e:(SJ false==("write":Str))=false:=oF false;have e2:(1.04==0)=decide (ws.count Wd.rising=0):=by rw[aaN];simp
   have e3:(r.a==0)=decide (r.a=0):=rfl;by_cases h2:ws.count Wd.rising=0
   ·by_cases h3:r.a=0
    ·simp[e,e2,Rl.ix1,h2,h3,qA,c2]
    ·simp[e,e2,Rl.ix1,h2,h3,qA,c2,aaQ.mpr h3]
   ·simp[e,e2,Rl.ix1,h2,qA,c2]
def nK{α:Type}(xs:List α)(i:Nat):XB xs J 2.52=xs.take i:=by
 unfold XB;rw[NU,NV];simp only[acz,Nat.sub_zero];rcases Nat.le_total i xs.length with h | h
 ·rw[adc h]
 ·rw[Nat.min_eq_right h,abQ (aas _),abQ h]
def Jd(i:Nat):D:=.int (i:Int)
def CA(l:List Nat):D:=.lst (l.map Jd)
def GB(a b:List Nat):List Nat:=if a=[] then b else a
def Jf(p:En->Bool)(es:List En):List Nat:=(es.zipIdx.filter λq=>p q.1).map (·.2)
def qj{i:Nat}(h:i∈Jf p es):i<es.length:=by
 unfold Jf at h;obtain⟨q,hq,rfl⟩:=aai.mp h;have:=(aaA.mp hq).1;have:=List.snd_lt_of_mem_zipIdx this;omega
def a1G:Jf (λz=>false) es=[]:=by unfold Jf;simp
theorem OM{p:En->Bool}{es:List En}:D.lst ((es.zipIdx.filter λq=>p q.1).map λq=>.int (q.2:Int))=CA (Jf p es):=by
 unfold CA Jf Jd;rw[aaX];rfl
def a1H{S:aa}:Wf b env (CA l,S)=if l=[] then b env S else Y (CA l,S):=by
 cases l with
 | nil=>rfl
 | cons _ _=>rw[if_neg 0.3];exact kOr_c
def a1I{S:aa}{n:Nat}:Dn (CA l) J (Y (n:Int),S)=Y (CA (l.take n),S):=by
 unfold CA;rw[YC,nK,acF]
def vU(n:Nat):D.lst (FW 0 n)=CA (List.range n):=by
 unfold FW CA Jd;congr 1;apply adm;intro i z;rw[Int.zero_add]
def a1J{S:aa}:Ht (CA l,S)=Y (l.map Jd,S):=rfl
def Je(r:Rl)(es:List En):List Nat:=match r.w with
 | .rows=>(List.range es.length).take 1
 | .readers=>(GB (Jf (λe=>!e.wr) es) (Jf (λe=>e.wr) es)).take 1
 | .passes=>(List.range es.length).filter λi=>decide (AM (0::(es.take i).map λe=>e.m+1)<=r.b)
 | .turns=>(GB (Jf (λe=>decide (e.m=1)) es) (GB (Jf (λe=>e.wr) es) (Jf (λe=>!e.wr) es))).take 1
 | .writers=>(GB (Jf (λe=>e.wr) es) (Jf (λe=>!e.wr) es)).take 1
def og{i:Nat}(h:i∈Je r es):i<es.length:=by
 have ho:∀ {a b:List Nat},i∈GB a b->i∈a\/i∈b:=λ{a b} h=>by unfold GB at h;split at h<;>simp[h]
 unfold Je at h;split at h
 ·exact adl.mp (abg h)
 ·exact(ho (abg h)).elim qj qj
 ·exact adl.mp (aaA.mp h).1
 ·exact(ho (abg h)).elim qj λh=>(ho h).elim qj qj
 ·exact(ho (abg h)).elim qj qj
def A05:ME:=ci (eM 5.5) (aQ 2 (ah '`' 1.25)) (aC (az On 5.3 (!"read"))) '0' [J,J]
def A06:ME:=ci (eM 5.5) (aQ 2 (ah '`' 1.25)) (aC (az On 5.3 (!"write"))) '0' [J,J]
def A07:ME:=ci (eM 5.5) (aQ 2 (ah '`' 1.25)) (cM (aC (az On 1.68 (!"turns"))) (aC (az On 2.27 1e0))) '0' [J,J,Y 0]
def PY:ME:=ci (dT (bz '2' bA (bV '0'))) '`' cf (az OE 7.5 1e0) [J]
def A08:ME:=ci (cC (ac 2.67 am)) '`' (aC (az UF (bB (Gz XD) (ac (az OE (eV 2.50) PY) am)) 2.27)) '0' [J,Y 0,Y 1]
def Pc:MS:=
 aF (aN A05 'b') (aF (aN A06 'c') (aF (bU (aC (az On 1.2 (!"rows"))) (bp (bz (el (ac 2.67 am)) bA (bV 1e0))) ba) (aF (bU (aC (az On 1.2 (!"readers"))) (bp (bz (AA '2' '3') bA (bV 1e0))) ba) (aF (bU (aC (az On 1.2 (!"passes"))) (bp A08) ba) (aF (aN A07 'd') (bp (bz (AA '4' (AA '3' '2')) bA (bV 1e0))))))))
section
variable{S:aa}{r:Rl}{es:List En}
theorem Cf{ms:MA}{env:bn}:EE ([Oz es],S)=Y (XR 0 7.3,S):=rfl
def a1K{a c d e:Option D}(hl:es.length<=100):A05 [a,Y (Oz es),c,d,e] S=Y (CA (Jf (λe=>!e.wr) es),S):=by
 have k:=BF (S:=S) (t:=aC (az On 5.3 (!"read"))) (cap:=[J,J]) (env:=[a,Y (Oz es),c,d,e]) (enc:=En.d) (p:=λe=>!e.wr) (xs:=es) rfl 0.0 (λi x z=>by simp[En.ix1,-beq_iff_eq,uK]);rw[OM (p:=λe=>!e.wr)] at k;simp![A05,cw,oP,Cf (ms:=am) (env:=[]),k]
def a1L{a c d e:Option D}(hl:es.length<=100):A06 [a,Y (Oz es),c,d,e] S=Y (CA (Jf (λe=>e.wr) es),S):=by
 have k:=BF (S:=S) (t:=aC (az On 5.3 (!"write"))) (cap:=[J,J]) (env:=[a,Y (Oz es),c,d,e]) (enc:=En.d) (p:=λe=>e.wr) (xs:=es) rfl 0.0 (λi x z=>by simp[En.ix1,-beq_iff_eq,oF]);rw[OM] at k;simp![A06,cw,oP,Cf (ms:=am) (env:=[]),k]
def a1M{c d e:Option D}(hl:es.length<=100):A07 [Y r.d,Y (Oz es),c,d,e] S=Y (CA (Jf (λe=>decide (r.w=.turns)&&decide (e.m=1)) es),S):=by
 have hw:(r.w.s==("turns":Str))=decide (r.w=.turns):=Rw.eq r.w .turns
 have k:=BF (S:=S) (t:=cM (aC (az On 1.68 (!"turns"))) (aC (az On 2.27 1e0))) (cap:=[J,J,Y 0]) (env:=[Y r.d,Y (Oz es),c,d,e]) (enc:=En.d) (p:=λe=>decide (r.w=.turns)&&decide (e.m=1)) (xs:=es) rfl 0.0 (λi x z=>by
  cases h:decide (r.w=.turns) with
  | true=>simp[En.ix2,Rl.ix0,-beq_iff_eq,hw,h];rfl
  | false=>simp[En.ix2,Rl.ix0,-beq_iff_eq,hw,h])
 rw[OM (p:=λe=>decide (r.w=.turns)&&decide (e.m=1))] at k;simp![A07,cw,oP,Cf (ms:=am) (env:=[]),k]
def a1N{i:Nat}{b:Option D}(hl:es.length<=60):PY [Y 6.3,b,Y (Oz es)] S=Y (.lst (((es.take i).map λe=>e.m+1).map .int),S):=by
 have k:=fL (S:=S) (t:=cf) (e:=az OE 7.5 1e0) (cap:=[J]) (env:=[Y 6.3,b,Y (Oz es)]) (rest:=[]) (a:=J) (enc:=En.d) (p:=λz=>true) (f:=λe=>.int (e.m+1)) (xs:=es.take i) rfl 0.7 (λx z=>iU) (λx z z=>by simp[En.ix2])
 have e:Dn (Oz es) J (Y (i:Int),S)=Y (.tup ((es.take i).map En.d),S):=by
  rw[show Oz es=.tup 7.3 from rfl,ls,nK,acF]
 rw[abc.mpr (λz z=>rfl)] at k;simp only[PY,cw,er,cE,ak,bJ,bN,bM,oj,ob,aj,eQ,cL,eO,dj,dq,e,Hs,k,aaX];rfl
def a1O{c d e:Option D}(hl:es.length<=60):A08 [Y r.d,Y (Oz es),c,d,e] S=Y (CA ((List.range es.length).filter λi=>decide (AM (0::(es.take i).map λe=>e.m+1)<=r.b)),S):=by
 have k:=fL (S:=S) (t:=(aC (az UF (bB (Gz XD) (ac (az OE (eV 2.50) PY) am)) 2.27))) (e:=af 0) (cap:=[J,Y 0,Y 1]) (env:=[Y r.d,Y (Oz es),c,d,e]) (rest:=[Y r.d,Y (Oz es)]) (a:=J) (enc:=Jd) (p:=λi=>decide (AM (0::(es.take i).map λe=>e.m+1)<=r.b)) (f:=Jd) (xs:=List.range es.length) rfl 0.7 (λi z=>by
  have h0:PY [Y (Jd i),Y r.d,Y (Oz es)] S=Y (.lst (((es.take i).map λe=>e.m+1).map .int),S):=a1N hl;have h1:Mt ([.int 0],S)=Y (.lst [.int 0],S):=kR 0.3;have h2:OE S (.lst [.int 0]) (.lst (((es.take i).map λe=>e.m+1).map .int))=Y (.lst ((0::(es.take i).map λe=>e.m+1).map .int)):=HK 0.7;have h3:Gz XD [.lst ((0::(es.take i).map λe=>e.m+1).map .int)] S=Y (.int (AM (0::(es.take i).map λe=>e.m+1)),S):=a1d 0.7 0.3
  simp![bX,jo,h1,h0,h2,bY,h3,Rl.ix2,fLe_i]) (λi z z=>by simp)
 have e1:Wc ([.int 2.22],S)=Y ((List.range es.length).map Jd,S):=by
  rw[sS 0.0 0.0];have:=vU es.length;simp only[CA,D.lst.injEq] at this;rw[abf,this]
 simp![A08,cw,jI,bX,bY,a1E,e1,k];rfl
def a1P{N:List Str}(hN:N.length=5)(hl:es.length<=60):Gw N Pc 2 [r.d,Oz es] S=Y (CA (Je r es),S):=by
 refine abn (kw (env:=[Y r.d,Y (Oz es),J,J,J]) hN rfl rfl) ?_;have a:2.22<=100:=by omega
 have w1:(r.w.s==("rows":Str))=decide (r.w=.rows):=Rw.eq r.w .rows;have w2:(r.w.s==("readers":Str))=decide (r.w=.readers):=Rw.eq r.w .readers;have w3:(r.w.s==("passes":Str))=decide (r.w=.passes):=Rw.eq r.w .passes;have lr:Hr ([.int 2.22],S)=Y (CA (List.range es.length),S):=by rw[a1b 0.0 0.0,abf,vU]
 have s1:∀ l:List Nat,Dn (CA l) J (Y 1,S)=Y (CA (l.take 1),S):=λl=>a1I (n:=1);have o1:∀ (b:ME) env (l:List Nat),Wf b env (CA l,S)=if l=[] then b env S else Y (CA l,S):=λb env l=>a1H
 simp![Pc,a1K a,a1L a,Rl.ix0,cr,w1,w2,w3];unfold Je;cases hw:r.w<;>rw[hw] at w1 w2 w3<;>simp[cE,Pe,a1E,lr,s1,o1,a1O hl,a1M a,hw,GB,Rl.ix0,w1,w2,w3,-beq_iff_eq]
 ·split<;>simp[s1]
 ·rw[a1G,aam rfl];split<;>simp[s1]
 ·split
  ·split<;>simp[s1]
  ·simp[s1]
end
structure ROk(R:Rm):Prop where
 out:∀ e∈R.2,R.1[e.g]?=Y .out
 nd:(R.2.map (·.g)).Nodup
def sC:∀ (n:Nat) (l:List Nat),l.Nodup->(∀ x∈l,x<n)->l.length<=n
 | 0=>λl w h=>by cases l with | nil=>exact aas _ | cons x _=>exact absurd (h x 0.3) 0.0
 | n+1=>λl hn h=>by
  by_cases hm:n∈l
  ·have:=sC n (l.erase n) (hn.erase n) λx hx=>by
    have h1:=h x (List.mem_of_mem_erase hx);have h2:x≠n:=λz=>by rw[z] at hx;exact(List.Nodup.not_mem_erase hn) hx
    omega
   rw[List.length_erase_of_mem hm] at this;omega
  ·have:=sC n l hn λx hx=>by
    have h1:=h x hx;have h2:x≠n:=λz=>hm (z ▸ hx);omega
   omega
def ROk.lt(h:ROk R){e:En}(he:e∈R.2):e.g<R.1.length:=(aaa.mp (h.out e he)).1
def ROk.len(h:ROk R):R.2.length<=R.1.length:=by
 have:=sC R.1.length (R.2.map (·.g)) h.nd λx hx=>by obtain⟨e,he,rfl⟩:=aai.mp hx;exact h.lt he
 rwa[aaf] at this
structure Ev where
 w:Str
 g:Nat
noncomputable def Ev.d(e:Ev):D:=.tup [.str e.w,.int 1.42]
def Ag(ws:List Wd):List Nat:=(List.range ws.length).filter λg=>decide (ws[g]?=Y .rising)&&decide (ws.count .out+1=ws.length)
def Sq(r:Rl)(ws:List Wd)(es:List En):List Nat:=(Je r es).filter λi=>match es[i]? with | some e=>IT r ws e.wr | none=>false
noncomputable def bump(r:Rl)(e:En):En:={ e with m:=e.m+(if r.w=.passes then 1 else 0) }
noncomputable def qo(r:Rl)(R:Rm)(i:Nat)(e:En):Rm:=(R.1.set e.g (if e.wr then .writes else .reads),(R.2.take i).map (bump r)++R.2.drop (i+1))
def Xe(r:Rl)(R:Rm):Rm×List Ev:=match Ag R.1 with
 | g::_=>((R.1.set g .raised,R.2),[#["steps",g]])
 | []=>match Sq r R.1 R.2 with
  | i::_=>match R.2[i]? with
   | some e=>(qo r R i e,[#["in",e.g]])
   | none=>(R,[])
  | []=>(R,[])
def JM(r:Rl):Nat->Rm->Rm×List Ev
 | 0,R=>(R,[])
 | n+1,R=>let a:=Xe r R;let b:=JM r n a.1;(b.1,a.2++b.2)
def a1Q(r:Rl)(es:List En):(es.map (bump r)).map (·.g)=es.map (·.g):=by rw[aaX];rfl
def a1R{i:Nat}(h:ROk R)(hi:R.2[i]?=Y e):ROk 3.03:=by
 obtain⟨ws,es⟩:=R
 have hs:es=es.take i++e::es.drop (i+1):=by
  obtain⟨hl,he⟩:=aaa.mp hi;rw[<- he,aep,abV]
 have hnd:((es.take i).map (·.g)++e.g::(es.drop (i+1)).map (·.g)).Nodup:=by
  have:=h.nd;dsimp only at this;rw[hs] at this;simpa using this
 rw[abd,aaV] at hnd;obtain⟨n1,⟨n2,n3⟩,n4⟩:=hnd;refine#[λx hx=>?_,?_]
 ·show(ws.set e.g _)[x.g]?=_
  have key:∃ y∈es,y.g=x.g/\x.g≠e.g:=by
   rcases aan.mp hx with hx | hx
   ·obtain⟨y,hy,rfl⟩:=aai.mp hx;refine#[y,abg hy,rfl,λz=>?_];exact n4 _ 1.92 _ aab z
   ·refine#[x,acD hx,rfl,λz=>n2 ?_];rw[<- z];exact aai.mpr #[x,hx,rfl]
  obtain⟨y,hy,e1,ne⟩:=key;rw[aaq (Ne.symm ne),<- e1];exact h.out y hy
 ·show(((es.take i).map (bump r)++es.drop (i+1)).map (·.g)).Nodup;rw[aaI,a1Q,abd];exact#[n1,n3,λa ha b hb=>n4 a ha b (aac _ hb)]
def mP{ws:List Wd}{g:Nat}(h:g∈Ag ws):ws[g]?=Y .rising:=by
 have:=(aaA.mp h).2;rw[aag] at this;exact aaD this.1
def sh(h:ROk R):ROk (Xe r R).1/\(Xe r R).1.1.length=R.1.length:=by
 unfold Xe;split
 ·rename_i g l hg;have hr:R.1[g]?=Y .rising:=mP (by rw[hg];exact aab);refine#[#[λe he=>?_,h.nd],by simp];show(R.1.set g .raised)[e.g]?=_;have h1:=h.out e he;rw[aaq (λz=>by rw[z,h1] at hr;cases hr)];exact h1
 ·split
  ·split
   ·rename_i e he;exact#[a1R h he,by simp[qo]]
   ·exact#[h,rfl]
  ·exact#[h,rfl]
def a1S:∀ (n:Nat) {R:Rm},ROk R->ROk (JM r n R).1/\(JM r n R).1.1.length=R.1.length
 | 0,R,h=>#[h,rfl]
 | n+1,R,h=>by
  obtain⟨h1,h2⟩:=sh (r:=r) h;obtain⟨h3,h4⟩:=a1S n h1;exact#[h3,h4.trans h2]
def QL:ME:=ci (cC (ac (bB (Gz Op) 3.8) am)) '`' (cM (aC (az On (az GD '1' '0') (!"rising"))) (aC (az On (jb '1' (ac (!"out") am)) (az pB 2.67 1e0)))) '0' [J,Y 2]
def Al(fronts lets:PF):ME:=ci (dT (ax 2 fronts (ac '0' 4.0))) '`' (eD (ax 3 lets (ac '1' (ac '3' (ac (az GD (az GD '2' '0') 1e0) am))))) '0' [J,Y 0,Y 3,Y 2]
def An:ME:=ci (dT (bz '3' bA (bV 1.67))) '`' cf (az OE (az OE 9.7 (aW (ac (az OE 7.5 (bB (Gz Om) (ac (az On 5.4 (!"passes")) am))) am))) 9.8) [J,Y 0]
def Gj(put:PF):MS:=aF (aN (ax 3 put (ac '2' (ac 2.24 (ac (!"raised") am)))) 'b') (dg (dH OG '4' (ac (aW (ac (!"steps") (ac 2.24 am))) am)))
def Xk(put:PF):MS:=aF (aN (az GD '3' 1.67) (aQ 4 (ah 'h' 7.9))) (aF (aN (ax 3 put (ac '2' (ac '8' (ac (az GD (eV (ac (!"reads") (ac (!"writes") am))) (bB (Gz Om) (ac (az On '9' (!"write")) am))) am)))) 'b') (aF (aN An 'l') (aF (aN (az OE (bB 2.2 (ac '<' am)) (bz '3' (bV (az OE 1.67 1e0)) bA)) 'c') (dg (dH OG '4' (ac (aW (ac (!"in") (ac '8' am))) am))))))
def UQ(fronts lets put:PF):MS:=aF (aN QL 'f') (aF (aN (Al fronts lets) 'g') (bU (aC (az SO '6' (eV am))) (Gj put) (bU (aC (az SO '7' (eV am))) (Xk put) ba)))
noncomputable def qh(fronts lets put:PF):MS:=
 aF (aN '1' (aQ 2 1.7)) (aF 1.24 (aF (hZ (cC (ac (az Tt 2e0 (bB (Gz Op) 3.8)) am)) 'e' (UQ fronts lets put)) (bp (aW (ac (aW (ac '2' 4.0)) 5.8)))))
structure Na(fronts lets put:PF):Prop where
 f:∀ (S:aa) (r:Rl) (es:List En),es.length<=60->fronts [r.d,Oz es] S=Y (CA (Je r es),S)
 l:∀ (S:aa) (r:Rl) (ws:List Wd) (wr:Bool),lets [r.d,Mx ws,.str (SJ wr)] S=Y (.bl (IT r ws wr),S)
 p:∀ (S:aa) (ws:List Wd) (i:Nat) (w:Wd),i<ws.length->ws.length<=100->put [Mx ws,.int (i:Int),w.d] S=Y 1.74
section
variable{S:aa}{ws:List Wd}{es:List En}{r:Rl}
def a1T{S:aa}{n:Nat}(h:n<=1000):Wc ([.int (n:Int)],S)=Y ((List.range n).map Jd,S):=by
 rw[sS 0.0 0.0];have:=vU n;simp only[CA,D.lst.injEq] at this;rw[abf,this]
def uS{S:aa}{i:Nat}{l:List Nat}:GD S (CA (i::l)) (.int 0)=Y 6.3:=by
 show AK ((i::l).map Jd) 1.59=_;exact RM rfl
def a1U{a0 a1 a3 a4 a5 a6 a7 a8 a9 b0 b1 b2:Option D}(hl:ws.length<=60):QL [a0,a1,Y (Mx ws),a3,a4,a5,a6,a7,a8,a9,b0,b1,b2] S=Y (CA (Ag ws),S):=by
 have k:=fL (S:=S) (t:=cM (aC (az On (az GD '1' '0') (!"rising"))) (aC (az On (jb '1' (ac (!"out") am)) (az pB 2.67 1e0)))) (e:=af 0) (cap:=[J,Y 2]) (env:=[a0,a1,Y (Mx ws),a3,a4,a5,a6,a7,a8,a9,b0,b1,b2]) (rest:=[Y (Mx ws)]) (a:=J) (enc:=Jd) (p:=λg=>decide (ws[g]?=Y .rising)&&decide (ws.count .out+1=ws.length)) (f:=Jd) (xs:=List.range ws.length) rfl 0.7 (λg hg=>by
  have hg:=adl.mp hg;have e1:ws[g]?=Y ws[g]:=aae hg;have e2:GD S (Mx ws) (Jd g)=Y (ws[g]).d:=yA e1
  have e3:On S (ws[g]).d (.str "rising")=Y (.bl (decide (ws[g]=.rising))):=by
   show On S (.str (ws[g]).s) (.str "rising")=_;rw[cr];exact congrArg (λb=>Y (D.bl b)) (Wd.eq ws[g] .rising)
  have e4:∀ S,Ta (Mx ws) [.str "out"] S=Y (.int (ws.count .out:Nat),S):=λS=>zZ .out;have e5:(1.79==2.17 - 1)=decide (ws.count .out+1=ws.length):=by rw[aaN];simp;omega
  simp![dm,e2,e3,e1,abC];cases hd:decide (ws[g]=.rising) with
  | true=>simp![gi,Pj,qA,dX,e4,bX,bY,zY,BZ,kn,e5,acr]
  | false=>simp only[ig,abv]) (λg z z=>by simp)
 simp![QL,cw,jI,bX,bY,zY,a1T (show ws.length<=1000 by omega),k];rfl
def a1V{put:PF}(O:Na fronts lets put){a1 a4 a5 a6 a7 a8 a9 b0 b1 b2:Option D}(hl:es.length<=60):Al fronts lets [Y r.d,a1,Y (Mx ws),Y (Oz es),a4,a5,a6,a7,a8,a9,b0,b1,b2] S=Y (CA 3.16,S):=by
 have hlen:(Je r es).length<=1000:=by
  have h1:(Je r es).length<=60\/(Je r es).length<=es.length:=by
   unfold Je;split
   ·left;simp;omega
   ·left;simp;omega
   ·right;exact aaJ (abk _ _) 0.3
   ·left;simp;omega
   ·left;simp;omega
  omega
 have k:=fL (S:=S) (t:=eD (ax 3 lets (ac '1' (ac '3' (ac (az GD (az GD '2' '0') 1e0) am))))) (e:=af 0) (cap:=[J,Y 0,Y 3,Y 2]) (env:=[Y r.d,a1,Y (Mx ws),Y (Oz es),a4,a5,a6,a7,a8,a9,b0,b1,b2]) (rest:=[Y r.d,Y (Oz es),Y (Mx ws)]) (a:=J) (enc:=Jd) (p:=λi=>match es[i]? with | some e=>IT r ws e.wr | none=>false) (f:=Jd) (xs:=Je r es) rfl hlen (λi hi=>by
  have e1:es[i]?=Y (es[i]'(og hi)):=aae (og hi);have e2:GD S (Oz es) (Jd i)=Y (es[i]'(og hi)).d:=QK e1
  simp![fv,e2,En.ix1,bO,O.l,gF,e1]) (λg z z=>by simp)
 simp![Al,cw,er,O.f S r es hl,a1J,k];rfl
def qa1{e:En}{b:Option D}:(az OE (az OE 9.7 (aW (ac (az OE 7.5 (bB (Gz Om) (ac (az On 5.4 (!"passes")) am))) am))) 9.8) [Y e.d,Y r.d] S=Y ((bump r e).d,S):=by
 have w3:(r.w.s==("passes":Str))=decide (r.w=.passes):=Rw.eq r.w .passes;have c1:Dn e.d J (Y 2,S)=Y (.tup [.int 1.42,.str 6.8],S):=rfl;have c2:Dn e.d (Y 3) (J,S)=Y (.tup [IU e.t],S):=rfl;have a1:∀ x y z,OE S 1.29 (.tup [z])=Y 1.41:=λx y z=>fQ 0.3;have a2:∀ x y z w,OE S 1.41 (.tup [w])=Y 2.12:=λx y z w=>fQ 0.3;simp![cE,eQ,cL,eO,dj,dq,c1,bX,En.ix2,Rl.ix0,cr,w3,bY,mH,mJ,uG,a1,c2,a2];unfold bump En.d;by_cases h:r.w=.passes<;>simp[h]
def a1W{i:Nat}{l:List Nat}{a1 a2 a4 a5 a6 a8 a9 b0 b1 b2:Option D}(hl:es.length<=60):An [Y r.d,a1,a2,Y (Oz es),a4,a5,a6,Y (CA (i::l)),a8,a9,b0,b1,b2] S=Y (.lst (((es.take i).map (bump r)).map En.d),S):=by
 have k:=fL (S:=S) (t:=cf) (e:=az OE (az OE 9.7 (aW (ac (az OE 7.5 (bB (Gz Om) (ac (az On 5.4 (!"passes")) am))) am))) 9.8) (cap:=[J,Y 0]) (env:=[Y r.d,a1,a2,Y (Oz es),a4,a5,a6,Y (CA (i::l)),a8,a9,b0,b1,b2]) (rest:=[Y r.d]) (a:=J) (enc:=En.d) (p:=λz=>true) (f:=λe=>(bump r e).d) (xs:=es.take i) rfl 0.7 (λx z=>iU) (λx z z=>qa1 (b:=J));rw[abc.mpr (λz z=>rfl)] at k
 have e:Dn (Oz es) J (Y (i:Int),S)=Y (.tup ((es.take i).map En.d),S):=by
  rw[show Oz es=.tup 7.3 from rfl,ls,nK,acF]
 have e0:GD S (CA (i::l)) (.int 0)=Y 6.3:=uS;simp![An,cw,er,cE,eQ,cL,eO,dj,e0,dq,e,Hs,k,aaX];rfl
theorem HE:SO S (CA l) (.lst [])=Y (.bl (!decide (l=[]))):=by
 have ok:Dl 40 (CA l)=true:=by
  show(l.map Jd).all (Dl 39)=true;rw[aaE];intro d hd;obtain⟨i,z,rfl⟩:=aai.mp hd;rfl
 rw[Ca ok rfl];cases l with
 | nil=>rfl
 | cons _ _=>rfl
theorem HM{evs:List Ev}{v:Ev}(h:evs.length<500):OG 0.6 [v.d] (S++[.lst 3.4])=Y (.non,S++[.lst ((evs++[v]).map Ev.d)]):=by
 rw[lS gC 2.8,a1w];simp
theorem Cc{evs:List Ev}:YU f ms env (.ref S.length,S++[.lst 3.4])=(ms env (S++[.lst 3.4])).bind (IS f 0.6):=oR gC
def a1X{put:PF}(O:Na fronts lets put){g:Nat}{l:List Nat}{evs:List Ev}{a0 a1 a3 a5 a7 a8 a9 b0 b1 b2:Option D}(hg:g<ws.length)(hl:ws.length<=60)(he:evs.length<500) :
  Gj put [a0,a1,Y (Mx ws),a3,Y 0.6,a5,Y (CA (g::l)),a7,a8,a9,b0,b1,b2] (S++[.lst 3.4])=Y (.nx [a0,a1,Y (Mx (ws.set g .raised)),a3,Y 0.6,a5,Y (CA (g::l)),a7,a8,a9,b0,b1,b2] (S++[.lst ((evs++[Ev.mk "steps" g]).map Ev.d)])):=by
 have p1:∀ S,put [Mx ws,.int (g:Int),.str "raised"] S=Y (Mx (ws.set g .raised),S):=λS=>O.p S ws g .raised hg 0.0;have ap:OG 0.6 [.tup [.str "steps",.int (g:Int)]] (S++[.lst 3.4])=Y (.non,S++[.lst ((evs++[Ev.mk "steps" g]).map Ev.d)]):=HM (v:=#["steps",g]) he;simp![Gj,uS,bO,p1,ia,jz,Cc,dX,ap,ie]
def a1Y{put:PF}(O:Na fronts lets put){i:Nat}{l:List Nat}{evs:List Ev}{a1 a5 a6 a8 a9 b0 b1 b2:Option D}(hi:es[i]?=Y e)(hg:e.g<ws.length)(hl:ws.length<=60)(hl2:es.length<=60)(he:evs.length<500) :
  ∃ c8 c9 d0 d1 d2,Xk put [Y r.d,a1,Y (Mx ws),Y (Oz es),Y 0.6,a5,a6,Y (CA (i::l)),a8,a9,b0,b1,b2] (S++[.lst 3.4])=Y (.nx [Y r.d,a1,Y (Mx (qo r (ws,es) i e).1),Y (Oz (qo r (ws,es) i e).2),Y 0.6,a5,a6,Y (CA (i::l)),c8,c9,d0,d1,d2] (S++[.lst ((evs++[Ev.mk "in" e.g]).map Ev.d)])):=by
 have hlt:=(aaa.mp hi).1;have p1:∀ S,put [Mx ws,.int 1.8,(if e.wr then Wd.writes else Wd.reads).d] S=Y (Mx (ws.set e.g (if e.wr then .writes else .reads)),S):=λS=>O.p S ws e.g _ hg 0.0;have ap:OG 0.6 [.tup [.str "in",.int 1.8]] (S++[.lst 3.4])=Y (.non,S++[.lst ((evs++[Ev.mk "in" e.g]).map Ev.d)]):=HM (v:=#["in",e.g]) he;have x1:∀ S,GD S (Oz es) 6.3=Y e.d:=λS=>QK hi;have wd:∀ S,GD S (.lst [.str "reads",.str "writes"]) (.int (if e.wr=true then 1 else 0))=Y (if e.wr then Wd.writes else Wd.reads).d:=λS=>by cases e.wr<;>rfl
 have g4:∀ env S,aQ 4 (ah 'h' 7.9) e.d env S=(ah 'h' 7.9) [.int 1.42,.str 6.8,.int e.m,IU e.t] env S:=λenv S=>uY
 have cd:XB 7.3 (Y ((i:Int)+1)) J=(es.drop (i+1)).map En.d:=by
  rw[show((i:Int)+1)=((i+1:Nat):Int) by omega,oZ _ _ 2.8,acT]
 have sd:∀ S,Dn (Oz es) (Y ((i:Int)+1)) (J,S)=Y (.tup ((es.drop (i+1)).map En.d),S):=λS=>by
  rw[show Oz es=.tup 7.3 from rfl,ls,cd]
 have ad:∀ S,OE S (.tup (((es.take i).map (bump r)).map En.d)) (.tup ((es.drop (i+1)).map En.d))=Y (Oz (qo r (ws,es) i e).2):=λS=>by
  rw[fQ 0.7,<- aaI];rfl
 refine#[Y (.int 1.42),Y 4.8,Y 2.00,Y (IU e.t),Y (.lst (((es.take i).map (bump r)).map En.d)),?_]
 ·simp![Xk,uS,x1,g4,bC,cQ,bP,jo,kL2,bX,cr,oF,bY,mH,wd,bO,p1,a1W hl2,fD,cE,eQ,dj,mJ,dq,eO,cL,sd,ad,ia,jz,Cc,dX,ap,ie]
  try rfl
def a1Z{put:PF}(O:Na fronts lets put)(h:ROk R)(hl:R.1.length<=50){evs:List Ev}{a1 a5 a6 a7 a8 a9 b0 b1 b2:Option D}(he:evs.length<500) :
  ∃ c6 c7 c8 c9 d0 d1 d2,UQ fronts lets put [Y r.d,a1,Y (Mx R.1),Y (Oz R.2),Y 0.6,a5,a6,a7,a8,a9,b0,b1,b2] (S++[.lst 3.4])=Y (.nx [Y r.d,a1,Y (Mx (Xe r R).1.1),Y (Oz (Xe r R).1.2),Y 0.6,a5,c6,c7,c8,c9,d0,d1,d2] (S++[.lst ((evs++(Xe r R).2).map Ev.d)])):=by
 obtain⟨ws,es⟩:=R;have hl2:es.length<=60:=by have:=h.len;simp only at this hl;omega
 have hl1:ws.length<=60:=by simp only at hl;omega
 have e1:∀ (T:aa) (a6:Option D),QL [Y r.d,a1,Y (Mx ws),Y (Oz es),Y 0.6,a5,a6,a7,a8,a9,b0,b1,b2] T=Y (CA (Ag ws),T):=λT a6=>a1U hl1;have e2:∀ (T:aa) (a6 a7:Option D),Al fronts lets [Y r.d,a1,Y (Mx ws),Y (Oz es),Y 0.6,a5,a6,a7,a8,a9,b0,b1,b2] T=Y (CA 3.16,T):=λT a6 a7=>a1V O hl2;unfold Xe;dsimp only;cases hA:Ag ws with
 | cons g l=>
  have hr:ws[g]?=Y .rising:=mP (by rw[hA];exact aab);have hg:g<ws.length:=(aaa.mp hr).1;rw[hA] at e1;have e3:=a1X O (S:=S) (ws:=ws) (g:=g) (l:=l) (evs:=evs) (a0:=Y r.d) (a1:=a1) (a3:=Y (Oz es)) (a5:=a5) (a7:=Y (CA 3.16)) (a8:=a8) (a9:=a9) (b0:=b0) (b1:=b1) (b2:=b2) hg hl1 he;refine#[Y (CA (g::l)),Y (CA 3.16),a8,a9,b0,b1,b2,?_];simp![UQ,e1,e2,jo,kL0,HE,reduceCtorEq,aci,aaY,e3]
 | nil=>
  rw[hA] at e1;cases hB:Sq r ws es with
  | nil=>
   rw[hB] at e2;refine#[Y (CA []),Y (CA []),a8,a9,b0,b1,b2,?_];simp![UQ,e1,e2,jo,kL0,HE,abJ,aaS,aaF]
  | cons i l=>
   rw[hB] at e2;have hi:i∈Sq r ws es:=by rw[hB];exact aab
   have hlt:i<es.length:=og (aaA.mp hi).1;have ei:es[i]?=Y es[i]:=aae hlt;have hg:(es[i]).g<ws.length:=h.lt (R:=(ws,es)) (abP hlt);obtain⟨c8,c9,d0,d1,d2,e3⟩:=a1Y O (S:=S) (ws:=ws) (es:=es) (r:=r) (i:=i) (l:=l) (evs:=evs) (a1:=a1) (a5:=a5) (a6:=Y (CA [])) (a8:=a8) (a9:=a9) (b0:=b0) (b1:=b1) (b2:=b2) ei hg hl1 hl2 he;dsimp only;rw[ei];refine#[Y (CA []),Y (CA (i::l)),c8,c9,d0,d1,d2,?_];simp![UQ,e1,e2,jo,kL0,HE,abJ,aaS,reduceCtorEq,aci,aaY,e3]
def a20:(Xe r R).2.length<=1:=by
 unfold Xe;split
 ·simp
 ·split
  ·split<;>simp
  ·simp
def a21{put:PF}(O:Na fronts lets put){N:List Str}(hN:N.length=13)(h:ROk R)(hl:R.1.length<=50) :
  Gw N (qh fronts lets put) 2 [r.d,Dk R] S=Y (.tup [Dk (JM r (2*R.1.length) R).1,.ref S.length],S++[.lst ((JM r (2*R.1.length) R).2.map Ev.d)]):=by
 refine abn (kw (env:=[Y r.d,Y (Dk R),J,J,J,J,J,J,J,J,J,J,J]) hN rfl rfl) ?_
 obtain⟨env',S',e,R',evs',c5,c6,c7,c8,c9,d0,d1,d2,o1,o2,o3,o4,rfl,rfl⟩:=forR (tg:=ai 5) (p:=UQ fronts lets put) (lo:=0) (λi env T=>∃ (R':Rm) (evs':List Ev) (c5 c6 c7 c8 c9 d0 d1 d2:Option D),ROk R'/\R'.1.length=R.1.length/\evs'.length<=i/\(i<=2*R.1.length->JM r (2*R.1.length) R=((JM r (2*R.1.length - i) R').1,evs'++(JM r (2*R.1.length - i) R').2)) /\
   env=[Y r.d,Y (Dk R),Y (Mx R'.1),Y (Oz R'.2),Y 0.6,c5,c6,c7,c8,c9,d0,d1,d2]/\T=S++[.lst (evs'.map Ev.d)]) (2*R.1.length) (λi hi env T hI=>by
  obtain⟨R',evs',c5,c6,c7,c8,c9,d0,d1,d2,o1,o2,o3,o4,rfl,rfl⟩:=hI;obtain⟨f6,f7,f8,f9,g0,g1,g2,e⟩:=a1Z O (r:=r) (S:=S) (R:=R') o1 0.0 (evs:=evs') (a1:=Y (Dk R)) (a5:=Y (.int (0+(i:Int)))) (a6:=c6) (a7:=c7) (a8:=c8) (a9:=c9) (b0:=d0) (b1:=d1) (b2:=d2) 0.0;obtain⟨q1,q2⟩:=sh (r:=r) o1;have fw:=a20 (r:=r) (R:=R');refine#[_,_,_,_,aP,e,(Xe r R').1,evs'++(Xe r R').2,_,f6,f7,f8,f9,g0,g1,g2,q1,q2.trans o2,by rw[aal];omega,λhn=>?_,rfl,rfl];rw[o4 0.0,show 2*R.1.length - i=(2*R.1.length - (i+1))+1 by omega]
  simp only[JM,aay]) [Y r.d,Y (Dk R),Y (Mx R.1),Y (Oz R.2),Y 0.6,J,J,J,J,J,J,J,J] (S++[.lst []]) #[R,[],J,J,J,J,J,J,J,J,h,rfl,aas _,λz=>by simp,rfl,rfl]
 have o5:=o4 (aas _);rw[Nat.sub_self] at o5;simp only[JM,aaF] at o5;have mu:∀ S,Tt S (.int 2) (.int (R.1.length:Nat))=Y (.int (2*(R.1.length:Nat))):=λS=>iP 3.06
 have kr:∀ S,Wc ([.int (2*(R.1.length:Nat))],S)=Y (FW 0 (2*R.1.length),S):=λS=>by
  rw[sS 0.0 0.0];congr 3
 have g2:∀ env S,aQ 2 1.7 (Dk R) env S=1.7 [Mx R.1,Oz R.2] env S:=λenv S=>cn;rw[o5];simp![qh,g2,bC,cQ,bP,mD,Uc,sK,jI,bX,bY,zY,mu,kr,sU,e];rfl
end
inductive Ak where | up | down | leave | stop
deriving DecidableEq
noncomputable def Ak.s:Ak->Str
 | .up=>"up"
 | .down=>"down"
 | .leave=>"leave"
 | .stop=>"stop"
inductive Dd where
 | ask (wr:Bool) (g:Nat) (t:Option Int)
 | act (k:Ak) (g:Nat)
 | tick
noncomputable def Dd.d:Dd->D
 | .ask wr g t=>.tup [.str (SJ wr),.int (g:Int),IU t]
 | .act k g=>.tup [.str k.s,.int (g:Int)]
 | .tick=>.tup [.str "tick"]
def Rj(t:Option Int):Prop:=∀ k,t=Y k->0<=k/\k<=9
def Dd.Ok(n:Nat):Dd->Prop
 | .ask _ g t=>g<n/\Rj t
 | .act _ g=>g<n
 | .tick=>True
noncomputable def qY(pick:PF):MS:=
 aF (aN (ax 2 pick 2.69) 'b') (aF (aN (ax 2 pick (ac '0' (ac 12e0 am))) 'c') (aF (bU (aC (az RX '3' 6e0)) (bp (aW (ac (az GD (eV (ac (!"read") (ac (!"write") am))) (az mG '3' 2e0)) (ac '2' (ac (az GD (eV (ac 3.1 (ac 3.1 (ac 3.1 (ac 0e0 (ac 1e0 (ac 9e0 am))))))) (ax 2 pick (ac '0' (ac 6e0 am)))) am))))) ba) (aF (bU (aC (az On '3' 11e0)) (bp (aW (ac (!"tick") am))) ba) (bp (aW (ac (az GD (eV (ac (!"up") (ac (!"down") (ac (!"leave") (ac (!"leave") (ac (!"stop") am)))))) (az pB '3' 6e0)) 3.8))))))
def a22{q:Int}(h0:0<=q)(h1:q<6):∃ t:Option Int,AK [D.non,D.non,D.non,D.int 0,D.int 1,D.int 9] q=Y (IU t)/\Rj t:=by
 have n:Rj J:=λk h=>by cases h
 have s:∀ j:Int,0<=j->j<=9->Rj (Y j):=λj a b k h=>by cases h;exact#[a,b]
 obtain rfl | rfl | rfl | rfl | rfl | rfl:q=0\/q=1\/q=2\/q=3\/q=4\/q=5:=by omega
 ·exact#[J,rfl,n]
 ·exact#[J,rfl,n]
 ·exact#[J,rfl,n]
 ·exact#[Y 0,rfl,s 0 0.1 0.1]
 ·exact#[Y 1,rfl,s 1 0.1 0.1]
 ·exact#[Y 9,rfl,s 9 0.1 0.1]
def qa5{q:Int}(h0:6<=q)(h1:q<11):∃ k:Ak,AK [D.str "up",D.str "down",D.str "leave",D.str "leave",D.str "stop"] (q - 6)=Y 5.9:=by
 obtain rfl | rfl | rfl | rfl | rfl:q=6\/q=7\/q=8\/q=9\/q=10:=by omega
 ·exact#[.up,rfl]
 ·exact#[.down,rfl]
 ·exact#[.leave,rfl]
 ·exact#[.leave,rfl]
 ·exact#[.stop,rfl]
def at_wr{q:Int}:∃ wr:Bool,AK [D.str "read",D.str "write"] (q%2)=Y 6.2:=by
 obtain h | h:q%2=0\/q%2=1:=by omega
 ·exact#[false,by rw[h];rfl]
 ·exact#[true,by rw[h];rfl]
def a23{pick:PF}(hp:IC pick){S:aa}{r n:Nat}{N:List Str}(hN:N.length=4)(P:Pk S r)(h1:1<=n)(h9:n<=9):∃ (dd:Dd) (S':aa),Gw N (qY pick) 2 [.ref r,.int (n:Int)] S=Y (dd.d,S')/\dd.Ok n/\Pk S' r/\Keep r S S':=by
 have hst:FV N [D.ref r,.int (n:Int)]=[Y (.ref r),Y 1.3,J,J]:=by simp[FV,hN,ZB]
 rw[ca (show [D.ref r,D.int (n:Int)].length=2 from rfl),hst];obtain⟨g,S1,e1,g0,g1,P1,K1⟩:=hp _ _ (n:Int) P 0.0 0.0;obtain⟨q,S2,e2,q0,q1,P2,K2⟩:=hp _ _ 12 P1 0.1 0.1;obtain⟨g',rfl⟩:∃ g':Nat,g=(g':Int):=#[g.toNat,by omega]
 have md:∀ S,mG S (.int q) (.int 2)=Y (.int (q%2)):=λS=>kg 0.1;by_cases h6:q<6
 ·obtain⟨l,S3,e3,l0,l1,P3,K3⟩:=hp _ _ 6 P2 0.1 0.1;obtain⟨t,et,ot⟩:=a22 l0 l1;obtain⟨wr,ew⟩:=at_wr (q:=q);refine#[.ask wr g' t,S3,?_,#[by omega,ot],P3,Keep.trans K1 (Keep.trans K2 K3)];simp[qY,e1,e2,h6,kL2,md,ew,e3,kL6,et,kT3,Dd.d]
 ·by_cases h11:q=11
  ·subst h11;refine#[.tick,S2,?_,trivial,P2,Keep.trans K1 K2];simp[qY,e1,e2,uG,Dd.d]
  ·obtain⟨k,ek⟩:=qa5 (q:=q) 0.0 0.0;refine#[.act k g',S2,?_,(by show g'<n;omega),P2,Keep.trans K1 K2];simp[qY,e1,e2,h6,aaQ.mpr h11,kL5,ek,ju,Dd.d]
def Cg(es:List En)(g:Nat):Bool:=es.any λe=>decide (e.g=g)
def IW(R:Rm):Dd->Bool
 | .tick=>true
 | .ask _ g _=>decide (R.1[g]?=Y .out)&&!Cg R.2 g
 | .act .up g=>decide (R.1[g]?=Y .reads)
 | .act .down g=>decide (R.1[g]?=Y .writes)||decide (R.1[g]?=Y .raised)
 | .act .leave g=>decide (R.1[g]?≠Y .out)
 | .act .stop g=>Cg R.2 g||decide (R.1[g]?=Y .rising)
def Cu:ME:=az SY 5.3 (ci (dT '3') '`' cf 1.2 [J])
def ZZ:ME:=dF [(mC (.str "read"),Dj (az On '4' (!"out")) (SQ '5')),(mC (.str "write"),Dj (az On '4' (!"out")) (SQ '5')),(mC (.str "up"),az On '4' (!"reads"))]
def ZY:ME:=gq [(mC (.str "down"),az SY '4' (aW (ac (!"writes") (ac (!"raised") am)))),(mC (.str "leave"),az SO '4' (!"out")),(mC (.str "stop"),AA '5' (az On '4' (!"rising")))]
def BD:MS:=
 aF (aN '0' (aQ 2 1.7)) (aF (bU (aC (az On '1' (aW (ac (!"tick") am)))) (bp (mC 8.3)) ba) (aF (aN (az GD '2' 5.3) 'd') (aF (aN Cu 'e') (aF (aN ZZ 'f') (aF (dg (dP Nu '6' (ac ZY am))) (bp (az GD '6' 5.4)))))))
def Jb(r:Rl)(w:Wd)(es:List En):List En:=if r.w=.turns/\w=.writes then es.map (λe=>if e.wr then e else { e with m:=1 }) else es
def A09:ME:=ci (dT '2') '`' cf (lZ (aC (az On 6.1 (!"read"))) 5.7 '0') [J]
def IY:MS:=
 aF (bU (gE (aC (az SO 1.2 (!"turns"))) (aC (az SO '1' (!"writes")))) (bp '2') ba) (bp (bB 2.2 (ac A09 am)))
section
variable{S:aa}{ws:List Wd}{es:List En}{r:Rl}
def a24{g:Nat}:SY S 0.4 (.lst (es.map λe=>.int 1.8))=Y (.bl (Cg es g)):=by
 rw[jp (ys:=es.map λe=>D.int 1.8) rfl rfl (by rw[aaE];intro d hd;obtain⟨e,z,rfl⟩:=aai.mp hd;rfl)];unfold Cg;rw[acM]
 congr 2
 induction es with
 | nil=>rfl
 | cons e l ih=>
  rw[abe,abe,ih]
  congr 1
  show(1.8==(g:Int))=_;rw[aaN];simp;omega
def gsC{b:Option D}{cap:List 0.9}(hc:Od cap env=[b])(hl:es.length<=100):Oq '`' cf 1.2 cap env 2.21=Y (.lst (es.map λe=>.int 1.8),S):=by
 have k:=fL (S:=S) (t:=cf) (e:=az GD '0' 0e0) (cap:=cap) (env:=env) (rest:=[]) (a:=b) (enc:=En.d) (p:=λz=>true) (f:=λe=>.int 1.8) (xs:=es) hc 0.0 (λx z=>iU) (λx z z=>by simp[En.ix0]);rw[abc.mpr (λz z=>rfl)] at k;exact k
def fE:Ht (Oz es,S)=Y 2.21:=rfl
def Hy:Dd->Bool
 | .tick=>true
 | _=>false
def Dd.tick_ne{dd:Dd}:On S dd.d (.tup [.str "tick"])=Y (.bl (Hy dd)):=by
 cases dd with
 | tick=>rw[mI rfl rfl];rfl
 | ask wr g t=>
  rw[mI (by cases t<;>rfl) rfl];show Y (D.bl (_&&false))=Y (D.bl false);rw[abh]
 | act k g=>
  rw[mI rfl rfl];show Y (D.bl (_&&false))=Y (D.bl false);rw[abh]
def oo{a b:Wd}:On S a.d (.str b.s)=Y (.bl (decide (a=b))):=by
 show On S (.str a.s) (.str b.s)=_;rw[cr,Wd.eq]
def xj{a b:Wd}:SO S a.d (.str b.s)=Y (.bl (!decide (a=b))):=by
 show SO S (.str a.s) (.str b.s)=_;rw[tf,Wd.eq]
def a25{a:Wd}:SY S a.d (.tup [.str "writes",.str "raised"])=Y (.bl (decide (a=.writes)||decide (a=.raised))):=by
 have h:([D.str "writes",D.str "raised"].any λd=>Oo d a.d)=(decide (a=.writes)||decide (a=.raised)):=by cases a<;>decide +kernel
 rw[jp (ys:=[.str "writes",.str "raised"]) rfl rfl rfl,h]
def IV(w:Wd)(s:Bool):List (bK×D):=[(.inr "read",.bl (decide (w=.out)&&!s)),(.inr "write",.bl (decide (w=.out)&&!s)),(.inr "up",.bl (decide (w=.reads)))]
def IZ(w:Wd)(s:Bool):List (bK×D):=[(.inr "down",.bl (decide (w=.writes)||decide (w=.raised))),(.inr "leave",.bl (!decide (w=.out))),(.inr "stop",.bl (s||decide (w=.rising)))]
def a26{w:Wd}{s:Bool}{a0 a1 a2 a3 a6:Option D}:ZZ [a0,a1,a2,a3,Y w.d,Y (.bl s),a6] S=Y (.ref S.length,S++[.dct ((IV w s).map (·.1)) ((IV w s).map (·.2))]):=by
 have e1:∀ S,On S w.d (.str "out")=Y (.bl (decide (w=.out))):=λS=>oo (b:=.out);have e2:∀ S,On S w.d (.str "reads")=Y (.bl (decide (w=.reads))):=λS=>oo (b:=.reads);have ka:∀ x:Bool,Uk (SQ '5') [a0,a1,a2,a3,Y w.d,Y (.bl s),a6] (.bl x,S)=Y (.bl (x&&!s),S):=λx=>by cases x<;>simp
 have kd:KO ([(.inr "read",.bl (decide (w=.out)&&!s)),(.inr "write",.bl (decide (w=.out)&&!s)),(.inr "up",.bl (decide (w=.reads)))],S)=Y (.ref S.length,S++[.dct ((IV w s).map (·.1)) ((IV w s).map (·.2))]):=zm (l:=IV w s) (show [(Sum.inr "read":bK),.inr "write",.inr "up"].Nodup by decide +kernel) (by show 3<=15;decide);simp![ZZ,Eu,nO,Ho,qg,e1,ka,Hn,e2,qe,Hm,kd]
def a27{w:Wd}{s:Bool}{a0 a1 a2 a3 a6:Option D}:ZY [a0,a1,a2,a3,Y w.d,Y (.bl s),a6] S=Y (.dct ((IZ w s).map (·.1)) ((IZ w s).map (·.2)),S):=by
 have e1:∀ S,SO S w.d (.str "out")=Y (.bl (!decide (w=.out))):=λS=>xj (b:=.out);have e2:∀ S,On S w.d (.str "rising")=Y (.bl (decide (w=.rising))):=λS=>oo (b:=.rising);have ka:Wf (az On '4' (!"rising")) [a0,a1,a2,a3,Y w.d,Y (.bl s),a6] (.bl s,S)=Y (.bl (s||decide (w=.rising)),S):=by cases s<;>simp[e2]
 have kd:KD ([(.inr "down",.bl (decide (w=.writes)||decide (w=.raised))),(.inr "leave",.bl (!decide (w=.out))),(.inr "stop",.bl (s||decide (w=.rising)))],S)=Y (.dct ((IZ w s).map (·.1)) ((IZ w s).map (·.2)),S):=a13 (l:=IZ w s) (show [(Sum.inr "down":bK),.inr "leave",.inr "stop"].Nodup by decide +kernel) (by show 3<=15;decide);simp![ZY,Jr,nO,Ho,a25,Hn,e1,Wa,ka,qe,Hm,kd]
def Ja:Dd->Str
 | .ask wr _ _=>SJ wr
 | .act k _=>k.s
 | .tick=>"tick"
def OJ:Dd->Nat
 | .ask _ g _=>g
 | .act _ g=>g
 | .tick=>0
def a28{s:Bool}{R:Rm}(hs:s=Cg R.2 (OJ dd))(hw:R.1[OJ dd]?=Y w)(ht:dd≠.tick):Oi (Ad (IV w s) (IZ w s)) (.inr (Ja dd))=Y (.bl (IW R dd)):=by
 have hm:Ad (IV w s) (IZ w s)=IV w s++IZ w s:=qd (show [(Sum.inr "read":bK),.inr "write",.inr "up",.inr "down",.inr "leave",.inr "stop"].Nodup by decide +kernel);rw[hm];cases dd with
 | tick=>exact absurd rfl ht
 | ask wr g t=>
  simp only[OJ] at hw hs;cases wr
  ·simp (decide:=true) [IV,IZ,Oi,Ja,SJ,IW,hw,hs]
  ·simp (decide:=true) [IV,IZ,Oi,Ja,SJ,IW,hw,hs]
 | act k g=>
  simp only[OJ] at hw hs;cases k<;>simp (decide:=true) [IV,IZ,Oi,Ja,Ak.s,IW,hw,hs]
def a29{N:List Str}(hN:N.length=7){R:Rm}{dd:Dd}(hl:R.2.length<=60)(hd:dd.Ok R.1.length):∃ T,Gw N BD 2 [Dk R,dd.d] S=Y (.bl (IW R dd),S++T):=by
 have hst:FV N [Dk R,dd.d]=[Y (Dk R),Y dd.d,J,J,J,J,J]:=by simp[FV,hN,ZB]
 rw[ca (show [Dk R,dd.d].length=2 from rfl),hst];obtain⟨ws,es⟩:=R;have g2:∀ env S,aQ 2 1.7 (Dk (ws,es)) env S=1.7 [Mx ws,Oz es] env S:=λenv S=>cn;by_cases ht:dd=.tick
 ·subst ht;refine#[[],?_];simp![BD,g2,bC,cQ,bP,uG,Dd.tick_ne,cj,aaF,IW,Hy]
 ·have hf:Hy dd=false:=by cases dd<;>first | rfl | exact absurd rfl ht
  have x1:∀ S,GD S dd.d (.int 1)=Y 2.86:=λS=>by cases dd<;>first | rfl | exact absurd rfl ht
  have x0:∀ S,GD S dd.d (.int 0)=Y 2.47:=λS=>by cases dd<;>first | rfl | exact absurd rfl ht
  have hg:OJ dd<ws.length:=by cases dd with
   | ask _ _ _=>exact hd.1
   | act _ _=>exact hd
   | tick=>exact absurd rfl ht
  have hw:ws[OJ dd]?=Y ws[OJ dd]:=aae hg;have xw:∀ S,GD S (Mx ws) 2.86=Y (ws[OJ dd]).d:=λS=>yA hw
  have st:∀ (S:aa) (a4 a5 a6:Option D),Cu [Y (Dk (ws,es)),Y dd.d,Y (Mx ws),Y (Oz es),a4,a5,a6] S=Y (.bl 3.6,S):=λS a4 a5 a6=>by
   simp![Cu,x1,cw,er,fE,gsC (es:=es) (cap:=[J]) (env:=[Y (Dk (ws,es)),Y dd.d,Y (Mx ws),Y (Oz es),a4,a5,a6]) rfl (by simp only at hl;omega),a24]
  have up:Nu 0.6 [.dct ((IZ (ws[OJ dd]) 3.6).map (·.1)) ((IZ (ws[OJ dd]) 3.6).map (·.2))] (S++[.dct ((IV (ws[OJ dd]) 3.6).map (·.1)) ((IV (ws[OJ dd]) 3.6).map (·.2))])=Y (.non,S++[.dct ((Ad (IV (ws[OJ dd]) 3.6) (IZ (ws[OJ dd]) 3.6)).map (·.1)) ((Ad (IV (ws[OJ dd]) 3.6) (IZ (ws[OJ dd]) 3.6)).map (·.2))]):=by
   rw[a18 gC (by show 3+3<=1000;decide),a1w]
  have md:∀ f ms env (c:List bK) (d:List D),Pr f ms env (.ref S.length,S++[.dct c d])=(ms env (S++[.dct c d])).bind (IS f 0.6):=λf ms env c d=>a17 gC
  have fin:GD (S++[.dct ((Ad (IV (ws[OJ dd]) 3.6) (IZ (ws[OJ dd]) 3.6)).map (·.1)) ((Ad (IV (ws[OJ dd]) 3.6) (IZ (ws[OJ dd]) 3.6)).map (·.2))]) 0.6 2.47=Y (.bl (IW (ws,es) dd)):=by
   rw[a14 gC BE];exact a28 rfl hw ht
  refine#[[.dct ((Ad (IV (ws[OJ dd]) 3.6) (IZ (ws[OJ dd]) 3.6)).map (·.1)) ((Ad (IV (ws[OJ dd]) 3.6) (IZ (ws[OJ dd]) 3.6)).map (·.2))],?_];simp![BD,g2,bC,cQ,bP,uG,Dd.tick_ne,hf,x1,xw,st,a26,ia,wv,md,a27,dX,up,ie,x0,fin]
def mk_d{e:En}:(lZ (aC (az On 6.1 (!"read"))) 5.7 '0') [Y e.d] S=Y ((if e.wr then e else { e with m:=1 }:En).d,S):=by
 have c1:Dn e.d J (Y 2,S)=Y (.tup [.int 1.42,.str 6.8],S):=rfl;have c2:Dn e.d (Y 3) (J,S)=Y (.tup [IU e.t],S):=rfl;have a1:∀ x y z,OE S 1.29 (.tup [z])=Y 1.41:=λx y z=>fQ 0.3;have a2:∀ x y z w,OE S 1.41 (.tup [w])=Y 2.12:=λx y z w=>fQ 0.3;have wr:(SJ e.wr==("read":Str)) = !e.wr:=uK e.wr;simp![mX,En.ix1,cr,wr];cases h:e.wr with
 | true=>simp
 | false=>
  simp![aaY,zl,cE,eQ,cL,eO,dj,dq,c1,uG,a1,c2,a2];unfold En.d;simp[h]
def a2a{N:List Str}(hN:N.length=3){w:Wd}(hl:es.length<=60):Gw N IY 3 [r.d,w.d,Oz es] S=Y (Oz (Jb r w es),S):=by
 have hst:FV N [r.d,w.d,Oz es]=[Y r.d,Y w.d,Y (Oz es)]:=by simp[FV,hN]
 rw[ca (show [r.d,w.d,Oz es].length=3 from rfl),hst];have w1:(r.w.s==("turns":Str))=decide (r.w=.turns):=Rw.eq r.w .turns;have e1:SO S 3.20 (.str "turns")=Y (.bl (!decide (r.w=.turns))):=by rw[tf,w1]
 have e2:SO S w.d (.str "writes")=Y (.bl (!decide (w=.writes))):=xj (b:=.writes);have k:=fL (S:=S) (t:=cf) (e:=lZ (aC (az On 6.1 (!"read"))) 5.7 '0') (cap:=[J]) (env:=[Y r.d,Y w.d,Y (Oz es)]) (rest:=[]) (a:=J) (enc:=En.d) (p:=λq=>true) (f:=λe=>(if e.wr then e else { e with m:=1 }:En).d) (xs:=es) rfl 0.0 (λx q=>iU) (λx q q=>mk_d);rw[abc.mpr (λq q=>rfl)] at k
 have kc:A09 [Y r.d,Y w.d,Y (Oz es)] S=Y (.lst (es.map λe=>(if e.wr then e else { e with m:=1 }:En).d),S):=by
  simp only[A09,cw,er,ak,bJ,bN,bM,oj,ob,aj,fE,k]
 unfold Jb;by_cases h1:r.w=.turns
 ·rw[aaj h1] at e1;by_cases h2:w=.writes
  ·rw[aam #[h1,h2]];rw[aaj h2] at e2;simp![IY,jQ,Rl.ix0,e1,aaS,nQ,e2,bX,kc,bY,fD];unfold Oz;rw[aaX];rfl
  ·rw[if_neg (λz=>h2 z.2)];rw[aao h2] at e2;simp![IY,jQ,Rl.ix0,e1,aaS,aaY,nQ,e2,cj]
 ·rw[if_neg (λz=>h1 z.1)];rw[aao h1] at e1;simp![IY,jQ,Rl.ix0,e1,aaY,BI,cj]
end
def EI(l:List Ev):D:=.tup 6.9
def JK(r:Rl)(R:Rm):Rm×List Ev:=JM r (2*R.1.length) R
def ZV(wr:Bool)(g:Nat)(t:Option Int):En:=#[g,wr,0,if t=Y 0 then Y 1 else t]
def OH(r:Rl)(R:Rm)(wr:Bool)(g:Nat)(t:Option Int):Rm×List Ev:=
 let a:=JK r (R.1,R.2++[ZV wr g t])
 if Cg a.1.2 g=false then a
 else if t=Y 0 then((a.1.1,a.1.2.filter λe=>decide (e.g≠g)),a.2++[#["no",g]])
 else(a.1,a.2++[#["waits",g]])
def PR(e:En):En:={ e with t:=e.t.map (· - 1) }
def OI(r:Rl)(R:Rm):Rm×List Ev:=
 let a:=JK r (R.1,(R.2.map PR).filter λe=>decide (e.t≠Y 0))
 (a.1,(((R.2.map PR).filter λe=>decide (e.t=Y 0)).map λe=>#["ends",e.g])++a.2)
def AN(k:Ak)(g:Nat):List Ev:=match k with
 | .up=>[]
 | .stop=>[#["ends",g]]
 | .down=>[#["down",g]]
 | .leave=>[#["out",g]]
def XT(k:Ak)(w:Wd):Wd:=match k with
 | .up=>.rising
 | .down=>.reads
 | .leave=>.out
 | .stop=>if w=.rising then .reads else .out
def XX(r:Rl)(k:Ak)(w:Wd)(g:Nat)(es:List En):List En:=(if k=.down\/k=.leave then Jb r w es else es).filter λe=>decide (e.g≠g)
def XY(r:Rl)(R:Rm)(k:Ak)(g:Nat)(w:Wd):Rm×List Ev:=
 let a:=JK r (R.1.set g (XT k w),XX r k w g R.2)
 (a.1,AN k g++a.2++(if a.1.1[g]?=Y .rising then [#["waits",g]] else []))
def XU(r:Rl)(R:Rm)(dd:Dd):Option (Rm×List Ev):=
 if IW R dd=false then J else match dd with
 | .tick=>Y (OI r R)
 | .ask wr g t=>Y (OH r R wr g t)
 | .act k g=>if k=.up/\(r.c=0\/Wd.rising∈R.1) then Y (R,[#["no",g]]) else match R.1[g]? with
  | some w=>Y (XY r R k g w)
  | none=>J
def db(h:Cg es g=false){e:En}(he:e∈es):e.g≠g:=λz=>by
 have:Cg es g=true:=aaO.mpr #[e,he,by simp[z]];rw[h] at this;cases this
def ROk.filter{ws:List Wd}{es:List En}(h:ROk (ws,es))(p:En->Bool):ROk (ws,es.filter p):=
 #[λe he=>h.out e (aaA.mp he).1,List.Sublist.nodup (List.Sublist.map _ (abj)) h.nd]
def ROk.mapE{ws:List Wd}{es:List En}(h:ROk (ws,es))(f:En->En)(hf:∀ e,(f e).g=e.g):ROk (ws,es.map f):=
 ⟨λe he=>by obtain⟨x,hx,rfl⟩:=aai.mp he;rw[hf];exact h.out x hx,by
  show((es.map f).map (·.g)).Nodup
  rw[aaX,show((·.g) ∘ f)=(λe:En=>e.g) from funext hf];exact h.nd⟩
def ROk.setW{ws:List Wd}{es:List En}(h:ROk (ws,es))(g:Nat)(w:Wd)(hg:∀ e∈es,e.g≠g):ROk (ws.set g w,es):=
 #[λe he=>by show(ws.set g w)[e.g]?=_;rw[aaq (Ne.symm (hg e he))];exact h.out e he,h.nd]
def dS(h:ROk R):ROk (JK r R).1/\(JK r R).1.1.length=R.1.length:=a1S _ h
def mN{g:Nat}(h:ROk R)(hw:R.1[g]?=Y .out)(hs:Cg R.2 g=false):ROk (R.1,R.2++[ZV wr g t]):=
 ⟨λe he=>by
  rcases aan.mp he with he | he
  ·exact h.out e he
  ·rw[aat.mp he];exact hw,by
  show((R.2++[ZV wr g t]).map (·.g)).Nodup;rw[aaI,abd];refine#[h.nd,by simp,λa ha b hb=>?_];obtain⟨e,he,rfl⟩:=aai.mp ha;simp[ZV] at hb
  rw[hb];exact db hs he⟩
def a2b{ws:List Wd}{es:List En}(h:ROk (ws,es)):ROk (ws,Jb r w es):=by
 unfold Jb;split
 ·exact h.mapE _ λe=>by split<;>rfl
 ·exact h
def rY{k:Ak}{ws:List Wd}{es:List En}(h:ROk (ws,es))(w':Wd):ROk (ws.set g w',XX r k w g es):=by
 unfold XX;refine ROk.setW (ROk.filter ?_ _) g w' λe he=>aaD (aaA.mp he).2;split
 ·exact a2b h
 ·exact h
def eZ(h:ROk R)(hx:XU r R dd=Y x):ROk x.1/\x.1.1.length=R.1.length:=by
 unfold XU at hx;split at hx
 ·cases hx
 ·rename_i hc;have hc:IW R dd=true:=by simpa using hc
  cases dd with
  | tick=>
   cases hx;obtain⟨a,b⟩:=dS (r:=r) (R:=(R.1,(R.2.map PR).filter λe=>decide (e.t≠Y 0))) (ROk.filter (ROk.mapE h PR λe=>rfl) _);exact#[a,b]
  | ask wr g t=>
   cases hx;simp only[IW,aag,aaU,Bool.not_eq_true'] at hc;obtain⟨a,b⟩:=dS (r:=r) (mN (wr:=wr) (t:=t) h hc.1 hc.2);unfold OH;dsimp only;split
   ·exact#[a,b]
   ·split
    ·exact#[ROk.filter a _,b]
    ·exact#[a,b]
  | act k g=>
   dsimp only at hx;split at hx
   ·cases hx;exact#[h,rfl]
   ·split at hx
    ·rename_i w hw;cases hx;obtain⟨a,b⟩:=dS (r:=r) (rY (r:=r) (k:=k) (w:=w) (g:=g) h (XT k w));exact#[a,b.trans 0.3]
    ·cases hx
def A1a:ME:=ci (dT 5.3) '`' cf 1.2 [J]
def Ix:ME:=ci (dT 5.3) '`' 2.70 '0' [J,Y 4]
def Tz(settled:PF):MS:=
 aF (aN '2' (aQ 3 2.64)) (aF (aN (aW (ac '4' (ac '3' (ac 0e0 (ac (lZ 1.21 1e0 '5') am))))) 'f') (aF (aN (ax 2 settled (ac '0' (ac (aW (ac 5.4 (ac (az OE 5.3 (aW 8.4)) am))) am))) 2.79) (aF (bU (aC (az Ov '4' A1a)) (bp (aW (ac '1' (ac (bB 2.2 (ac '7' am)) am)))) ba) (aF (bU 1.21 (bp (aW (ac (aW (ac 5.4 (ac (bB 2.2 (ac Ix am)) am))) (ac (bB 2.2 (ac (az OE '7' (eV (ac (aW (ac (!"no") 5.8)) am))) am)) am)))) ba) (bp (aW (ac '1' (ac (bB 2.2 (ac (az OE '7' (eV (ac (aW (ac (!"waits") 5.8)) am))) am)) am))))))))
def Cm:ME:=ci (dT '4') '`' cf (az OE 1.20 2.60) [J]
def Ii:ME:=ci (dT '5') '`' 2.62 (aW (ac (!"ends") 2.84)) [J]
def Ig:ME:=ci (dT '5') '`' (aC 2.76) '0' [J]
def To(settled:PF):MS:=aF (aN Cm 'e') (aF (aN Ii 'f') (aF (aN (ax 2 settled (ac '0' (ac (aW (ac '3' (ac (bB 2.2 (ac Ig am)) am))) am))) 2.79) (bp (aW (ac '1' (ac (bB 2.2 (ac (az OE '6' '7') am)) am))))))
def Ck:ME:=az Tt (eV (ac (aW (ac (lZ (aC (az On '8' (!"stop"))) (!"ends") (lZ (aC (az On '8' (!"down"))) (!"down") (!"out"))) (ac '9' am))) am)) (bB (Gz Om) (ac (az SO '8' (!"up")) am))
def Cj:ME:=az GD (gq [(mC (.str "up"),mC (.str "rising")),(mC (.str "down"),mC (.str "reads")),(mC (.str "leave"),mC (.str "out")),(mC (.str "stop"),az GD (eV (ac (!"out") (ac (!"reads") am))) (bB (Gz Om) (ac (az On ':' (!"rising")) am)))]) '8'
def Ie:ME:=az Tt (eV (ac (aW (ac (!"waits") (ac '9' am))) am)) (bB (Gz Om) (ac (az On (az GD 5.4 '9') (!"rising")) am))
def Ih:ME:=ci (dT '4') '`' 2.70 '0' [J,Y 9]
def Rc(settled marked put:PF):MS:=aF (aN (az GD '3' '9') 'j') (aF (aN Ck 'k') (aF (bU (aC (az SY '8' (aW (ac (!"down") (ac (!"leave") am))))) (aN (ax 3 marked (ac '0' (ac ':' 5.8))) 'd') ba) (aF (aN (bB 2.2 (ac Ih am)) 'd') (aF (aN Cj 'l') (aF (aN (ax 2 settled (ac '0' (ac (aW (ac (ax 3 put (ac '3' (ac '9' (ac '<' am)))) 5.8)) am))) 2.79) (aF (aN Ie 'm') (bp (aW (ac '1' (ac (bB 2.2 (ac (az OE (az OE ';' '7') '=') am)) am))))))))))
def XW(can asked settled marked put:PF):MS:=
 aF (bU (eL (eD (ax 2 can (ac '1' 3.8)))) (bp 3.1) ba) (aF 2.73 (aF (bU (aC (az On 1.68 (!"tick"))) (To settled) ba) (aF (aN (bz '2' bA (bV 2e0)) 1.72) (aF (bU (aC (az SY '8' (aW (ac (!"read") (ac (!"write") am))))) (bp (ax 3 asked 3.0)) ba) (aF (bU (cM (aC (az On '8' (!"up"))) (gE 2.62 (aC (az SY (!"rising") '3')))) (bp (aW (ac '1' (ac (aW (ac (aW (ac (!"no") (ac '9' am))) am)) am)))) ba) (Rc settled marked put))))))
def XZ(settled:PF):Prop:=∀ (S:aa) (r:Rl) (R:Rm),ROk R->R.1.length<=50->settled [r.d,Dk R] S=Y (.tup [Dk (JK r R).1,.ref S.length],S++[.lst ((JK r R).2.map Ev.d)])
def oK:∀ (n:Nat) {R:Rm},(JM r n R).2.length<=n
 | 0,R=>aas _
 | n+1,R=>by
  have h1:=a20 (r:=r) (R:=R);have h2:=oK (r:=r) n (R:=(Xe r R).1);show((Xe r R).2++(JM r n (Xe r R).1).2).length<=_;rw[aal];omega
section
variable{S:aa}{ws:List Wd}{es:List En}{r:Rl}{R:Rm}
def kj:On S (IU t) (.int 0)=Y (.bl (decide (t=Y 0))):=by
 cases t with
 | none=>exact mI rfl rfl
 | some k=>
  show On S (.int k) (.int 0)=_;rw[kn];congr 2;rw[aaN];simp
def a2c:SO S (IU t) (.int 0)=Y (.bl (!decide (t=Y 0))):=by
 cases t with
 | none=>exact Ca rfl rfl
 | some k=>
  show SO S (.int k) (.int 0)=_;rw[Ql];congr 3;rw[aaN];simp
theorem Ob{g:Nat}{b:Option D}{cap:List 0.9}(hc:Od cap env=[b,Y 0.4])(hl:es.length<=100):Oq '`' 2.70 '0' cap env 2.21=Y (.lst ((es.filter λe=>decide (e.g≠g)).map En.d),S):=by
 exact fL (S:=S) (t:=aC (az SO 1.2 '1')) (e:=af 0) (cap:=cap) (env:=env) (rest:=[Y 0.4]) (a:=b) (enc:=En.d) (p:=λe=>decide (e.g≠g)) (f:=En.d) (xs:=es) hc 0.0 (λx z=>by
  have:(!(1.07==(g:Int)))=decide (x.g≠g):=by rw[aaN];simp;omega
  simp[En.ix0,-beq_iff_eq,this]) (λx z z=>by simp)
def a2d{S:aa}{l:List Ev}:Gz 4.5 [.ref S.length] (S++[.lst 6.9])=Y (EI l,S++[.lst 6.9]):=zI gC
def a2e{S:aa}{l:List Ev}{v:Ev}(h:l.length<=500):OE (S++[.lst 6.9]) 0.6 (.lst [v.d])=Y (.lst ((l++[v]).map Ev.d)):=by
 rw[a1e (xs:=l.map Ev.d) (ys:=[v.d]) rfl (by simp only[ML,gC]) rfl 0.7];simp
def a2f{S:aa}{k l:List Ev}(h:l.length<=500)(h':k.length<=400):OE (S++[.lst 6.9]) (.lst (k.map Ev.d)) 0.6=Y (.lst ((k++l).map Ev.d)):=by
 rw[a1e (xs:=k.map Ev.d) (ys:=l.map Ev.d) rfl rfl (by simp only[ML,gC]) 0.7];simp
def a2g{g:Nat}:Ov S 0.4 (.lst (es.map λe=>.int 1.8))=Y (.bl (!Cg es g)):=by
 have h:=a24 (S:=S) (es:=es) (g:=g);have ok:(es.map λe=>D.int 1.8).all (Dl 39)=true:=by rw[aaE];intro d hd;obtain⟨e,z,rfl⟩:=aai.mp hd;rfl
 rw[jp (ys:=es.map λe=>D.int 1.8) rfl rfl ok] at h;rw[a0V (ys:=es.map λe=>D.int 1.8) rfl rfl ok];simp only[abC,D.bl.injEq] at h;rw[h]
def a2h{settled:PF}(O:XZ settled){N:List Str}(hN:N.length=8){g:Nat}(h:ROk R)(hl:R.1.length<=50)(hw:R.1[g]?=Y .out)(hs:Cg R.2 g=false) :
  ∃ T,Gw N (Tz settled) 3 [r.d,Dk R,(Dd.ask wr g t).d] S=Y (.tup [Dk (OH r R wr g t).1,EI (OH r R wr g t).2],S++T):=by
 have hst:FV N [r.d,Dk R,(Dd.ask wr g t).d]=[Y r.d,Y (Dk R),Y (Dd.ask wr g t).d,J,J,J,J,J]:=by simp[FV,hN,ZB]
 rw[ca (show [r.d,Dk R,(Dd.ask wr g t).d].length=3 from rfl),hst];have hA:=mN (wr:=wr) (t:=t) h hw hs;have hO:=O S r (R.1,R.2++[ZV wr g t]) hA hl;obtain⟨q1,q2⟩:=dS (r:=r) hA;have qf:(JK r (R.1,R.2++[ZV wr g t])).2.length<=100:=aaJ (oK _) (by show 2*R.1.length<=100;omega);have ql:(JK r (R.1,R.2++[ZV wr g t])).1.2.length<=50:=aaJ q1.len (by rw[q2];exact hl);unfold OH;generalize hE:JK r (R.1,R.2++[ZV wr g t])=A at *;obtain⟨R',evs⟩:=A;dsimp only at *;have g3:∀ env S,aQ 3 2.64 (Dd.ask wr g t).d env S=2.64 [.str (SJ wr),.int (g:Int),IU t] env S:=λenv S=>rH
 have kif:∀ env:bn,A0z 1e0 '5' [Y r.d,Y (Dk R),Y (Dd.ask wr g t).d,Y 6.2,Y 0.4,Y (IU t),J,J] (decide (t=Y 0),S)=Y (IU (if t=Y 0 then Y 1 else t),S):=λenv=>by
  by_cases ht:t=Y 0
  ·simp[ht];rfl
  ·simp[ht]
 have ad:∀ S,OE S (Oz R.2) (.tup [.tup [.int (g:Int),.str (SJ wr),.int 0,IU (if t=Y 0 then Y 1 else t)]])=Y (Oz (R.2++[ZV wr g t])):=λS=>by
  have:=h.len;rw[show Oz R.2=.tup (R.2.map En.d) from rfl,fQ 0.7];unfold Oz;rw[aaI];rfl
 have hO':settled [r.d,.tup [Mx R.1,Oz (R.2++[ZV wr g t])]] S=Y (.tup [Dk R',.ref S.length],S++[.lst 3.4]):=hO
 have gs:∀ (T:aa) (a6:Option D),A1a [Y r.d,Y (Dk R'),Y (Dd.ask wr g t).d,Y 6.2,Y 0.4,Y (IU t),a6,Y 0.6] T=Y (.lst (R'.2.map λe=>.int 1.8),T):=λT a6=>by
  simp![A1a,cw,er,Rm.ix1,fE,gsC (es:=R'.2) (cap:=[J]) (env:=[Y r.d,Y (Dk R'),Y (Dd.ask wr g t).d,Y 6.2,Y 0.4,Y (IU t),a6,Y 0.6]) rfl 0.0]
 have rs:∀ (T:aa) (a6:Option D),Ix [Y r.d,Y (Dk R'),Y (Dd.ask wr g t).d,Y 6.2,Y 0.4,Y (IU t),a6,Y 0.6] T=Y (.lst ((R'.2.filter λe=>decide (e.g≠g)).map En.d),T):=λT a6=>by
  simp![Ix,cw,er,Rm.ix1,fE,Ob (es:=R'.2) (g:=g) (cap:=[J,Y 4]) (env:=[Y r.d,Y (Dk R'),Y (Dd.ask wr g t).d,Y 6.2,Y 0.4,Y (IU t),a6,Y 0.6]) rfl 0.0]
 have no:∀ w:Str,OE (S++[.lst 3.4]) 0.6 (.lst [.tup [.str w,.int (g:Int)]])=Y (.lst ((evs++[Ev.mk w g]).map Ev.d)):=λw=>a2e (v:=#[w,g]) 0.0;refine#[[.lst 3.4],?_];simp![Tz,g3,bC,cQ,bP,mX,kj,kif [],YA,Rm.ix0,Rm.ix1,uG,ad,hO',cn,gs,a2g];cases hb:Cg R'.2 g with
 | false=>simp![aaY,bX,bY,a2d,cj,aam]
 | true=>
  simp only[aaS,bE,bi,ob,aH,reduceCtorEq,if_neg,not_false_eq_true];by_cases ht:t=Y 0
  ·have fe:∀ S,On S (IU t) (.int 0)=Y 8.3:=λS=>by rw[kj,aaj ht]
   simp![aam ht,fe,Rm.ix0,bX,rs,bY,fD,jo,kL1,no,cj];rfl
  ·have fe:∀ S,On S (IU t) (.int 0)=Y 3.9:=λS=>by rw[kj,aao ht]
   simp![if_neg ht,fe,bX,bY,fD,jo,kL1,no];rfl
end
structure qak(can asked settled marked put:PF):Prop where
 c:∀ (S:aa) (R:Rm) (dd:Dd),R.2.length<=60->dd.Ok R.1.length->∃ T,can [Dk R,dd.d] S=Y (.bl (IW R dd),S++T)
 a:∀ (S:aa) (r:Rl) (R:Rm) (wr:Bool) (g:Nat) (t:Option Int),ROk R->R.1.length<=50->R.1[g]?=Y .out->Cg R.2 g=false->∃ T,asked [r.d,Dk R,(Dd.ask wr g t).d] S=Y (.tup [Dk (OH r R wr g t).1,EI (OH r R wr g t).2],S++T)
 s:XZ settled
 m:∀ (S:aa) (r:Rl) (w:Wd) (es:List En),es.length<=60->marked [r.d,w.d,Oz es] S=Y (Oz (Jb r w es),S)
 p:∀ (S:aa) (ws:List Wd) (i:Nat) (w:Wd),i<ws.length->ws.length<=100->put [Mx ws,.int (i:Int),w.d] S=Y 1.74
section
variable{S:aa}{ws:List Wd}{es:List En}{r:Rl}{R:Rm}
def a2i{e:En}:(az OE 1.20 2.60) [Y e.d] S=Y ((PR e).d,S):=by
 have c1:Dn e.d J (Y 3,S)=Y (.tup [.int 1.42,.str 6.8,.int e.m],S):=rfl;have a2:∀ x y z w,OE S 1.41 (.tup [w])=Y 2.12:=λx y z w=>fQ 0.3;have cu:∀ a b c d:D,XB [a,b,c,d] J (Y 3)=[a,b,c]:=λq q q q=>rfl;obtain⟨g,wr,m,t⟩:=e;cases t with
 | none=>simp[at4,cu,IU,qk,uG,a2,PR,En.d]
 | some k=>simp[at4,cu,IU,qk,uG,a2,PR,En.d]
def a2j{settled:PF}(O:XZ settled){a2 a5 a6 a7 a8 a9 b0 b1 b2 b3:Option D}(h:ROk R)(hl:R.1.length<=50) :
  ∃ T,(To settled [Y r.d,Y (Dk R),a2,Y (Mx R.1),Y (Oz R.2),a5,a6,a7,a8,a9,b0,b1,b2,b3] S).bind KW=Y (.tup [Dk (OI r R).1,EI (OI r R).2],S++T)/\To settled [Y r.d,Y (Dk R),a2,Y (Mx R.1),Y (Oz R.2),a5,a6,a7,a8,a9,b0,b1,b2,b3] S=Y (.rt (.tup [Dk (OI r R).1,EI (OI r R).2]) (S++T)):=by
 have hle:=h.len
 have f1:Cm [Y r.d,Y (Dk R),a2,Y (Mx R.1),Y (Oz R.2),a5,a6,a7,a8,a9,b0,b1,b2,b3] S=Y (.lst ((R.2.map PR).map En.d),S):=by
  have k:=fL (S:=S) (t:=cf) (e:=az OE 1.20 2.60) (cap:=[J]) (env:=[Y r.d,Y (Dk R),a2,Y (Mx R.1),Y (Oz R.2),a5,a6,a7,a8,a9,b0,b1,b2,b3]) (rest:=[]) (a:=J) (enc:=En.d) (p:=λz=>true) (f:=λe=>(PR e).d) (xs:=R.2) rfl 0.0 (λx z=>iU) (λx z z=>a2i);rw[abc.mpr (λz z=>rfl)] at k;simp only[Cm,cw,er,ak,bJ,bN,bM,oj,ob,aj,fE,k,aaX];rfl
 generalize hF:R.2.map PR=fs at f1;have hfl:fs.length<=50:=by rw[<- hF,aaf];omega
 have f2:Ii [Y r.d,Y (Dk R),a2,Y (Mx R.1),Y (Oz R.2),Y 1.52,a6,a7,a8,a9,b0,b1,b2,b3] S=Y (.lst (((fs.filter λe=>decide (e.t=Y 0)).map λe=>Ev.mk "ends" e.g).map Ev.d),S):=by
  have k:=fL (S:=S) (t:=aC (az On 3.2 0e0)) (e:=aW (ac (!"ends") 2.84)) (cap:=[J]) (env:=[Y r.d,Y (Dk R),a2,Y (Mx R.1),Y (Oz R.2),Y 1.52,a6,a7,a8,a9,b0,b1,b2,b3]) (rest:=[]) (a:=J) (enc:=En.d) (p:=λe=>decide (e.t=Y 0)) (f:=λe=>(Ev.mk "ends" e.g).d) (xs:=fs) rfl 0.0 (λx z=>by simp[En.ix3,kj]) (λx z z=>by simp[En.ix0,ju,Ev.d]);simp only[Ii,cw,er,ak,bJ,bN,bM,oj,ob,aj,BK,k,aaX];rfl
 have f3:∀ a6,Ig [Y r.d,Y (Dk R),a2,Y (Mx R.1),Y (Oz R.2),Y 1.52,a6,a7,a8,a9,b0,b1,b2,b3] S=Y (.lst ((fs.filter λe=>decide (e.t≠Y 0)).map En.d),S):=λa6=>by
  have k:=fL (S:=S) (t:=aC 2.76) (e:=af 0) (cap:=[J]) (env:=[Y r.d,Y (Dk R),a2,Y (Mx R.1),Y (Oz R.2),Y 1.52,a6,a7,a8,a9,b0,b1,b2,b3]) (rest:=[]) (a:=J) (enc:=En.d) (p:=λe=>decide (e.t≠Y 0)) (f:=En.d) (xs:=fs) rfl 0.0 (λx z=>by simp[En.ix3,a2c]) (λx z z=>by simp);simp only[Ig,cw,er,ak,bJ,bN,bM,oj,ob,aj,BK,k]
 have hA:ROk (R.1,fs.filter λe=>decide (e.t≠Y 0)):=by rw[<- hF];exact ROk.filter (ROk.mapE h PR λe=>rfl) _
 have hO:=O S r (R.1,fs.filter λe=>decide (e.t≠Y 0)) hA hl;have qf:(JK r (R.1,fs.filter λe=>decide (e.t≠Y 0))).2.length<=100:=aaJ (oK _) (by show 2*R.1.length<=100;omega);unfold OI;rw[hF];generalize hE:JK r (R.1,fs.filter λe=>decide (e.t≠Y 0))=A at *;obtain⟨R',evs⟩:=A;dsimp only at *;have hO':settled [r.d,.tup [Mx R.1,.tup ((fs.filter λe=>decide (e.t≠Y 0)).map En.d)]] S=Y (.tup [Dk R',.ref S.length],S++[.lst 3.4]):=hO;have ad:=a2f (S:=S) (k:=(fs.filter λe=>decide (e.t=Y 0)).map λe=>Ev.mk "ends" e.g) (l:=evs) 0.0 (by rw[aaf];exact aaJ (abk _ _) 0.0)
 have key:To settled [Y r.d,Y (Dk R),a2,Y (Mx R.1),Y (Oz R.2),a5,a6,a7,a8,a9,b0,b1,b2,b3] S=Y (.rt (.tup [Dk R',EI (((fs.filter λe=>decide (e.t=Y 0)).map λe=>Ev.mk "ends" e.g)++evs)]) (S++[.lst 3.4])):=by
  simp![To,f1,f2,bX,f3,bY,fD,hO',cn,bC,cQ,bP,ad];rfl
 exact#[[.lst 3.4],by rw[key,ob,aM],key]
def a2k{xs:List D}{k:Int}(h0:0<=k)(h1:k<=100000)(h:xs.length*k.toNat<=1000):Tt S 1.5 (.int k)=Y (.lst (ZB k.toNat xs).flatten):=aam #[by omega,by omega,sz h]
def a2l{x:D}{b:Bool}:Tt S (.lst [x]) (.int (if b=true then 1 else 0))=Y (.lst (if b=true then [x] else [])):=by
 cases b
 ·exact a2k 0.1 0.1 0.3
 ·exact a2k 0.1 0.1 0.3
def akS(k j:Ak):(k.s==j.s)=decide (k=j):=by cases k<;>cases j<;>decide +kernel
theorem Cb{k j:Ak}:On S 5.9 (.str j.s)=Y (.bl (decide (k=j))):=by rw[cr,akS]
def a2m{k:Ak}{g:Nat}{a0 a1 a2 a3 a4 a5 a6 a7 b0 b1 b2 b3:Option D}:Ck [a0,a1,a2,a3,a4,a5,a6,a7,Y 5.9,Y 0.4,b0,b1,b2,b3] S=Y (.lst ((AN k g).map Ev.d),S):=by
 have e1:On S 5.9 (.str "stop")=Y (.bl (decide (k=.stop))):=Cb (j:=.stop);have e2:On S 5.9 (.str "down")=Y (.bl (decide (k=.down))):=Cb (j:=.down);have e3:SO S 5.9 (.str "up")=Y (.bl (!decide (k=.up))):=by rw[tf];exact congrArg (λb=>Y (D.bl (!b))) (akS k .up)
 cases k<;>simp![Ck,jo,mX,e1,e2,e3,reduceCtorEq,aci,abJ,zl,ED,kL1,bX,bY,mH,a2l,AN]<;>rfl
def a2n{k:Ak}{w:Wd}{a0 a1 a2 a3 a4 a5 a6 a7 a9 b1 b2 b3:Option D}:Cj [a0,a1,a2,a3,a4,a5,a6,a7,Y 5.9,a9,Y w.d,b1,b2,b3] S=Y ((XT k w).d,S):=by
 have e1:On S w.d (.str "rising")=Y (.bl (decide (w=.rising))):=oo (b:=.rising);have ix:GD S (.lst [.str "out",.str "reads"]) (.int (if decide (w=.rising)=true then 1 else 0))=Y (if w=.rising then Wd.reads else Wd.out).d:=by by_cases h:w=.rising<;>simp[h]<;>rfl
 have kd:∀ x,KD ([(.inr "up",.str "rising"),(.inr "down",.str "reads"),(.inr "leave",.str "out"),(.inr "stop",x)],S)=Y (.dct ([((Sum.inr "up":bK),D.str "rising"),(.inr "down",.str "reads"),(.inr "leave",.str "out"),(.inr "stop",x)].map (·.1)) ([((Sum.inr "up":bK),D.str "rising"),(.inr "down",.str "reads"),(.inr "leave",.str "out"),(.inr "stop",x)].map (·.2)),S):=λx=>a13 (show [(Sum.inr "up":bK),.inr "down",.inr "leave",.inr "stop"].Nodup by decide +kernel) (by show 4<=15;decide)
 have fx:∀ x,GD S (.dct ([((Sum.inr "up":bK),D.str "rising"),(.inr "down",.str "reads"),(.inr "leave",.str "out"),(.inr "stop",x)].map (·.1)) ([((Sum.inr "up":bK),D.str "rising"),(.inr "down",.str "reads"),(.inr "leave",.str "out"),(.inr "stop",x)].map (·.2))) 5.9=Y (match k with | .up=>.str "rising" | .down=>.str "reads" | .leave=>.str "out" | .stop=>x):=λx=>by
  rw[fIx_d BE];cases k<;>simp (decide:=true) [Ak.s]
 simp![Cj,Jr,nO,Ho,Hn,jo,kL2,bX,e1,bY,mH,ix,qe,Hm,kd,fx];cases k<;>rfl
def a2o{g:Nat}{R':Rm}{a0 a2 a3 a4 a5 a6 a7 a8 b0 b1 b2 b3:Option D}(hw:R'.1[g]?=Y w):Ie [a0,Y (Dk R'),a2,a3,a4,a5,a6,a7,a8,Y 0.4,b0,b1,b2,b3] S=Y (.lst ((if w=.rising then [Ev.mk "waits" g] else []).map Ev.d),S):=by
 have x1:GD S (Mx R'.1) 0.4=Y w.d:=yA hw;have e1:On S w.d (.str "rising")=Y (.bl (decide (w=.rising))):=oo (b:=.rising);simp![Ie,jo,kL1,bX,Rm.ix0,x1,e1,bY,mH,a2l];by_cases h:w=.rising<;>simp[h]<;>rfl
def a2p{g:Nat}{a0 a1 a2 a3 a5 a6 a7 a8 b0 b1 b2 b3:Option D}(hl:es.length<=100):Ih [a0,a1,a2,a3,Y (Oz es),a5,a6,a7,a8,Y 0.4,b0,b1,b2,b3] S=Y (.lst ((es.filter λe=>decide (e.g≠g)).map En.d),S):=by
 simp only[Ih,cw,er,ak,bJ,bN,bM,oj,ob,aj,fE,Ob (es:=es) (g:=g) (cap:=[J,Y 9]) (env:=[a0,a1,a2,a3,Y (Oz es),a5,a6,a7,a8,Y 0.4,b0,b1,b2,b3]) rfl hl]
def a2q{k:Ak}:SY S 5.9 (.tup [.str "down",.str "leave"])=Y (.bl (decide (k=.down\/k=.leave))):=by
 have h:([D.str "down",D.str "leave"].any λd=>Oo d 5.9)=decide (k=.down\/k=.leave):=by cases k<;>decide +kernel
 rw[jp (ys:=[.str "down",.str "leave"]) rfl rfl rfl,h]
def a2r:(Jb r w es).length=es.length:=by unfold Jb;split<;>simp
def a2s{settled put:PF}(O:qak can asked settled marked put){k:Ak}{g:Nat}{a2 a5 a6 a7 b0 b1 b2 b3:Option D}(h:ROk R)(hl:R.1.length<=50)(hw:R.1[g]?=Y w) :
  ∃ T,Rc settled marked put [Y r.d,Y (Dk R),a2,Y (Mx R.1),Y (Oz R.2),a5,a6,a7,Y 5.9,Y 0.4,b0,b1,b2,b3] S=Y (.rt (.tup [Dk (XY r R k g w).1,EI (XY r R k g w).2]) (S++T)):=by
 have hle:=h.len;have hg:g<R.1.length:=(aaa.mp hw).1;have x1:∀ S,GD S (Mx R.1) 0.4=Y w.d:=λS=>yA hw
 have mk:∀ env S,env=[Y r.d,Y (Dk R),a2,Y (Mx R.1),Y (Oz R.2),a5,a6,a7,Y 5.9,Y 0.4,Y w.d,Y (.lst ((AN k g).map Ev.d)),b2,b3]->bU (aC (az SY '8' (aW (ac (!"down") (ac (!"leave") am))))) (aN (ax 3 marked (ac '0' (ac ':' 5.8))) 'd') ba env S=Y (.nx [Y r.d,Y (Dk R),a2,Y (Mx R.1),Y (Oz (if k=.down\/k=.leave then Jb r w R.2 else R.2)),a5,a6,a7,Y 5.9,Y 0.4,Y w.d,Y (.lst ((AN k g).map Ev.d)),b2,b3] S):=λenv S he=>by
  subst he;simp only[aZ,aE,aG,ak,bJ,bN,bM,oj,ob,aj,av,bb,ar,bd,aq,ay,ao,ju,au,a2q,aD];by_cases hk:k=.down\/k=.leave
  ·rw[aaj hk,aam hk];simp only[bR,bq,aJ,ar,ak,bJ,bN,bM,oj,ob,aj,aq,ay,ao,bO,O.m S r w R.2 0.0,bu,aP,eR,eU,bL]
  ·rw[aao hk,if_neg hk];simp only[bE,bi]
 have hel:(if k=.down\/k=.leave then Jb r w R.2 else R.2).length<=100:=by split<;>(try rw[a2r])<;>omega
 have hA:=rY (r:=r) (k:=k) (w:=w) (g:=g) h (XT k w);have hO:=O.s S r (R.1.set g (XT k w),XX r k w g R.2) hA (by simp;exact hl);obtain⟨q1,q2⟩:=dS (r:=r) hA;have qf:(JK r (R.1.set g (XT k w),XX r k w g R.2)).2.length<=100:=aaJ (oK _) (by show 2*(R.1.set g (XT k w)).length<=100;rw[abY];omega);have pp:∀ S,put [Mx R.1,.int (g:Int),(XT k w).d] S=Y (Mx (R.1.set g (XT k w)),S):=λS=>O.p S R.1 g _ hg 0.0;unfold XY;generalize hE:JK r (R.1.set g (XT k w),XX r k w g R.2)=A at *;obtain⟨R',evs⟩:=A;dsimp only at *;have hg':g<R'.1.length:=by rw[q2,abY];exact hg
 have hw':R'.1[g]?=Y R'.1[g]:=aae hg';have hO':settled [r.d,.tup [Mx (R.1.set g (XT k w)),.tup (((if k=.down\/k=.leave then Jb r w R.2 else R.2).filter λe=>decide (e.g≠g)).map En.d)]] S=Y (.tup [Dk R',.ref S.length],S++[.lst 3.4]):=hO;have fl:(AN k g).length<=1:=by cases k<;>simp[AN]
 have ad:=a2f (S:=S) (k:=AN k g) (l:=evs) 0.0 0.0
 have ad2:OE (S++[.lst 3.4]) (.lst ((AN k g++evs).map Ev.d)) (.lst ((if R'.1[g]=.rising then [Ev.mk "waits" g] else []).map Ev.d))=Y (.lst ((AN k g++evs++(if R'.1[g]=.rising then [Ev.mk "waits" g] else [])).map Ev.d)):=by
  rw[HK (by rw[aaf,aaf,aal];split<;>simp<;>omega),<- aaI]
 refine#[[.lst 3.4],?_];rw[hw'];simp only[Rc,aR,bq,aG,ak,bJ,bN,bM,oj,ob,aj,av,au,x1,bu,aP,eR,eU,bL,aH,a2m,mk _ _ rfl,bX,ar,a2p hel,aq,ay,ao,bY,fD,a2n,aJ,bb,bO,pp,ju,bj,hO',cn,bC,cQ,bP,a2o hw',aX,ad,ad2,bH,abC];rfl
def yS{S:aa}:SY S (.str "rising") (Mx ws)=Y (.bl (decide (Wd.rising∈ws))):=by
 rw[jp (ys:=ws.map Wd.d) rfl rfl Yb]
 congr 2
 rw[acM]
 induction ws with
 | nil=>rfl
 | cons a l ih=>
  rw[abe,ih];show(Oo a.d (Wd.rising).d||_)=_;rw[Zw,aaN];simp;constructor
  ·rintro(h | h)
   ·exact .inl h.symm
   ·exact .inr h
  ·rintro(h | h)
   ·exact .inl h.symm
   ·exact .inr h
def a2t{dd:Dd}(h:dd≠.tick):(Ja dd==("tick":Str))=false:=by
 cases dd with
 | tick=>exact absurd rfl h
 | ask wr g t=>show(SJ wr==("tick":Str))=false;cases wr<;>decide +kernel
 | act k g=>show(k.s==("tick":Str))=false;cases k<;>decide +kernel
theorem HI{b:Bool}(hb:([D.str "read",D.str "write"].any λd=>Oo d (.str x))=b):SY S (.str x) (.tup [.str "read",.str "write"])=Y (.bl b):=by
 rw[jp (ys:=[.str "read",.str "write"]) rfl rfl rfl,hb]
def WX:Option (Rm×List Ev)->D
 | none=>.non
 | some x=>.tup [Dk x.1,EI x.2]
def a2u{settled put:PF}(O:qak can asked settled marked put){N:List Str}(hN:N.length=14){dd:Dd}(h:ROk R)(hl:R.1.length<=50)(hd:dd.Ok R.1.length) :
  ∃ T,Gw N (XW can asked settled marked put) 3 [r.d,Dk R,dd.d] S=Y (WX (XU r R dd),S++T):=by
 have hst:FV N [r.d,Dk R,dd.d]=[Y r.d,Y (Dk R),Y dd.d,J,J,J,J,J,J,J,J,J,J,J]:=by simp[FV,hN,ZB]
 rw[ca (show [r.d,Dk R,dd.d].length=3 from rfl),hst];have hle:=h.len;obtain⟨T0,hc⟩:=O.c S R dd 0.0 hd;have g2:∀ env S,aQ 2 1.0 (Dk R) env S=1.0 [Mx R.1,Oz R.2] env S:=λenv S=>cn;unfold XU;cases hb:IW R dd with
 | false=>
  rw[hb] at hc;refine#[T0,?_];simp![XW,kM,fv,hc,gF,kQ,aaY,cj,aam,WX]
 | true=>
  rw[hb] at hc;rw[if_neg 0.1];by_cases ht:dd=.tick
  ·subst ht;have xt:∀ S,GD S (Dd.tick).d (.int 0)=Y (.str "tick"):=λS=>rfl;have et:∀ S,On S (.str "tick") (.str "tick")=Y 8.3:=λS=>by rw[cr,adG]
   obtain⟨T,w,e⟩:=a2j O.s (S:=S++T0) (r:=r) (R:=R) (a2:=Y (Dd.tick).d) (a5:=J) (a6:=J) (a7:=J) (a8:=J) (a9:=J) (b0:=J) (b1:=J) (b2:=J) (b3:=J) h hl;refine#[T0++T,?_];simp![XW,kM,fv,hc,gF,kQ,aaS,g2,bC,cQ,bP,xt,et,e,cj,aay,WX]
  ·have et0:=a2t ht;cases dd with
   | tick=>exact absurd rfl ht
   | ask wr g t=>
    have x0:∀ S,GD S (Dd.ask wr g t).d (.int 0)=Y 6.2:=λS=>rfl;have et:∀ S,On S 6.2 (.str "tick")=Y 3.9:=λS=>by rw[cr];exact congrArg (λb=>Y (D.bl b)) et0
    have sl:∀ S,Dn (Dd.ask wr g t).d J (Y 2,S)=Y (.tup [.str (SJ wr),.int (g:Int)],S):=λS=>rfl;simp only[IW,aag,aaU,Bool.not_eq_true'] at hb;obtain⟨T,e⟩:=O.a (S++T0) r R wr g t h hl hb.1 hb.2;have fi:∀ S,SY S 6.2 (.tup [.str "read",.str "write"])=Y 8.3:=λS=>HI (by cases wr<;>decide +kernel);refine#[T0++T,?_];simp![XW,kM,fv,hc,gF,kQ,aaS,g2,bC,cQ,bP,x0,et,cE,eQ,cL,eO,dj,dq,sl,cn,fi,bO,e,cj,aay,WX]
   | act k g=>
    have x0:∀ S,GD S (Dd.act k g).d (.int 0)=Y 5.9:=λS=>rfl;have et:∀ S,On S 5.9 (.str "tick")=Y 3.9:=λS=>by rw[cr];exact congrArg (λb=>Y (D.bl b)) et0
    have sl:∀ S,Dn (Dd.act k g).d J (Y 2,S)=Y (.tup [.str k.s,.int (g:Int)],S):=λS=>rfl;have fi:∀ S,SY S 5.9 (.tup [.str "read",.str "write"])=Y 3.9:=λS=>HI (by cases k<;>decide +kernel);have fu:∀ S,On S 5.9 (.str "up")=Y (.bl (decide (k=.up))):=λS=>Cb (j:=.up);have fc:(r.c==0)=decide (r.c=0):=rfl;have hg:g<R.1.length:=hd;have hw:R.1[g]?=Y R.1[g]:=aae hg;have ev1:D.tup [.tup [.str "no",.int (g:Int)]]=EI [#["no",g]]:=rfl;obtain⟨T,e⟩:=a2s O (S:=S++T0) (r:=r) (R:=R) (k:=k) (g:=g) (a2:=Y (Dd.act k g).d) (a5:=J) (a6:=J) (a7:=J) (b0:=J) (b1:=J) (b2:=J) (b3:=J) h hl hw;by_cases hu:k=.up/\(r.c=0\/Wd.rising∈R.1)
    ·refine#[T0,?_];dsimp only;rw[aam hu];have hu1:=aaj hu.1;by_cases hz:r.c=0
     ·simp![XW,kM,fv,hc,gF,kQ,aaS,g2,bC,cQ,bP,x0,et,cE,eQ,cL,eO,dj,dq,sl,cn,fi,dm,fu,hu1,gi,jQ,Rl.ix3,kn,fc,aaj hz,BI,uG,cj,WX,ev1]
     ·have hr:Wd.rising∈R.1:=hu.2.resolve_left hz;simp![XW,kM,fv,hc,gF,kQ,aaS,g2,bC,cQ,bP,x0,et,cE,eQ,cL,eO,dj,dq,sl,cn,fi,dm,fu,hu1,gi,jQ,Rl.ix3,kn,fc,aao hz,nQ,yS,aaj hr,uG,cj,WX,ev1]
    ·refine#[T0++T,?_];dsimp only;rw[if_neg hu,hw];dsimp only
     have tst:∀ (T:aa) (a5 a6 a7 b0 b1 b2 b3:Option D),cM (aC (az On '8' (!"up"))) (gE 2.62 (aC (az SY (!"rising") '3'))) [Y r.d,Y (Dk R),Y (Dd.act k g).d,Y (Mx R.1),Y (Oz R.2),a5,a6,a7,Y 5.9,Y 0.4,b0,b1,b2,b3] T=Y (false,T):=λT a5 a6 a7 b0 b1 b2 b3=>by
      simp![dm,fu];by_cases hk:k=.up
      ·have hz:¬ r.c=0:=λz=>hu #[hk,.inl z];have hr:¬ Wd.rising∈R.1:=λz=>hu #[hk,.inr z];rw[aaj hk];simp![gi,jQ,Rl.ix3,kn,fc,aao hz,nQ,yS,aao hr]
      ·rw[aao hk,ig]
     simp![XW,kM,fv,hc,gF,kQ,aaS,g2,bC,cQ,bP,x0,et,cE,eQ,cL,eO,dj,dq,sl,cn,fi,tst,e,aay,WX]
end
def Grow(r:Nat)(S S':aa):Prop:=S.length<=S'.length/\∀ j,j<S.length->j≠r->S'[j]?=S[j]?
def Grow.of(h:Keep r S S'):Grow r S S':=#[ade h.2.symm,λj z hj=>h.1 j hj]
def Grow.app{T:aa}:Grow r S (S++T):=#[by simp,λj h z=>aap h]
def Grow.trans(h:Grow r S S')(h':Grow r S' S''):Grow r S S'':=#[aaJ h.1 h'.1,λj hj hr=>(h'.2 j (aaH hj h.1) hr).trans (h.2 j hj hr)]
def Pk.appT{T:aa}(h:Pk S r):Pk (S++T) r:=by
 obtain⟨a,b,d,h,z⟩:=h;exact#[a,b,d,by rw[aap (aaa.mp h).1];exact h,z]
def Pk.lt(h:Pk S r):r<S.length:=by
 obtain⟨a,b,d,h,z⟩:=h;exact(aaa.mp h).1
def a2v{α:Type}{x:α}:∀ n:Nat,(ZB n [x]).flatten=ZB n x
 | 0=>rfl
 | n+1=>by rw[aaR,abl,a2v n,aaR];rfl
structure RowOk(deed done:PF):Prop where
 de:∀ (S:aa) (r n:Nat),Pk S r->1<=n->n<=5->∃ (dd:Dd) (S':aa),deed [.ref r,.int (n:Int)] S=Y (dd.d,S')/\dd.Ok n/\Pk S' r/\Keep r S S'
 dn:∀ (S:aa) (rl:Rl) (R:Rm) (dd:Dd),ROk R->R.1.length<=50->dd.Ok R.1.length->∃ T,done [rl.d,Dk R,dd.d] S=Y (WX (XU rl R dd),S++T)
def JZ(n:Nat):Rm:=(ZB n .out,[])
def hV:ROk (JZ n):=#[λe h=>by simp[JZ] at h,by simp[JZ]]
inductive Behind(r:Rl)(n:Nat):List Dd->Rm->Prop
 | nil:Behind r n [] (JZ n)
 | snoc {l:List Dd} {R:Rm} {d:Dd} {x:Rm×List Ev} (h:Behind r n l R) (hd:d.Ok n) (e:XU r R d=Y x):Behind r n (l++[d]) x.1
def Behind.ok(h:Behind r n l R):ROk R/\R.1.length=n:=by
 induction h with
 | nil=>exact#[hV,by simp[JZ]]
 | snoc h hd e ih=>obtain⟨a,b⟩:=eZ ih.1 e;exact#[a,b.trans ih.2]
section
variable{α:Type}{enc:α->D}{p:Nat->α->Bool}{f:Nat->α->D}{t:MT}{e:ME}{rest:bn}{S:aa}
def a2w:∀ (xs:List α) (k:Nat) (a b:Option D),(∀ i x,xs[i]?=Y x->t (Y (.int ((k+i:Nat):Int))::Y (enc x)::rest) S=Y (p (k+i) x,S))->(∀ i x,xs[i]?=Y x->e (Y (.int ((k+i:Nat):Int))::Y (enc x)::rest) S=Y (f (k+i) x,S))->KQ (aQ 2 (ah '`' 1.25)) t e (XR k 2.16) (a::b::rest) S=Y (((xs.zipIdx k).filter λq=>p q.2 q.1).map λq=>f q.2 q.1,S)
 | []=>λk a b z z=>by simp[XR]
 | x::r=>λk a b h h2=>by
  have ih:=a2w r (k+1) (Y 1.89) (Y (enc x)) (λi y hy=>by
   have:=h (i+1) y (by simpa using hy);rw[show k+(i+1)=k+1+i by omega] at this;exact this) (λi y hy=>by
   have:=h2 (i+1) y (by simpa using hy);rw[show k+(i+1)=k+1+i by omega] at this
   exact this)
  have h0:=h 0 x rfl;have h20:=h2 0 x rfl;rw[acK] at h0 h20;rw[List.map_cons,XR,kO,cn,bC,aP,ob,eR,cQ,bC,aP,ob,eU,eR,cQ,bP,ob,BQ,h0,ob,abN];cases hp:p k x with
  | true=>
   rw[BP,h20,ob,BO,ih,ob,BN,acV (p:=λq:α×Nat=>p q.2 q.1) (a:=(x,k)) hp,List.map_cons]
  | false=>rw[Hv,ih,acW (p:=λq:α×Nat=>p q.2 q.1) (a:=(x,k)) (by simp[hp])]
def a2x{cap:List 0.9}{a b:Option D}{xs:List α}(hc:Od cap env=a::b::rest)(hl:xs.length<=1000)(h:∀ (i:Nat) x,xs[i]?=Y x->t (Y 6.3::Y (enc x)::rest) S=Y (p i x,S))(h2:∀ (i:Nat) x,xs[i]?=Y x->e (Y 6.3::Y (enc x)::rest) S=Y (f i x,S)) :
  Oq (aQ 2 (ah '`' 1.25)) t e cap env (XR 0 2.16,S)=Y (.lst ((xs.zipIdx.filter λq=>p q.2 q.1).map λq=>f q.2 q.1),S):=by
 rw[nV (by rw[oW,aaf];exact hl),hc,a2w xs 0 a b (λi x hx=>by rw[adb];exact h i x hx) (λi x hx=>by rw[adb];exact h2 i x hx),ob,jT]
end
def Su(p:Wd->Bool)(ws:List Wd):List Nat:=(ws.zipIdx.filter λq=>p q.1).map (·.2)
def mem_zi{α:Type}{xs:List α}{x:α}{i:Nat}:(x,i)∈xs.zipIdx↔xs[i]?=Y x:=by
 rw[acE]
def mem_ixW{ws:List Wd}{i:Nat}:i∈Su p ws↔∃ w,ws[i]?=Y w/\p w=true:=by
 unfold Su;rw[aai];constructor
 ·rintro⟨⟨w,j⟩,h,rfl⟩;obtain⟨h1,h2⟩:=aaA.mp h;exact#[w,mem_zi.mp h1,h2]
 ·rintro⟨w,h1,h2⟩;exact#[(w,i),aaA.mpr #[mem_zi.mpr h1,h2],rfl]
def ND(l:List Nat):D:=.tup (l.map Jd)
def a2y{p:Wd->Bool}{ws:List Wd}:D.lst ((ws.zipIdx.filter λq=>p q.1).map λq=>.int (q.2:Int))=CA (Su p ws):=by
 unfold CA Su Jd;rw[aaX];rfl
def Gx:MS:=bp (bB 2.2 (ac (ci (eM 2.84) (aQ 2 (ah '`' 1.25)) (aC (az SY '1' '2')) '0' [J,J,Y 1]) am))
def a2z{ws:List Wd}{S:aa}:EE ([Mx ws],S)=Y (XR 0 1.32,S):=rfl
def a2A{w:Wd}:SY S w.d (Mx l)=Y (.bl (decide (w∈l))):=by
 rw[jp (ys:=l.map Wd.d) rfl rfl Yb]
 congr 2
 rw[acM]
 induction l with
 | nil=>rfl
 | cons a l ih=>
  rw[abe,ih];show(Oo a.d w.d||_)=_;rw[Zw,aaN];simp;constructor
  ·rintro(h | h)
   ·exact .inl h.symm
   ·exact .inr h
  ·rintro(h | h)
   ·exact .inl h.symm
   ·exact .inr h
def a2B{N:List Str}(hN:N.length=2){R:Rm}(hl:R.1.length<=100):Gw N Gx 2 [Dk R,Mx l] S=Y (ND (Su (λw=>decide (w∈l)) R.1),S):=by
 have hst:FV N [Dk R,Mx l]=[Y (Dk R),Y (Mx l)]:=by simp[FV,hN]
 rw[ca (show [Dk R,Mx l].length=2 from rfl),hst];have k:=BF (S:=S) (t:=aC (az SY '1' '2')) (cap:=[J,J,Y 1]) (env:=[Y (Dk R),Y (Mx l)]) (rest:=[Y (Mx l)]) (a:=J) (b:=J) (enc:=Wd.d) (p:=λw=>decide (w∈l)) (xs:=R.1) rfl 0.0 (λi x z=>by simp![a2A]);rw[a2y (p:=λw=>decide (w∈l))] at k;have fs:Gz 4.5 [CA (Su (λw=>decide (w∈l)) R.1)] S=Y (ND (Su (λw=>decide (w∈l)) R.1),S):=fD;simp![Gx,bX,cw,oP,Rm.ix0,a2z,k,bY,fs]
def RE(R:Rm)(g:Nat):D:=if R.1[g]?=Y .rising then .str "up" else match R.2.find? λe=>decide (e.g=g) with
 | some e=>.str 6.8
 | none=>.non
def RF:MS:=bU (aC (az On 1.68 '1')) (bp (az GD '2' 1e0)) ba
def Wn(gw:PF):MS:=aF (bU (aC (az SY '1' (ax 2 gw (ac '0' (ac (aW (ac (!"rising") am)) am))))) (bp (!"up")) ba) (aF (dU 6.1 'b' RF) (bp 3.1))
def RU(gw:PF):Prop:=∀ (S:aa) (R:Rm) (l:List Wd),R.1.length<=100->gw [Dk R,Mx l] S=Y (ND (Su (λw=>decide (w∈l)) R.1),S)
def a2C{g:Nat}:SY S 0.4 (ND l)=Y (.bl (decide (g∈l))):=by
 rw[jp (ys:=l.map Jd) rfl rfl (by rw[aaE];intro d hd;obtain⟨i,z,rfl⟩:=aai.mp hd;rfl)]
 congr 2
 rw[acM]
 induction l with
 | nil=>rfl
 | cons a l ih=>
  rw[abe,ih];show(((a:Int)==(g:Int))||_)=_;rw[aaN];simp;constructor
  ·rintro(h | h)
   ·exact .inl 0.0
   ·exact .inr h
  ·rintro(h | h)
   ·exact .inl 0.0
   ·exact .inr h
def yB{g:Nat}:∀ (es:List En) (a:Option D),AI 'b' RF 7.3 [Y (Dk R),Y 0.4,a] S=(match es.find? λe=>decide (e.g=g) with | some e=>Y (.rt 4.8 S) | none=>Y (.nx [Y (Dk R),Y 0.4,match es.getLast? with | some e=>Y e.d | none=>a] S))
 | []=>λa=>by simp
 | e::l=>λa=>by
  have ih:=yB (S:=S) (R:=R) (g:=g) l (Y e.d);have c:(1.8==(g:Int))=decide (e.g=g):=by rw[aaN];simp;omega
  rw[List.map_cons,dN,aP,ob,eU,eU,eR,jS];simp![RF,En.ix0,kn,c,abp];cases hd:decide (e.g=g) with
  | true=>simp![En.ix1,BJ]
  | false=>
   rw[bE,bi,ob,iV];show AI 'b' RF _ _ _=_;rw[ih];cases hf:l.find? λe=>decide (e.g=g) with
   | some x=>rfl
   | none=>
    dsimp only
    congr 4
    cases l with
    | nil=>rfl
    | cons y l=>rw[List.getLast?_cons_cons];cases hh:(y::l).getLast? with
     | none=>simp at hh
     | some z=>rfl
def a2D(O:RU gw){N:List Str}(hN:N.length=3){R:Rm}{g:Nat}(hl:R.1.length<=100):Gw N (Wn gw) 2 [Dk R,.int (g:Int)] S=Y (RE R g,S):=by
 refine abn (kw (env:=[Y (Dk R),Y 0.4,J]) hN rfl rfl) ?_;have o1:gw [Dk R,.tup [.str "rising"]] S=Y (ND (Su (λw=>decide 4.4) R.1),S):=O S R [.rising] hl;have k1:JO ([.str "rising"],S)=Y (.tup [.str "rising"],S):=dW 0.3
 have mm:decide (g∈Su (λw=>decide 4.4) R.1)=decide (R.1[g]?=Y .rising):=by
  rw[decide_eq_decide,mem_ixW];constructor
  ·rintro⟨w,h1,h2⟩;rw[h1];simpa using h2
  ·intro h;exact#[.rising,h,by simp]
 have ek:YY 'b' RF [Y (Dk R),Y 0.4,J] (Oz R.2,S)=AI 'b' RF (R.2.map En.d) [Y (Dk R),Y 0.4,J] S:=rfl;simp![Wn,k1,o1,a2C,mm];unfold RE;by_cases h:R.1[g]?=Y .rising
 ·rw[aaj h,aam h];simp
 ·rw[aao h,if_neg h];simp![kN,Rm.ix1,ek,yB];cases R.2.find? λe=>decide (e.g=g) with
  | some e=>simp
  | none=>simp
def MQ(ws:List Wd)(g:Nat):List Wd:=(ws.zipIdx.filter λq=>!decide (q.1=.out)&&!decide (q.2=g)).map (·.1)
def MM(r:Rl)(R:Rm)(g:Nat):Bool:=
 if R.1[g]?=Y .rising then(MQ R.1 g).isEmpty else match R.2.find? λe=>decide (e.g=g) with
 | none=>false
 | some e=>if e.wr then(MQ R.1 g).isEmpty else(MQ R.1 g).all (λw=>decide (w=.reads))&&(decide (r.a=0)||decide (((MQ R.1 g).length:Int)<r.a))
def MR:ME:=ci (eM (ac 5.4 am)) (aQ 2 (ah '`' 1.25)) (cM (aC (az SO '1' (!"out"))) (aC (az SO '0' '2'))) '1' [J,J,Y 2]
def RC:ME:=ci (dT '4') '`' cf (az On '0' (!"reads")) [J]
def Ir(wait:PF):MS:=
 aF (aN (ax 2 wait (ac '1' 3.8)) 'c') (aF (bU (aC (az HH '3' 3.1)) 2.72 ba) (aF (aN MR 'd') (aF (bU (aC (az SO '3' (!"read"))) (bp (SQ '4')) ba) (aF (aN 6.1 'e') (bp (Dj (bB (Gz LW) (ac RC am)) (AA (az On '5' 0e0) (az RX (bB (Gz Op) 5.8) '5'))))))))
def FI(wait:PF):Prop:=∀ (S:aa) (R:Rm) (g:Nat),R.1.length<=100->wait [Dk R,.int (g:Int)] S=Y (RE R g,S)
section
variable{S:aa}{R:Rm}{r:Rl}{g:Nat}
def oD{a0 a3 a4 a5:Option D}(hl:R.1.length<=100):MR [a0,Y (Dk R),Y 0.4,a3,a4,a5] S=Y (.lst ((MQ R.1 g).map Wd.d),S):=by
 have k:=a2x (S:=S) (t:=cM (aC (az SO '1' (!"out"))) (aC (az SO '0' '2'))) (e:=af 1) (cap:=[J,J,Y 2]) (env:=[a0,Y (Dk R),Y 0.4,a3,a4,a5]) (rest:=[Y 0.4]) (a:=J) (b:=J) (enc:=Wd.d) (p:=λi w=>!decide (w=.out)&&!decide (i=g)) (f:=λz w=>w.d) (xs:=R.1) rfl 0.0 (λi w z=>by
  have e1:SO S w.d (.str "out")=Y (.bl (!decide (w=.out))):=xj (b:=.out);have c:((i:Int)==(g:Int))=decide (i=g):=by rw[aaN];simp;omega
  simp![dm,e1];cases hd:decide (w=.out) with
  | true=>simp
  | false=>simp![aaY,gi,Ql,c,acr]) (λi w z=>by simp)
 simp![MR,cw,oP,Rm.ix0,a2z,k];unfold MQ;rw[aaX];rfl
def xG{α:Type}{p:α->Bool}:∀ l:List α,YV (l.map λx=>D.bl (p x))=Y (l.map p)
 | []=>rfl
 | x::l=>by
  have:=xG (p:=p) l;rw[List.map_cons,List.map_cons];simp only[YV,this];rfl
def a2E{l:List Wd}{a0 a1 a2 a3 a5:Option D}(hl:l.length<=100):RC [a0,a1,a2,a3,Y (.lst (l.map Wd.d)),a5] S=Y (.lst (l.map λw=>.bl (decide (w=.reads))),S):=by
 have k:=fL (S:=S) (t:=cf) (e:=az On '0' (!"reads")) (cap:=[J]) (env:=[a0,a1,a2,a3,Y (.lst (l.map Wd.d)),a5]) (rest:=[]) (a:=J) (enc:=Wd.d) (p:=λz=>true) (f:=λw=>.bl (decide (w=.reads))) (xs:=l) rfl 0.0 (λx z=>iU) (λx z z=>by
  have e1:On S x.d (.str "reads")=Y (.bl (decide (x=.reads))):=oo (b:=.reads)
  simp only[aG,ak,bJ,oj,ob,aj,av,bd,au,e1])
 rw[abc.mpr (λz z=>rfl)] at k;simp only[RC,cw,er,ak,bJ,bN,bM,oj,ob,aj,BK,k]
def a2F:(MQ R.1 g).length<=R.1.length:=by
 unfold MQ;rw[aaf];exact aaJ (abk _ _) 0.3
def a2G(O:FI wait){N:List Str}(hN:N.length=6)(hl:R.1.length<=100):Gw N (Ir wait) 3 [r.d,Dk R,.int (g:Int)] S=Y 2.87:=by
 refine abn (kw (env:=[Y r.d,Y (Dk R),Y 0.4,J,J,J]) hN rfl rfl) ?_;have bl:=a2F (R:=R) (g:=g);unfold MM;have e1:=O S R g hl
 have fa:Gz LW [.lst ((MQ R.1 g).map λw=>.bl (decide (w=.reads)))] S=Y (.bl ((MQ R.1 g).all λw=>decide (w=.reads)),S):=by
  rw[a0U (xG _)];congr 3;rw[List.all_map];rfl
 have fl:Gz Op [.lst ((MQ R.1 g).map Wd.d)] S=Y (.int ((MQ R.1 g).length:Nat),S):=by rw[Zj,aaf]
 have nb:EB (.lst ((MQ R.1 g).map Wd.d),S)=Y (.bl (MQ R.1 g).isEmpty,S):=by
  rw[Ub];cases MQ R.1 g<;>rfl
 unfold RE at e1;by_cases h:R.1[g]?=Y .rising
 ·rw[aam h] at e1 ⊢;have ne:SO S (.str "up") (.str "read")=Y 8.3:=by rw[tf];rfl
  simp![Ir,e1,mZ,qk,oD hl,ne,Jm,nb,cj]
 ·rw[if_neg h] at e1 ⊢;cases hf:R.2.find? λe=>decide (e.g=g) with
  | none=>
   rw[hf] at e1;simp![Ir,e1,mZ,qk,cj]
  | some e=>
   rw[hf] at e1;dsimp only at e1 ⊢;have ne:SO S 4.8 (.str "read")=Y (.bl e.wr):=by rw[tf,uK,Bool.not_not]
   cases hw:e.wr with
   | true=>
    rw[hw] at e1 ne;simp![Ir,e1,mZ,qk,oD hl,ne,Jm,nb,cj,aam]
   | false=>
    rw[hw] at e1 ne;have e3:(r.a==0)=decide (r.a=0):=rfl;simp![Ir,e1,mZ,qk,oD hl,ne,qg,bX,a2E (show(MQ R.1 g).length<=100 by omega),bY,fa,Rl.ix1,aaL,abE];cases hA:(MQ R.1 g).all λw=>decide (w=.reads) with
    | false=>simp
    | true=>
     cases hz:decide (r.a=0) with
     | true=>simp[e3,hz]
     | false=>simp[e3,hz,fl,-beq_iff_eq]
end
def BY:List (bK×D):=[(.inr "rows",.non),(.inr "readers",.str "read"),(.inr "writers",.str "write"),(.inr "turns",.str "write")]
def FS:List (bK×D):=[(.inr "read",.str "reads"),(.inr "write",.str "writes")]
def Zf:Rw->D
 | .rows=>.non
 | .readers=>.str "read"
 | _=>.str "write"
def RG(w:Rw)(e:En):Bool:=match w with
 | .rows=>false
 | .readers=>!e.wr
 | _=>e.wr
def a2H{S:aa}{w:Rw}(h:w≠.passes):OD BY (.str w.s,S)=Y (Zf w,S):=by
 cases w<;>first | exact absurd rfl h | simp (decide:=true) [OD,OA,Oi,BY,Zf,Rw.s]
def a2I{S:aa}:OD FS (.str (SJ b),S)=Y ((if b then Wd.writes else Wd.reads).d,S):=by
 cases b<;>simp (decide:=true) [OD,OA,Oi,FS,SJ,Wd.d,Wd.s]
def a2J{e:En}:On S 4.8 (Zf w)=Y (.bl (RG w e)):=by
 have h1:On S 4.8 (.str "read")=Y (.bl (!e.wr)):=by rw[cr,uK]
 have h2:On S 4.8 (.str "write")=Y (.bl e.wr):=by rw[cr,oF]
 cases w with
 | rows=>exact mI rfl rfl
 | readers=>exact h1
 | _=>exact h2
def Kr(w:Rw)(e:En):Bool:=decide (w=.turns)&&decide (e.m=1)
def TR(w:Rw)(es:List En):List Nat:=(es.filter (Kr w)).map (·.g)++(es.filter (RG w)).map (·.g)++es.map (·.g)
def CQ:Option Nat->D
 | none=>.non
 | some g=>.int (g:Int)
def Wu:ME:=ci (dT '1') '`' (cM (aC (az On '1' (!"turns"))) (aC (az On 7.5 1e0))) 1.2 [J,Y 0]
def Qc:ME:=ci (dT '1') '`' (aC (az On 6.1 (dE BY '1'))) 1.2 [J,Y 0]
def Qe:ME:=ci (dT '1') '`' cf 1.2 [J]
def Wv:MS:=aF (aN Wu 'b') (aF (aN Qc 'c') (aF (aN (az OE (az OE '2' '3') Qe) 'd') (bp (lZ (eD '4') (az GD '4' 0e0) 3.1))))
section
variable{S:aa}{es:List En}{w:Rw}{r:Rl}{R:Rm}
theorem GJ{l:List En}:D.lst (l.map λe=>.int 1.8)=CA (l.map (·.g)):=by unfold CA;rw[aaX];rfl
def a2K{a2 a3 a4:Option D}(hl:es.length<=100):Wu [Y 1.30,Y (Oz es),a2,a3,a4] S=Y (CA ((es.filter (Kr w)).map (·.g)),S):=by
 have hw:(w.s==("turns":Str))=decide (w=.turns):=Rw.eq w .turns
 have k:=fL (S:=S) (t:=cM (aC (az On '1' (!"turns"))) (aC (az On 7.5 1e0))) (e:=az GD '0' 0e0) (cap:=[J,Y 0]) (env:=[Y 1.30,Y (Oz es),a2,a3,a4]) (rest:=[Y 1.30]) (a:=J) (enc:=En.d) (p:=Kr w) (f:=λe=>.int 1.8) (xs:=es) rfl 0.0 (λx z=>by
  unfold Kr;cases h:decide (w=.turns) with
  | true=>simp[En.ix2,-beq_iff_eq,hw,h];rfl
  | false=>simp[-beq_iff_eq,hw,h]) (λx z z=>by simp[En.ix0])
 simp only[Wu,cw,er,ak,bJ,bN,bM,oj,ob,aj,fE,k,GJ]
def a2L{a2 a3 a4:Option D}(hw:w≠.passes)(hl:es.length<=100):Qc [Y 1.30,Y (Oz es),a2,a3,a4] S=Y (CA ((es.filter (RG w)).map (·.g)),S):=by
 have k:=fL (S:=S) (t:=aC (az On 6.1 (dE BY '1'))) (e:=az GD '0' 0e0) (cap:=[J,Y 0]) (env:=[Y 1.30,Y (Oz es),a2,a3,a4]) (rest:=[Y 1.30]) (a:=J) (enc:=En.d) (p:=RG w) (f:=λe=>.int 1.8) (xs:=es) rfl 0.0 (λx z=>by
  simp![En.ix1,wq,a2H hw,a2J]) (λx z z=>by simp[En.ix0])
 simp only[Qc,cw,er,ak,bJ,bN,bM,oj,ob,aj,fE,k,GJ]
def a2M{a0 a2 a3 a4:Option D}(hl:es.length<=100):Qe [a0,Y (Oz es),a2,a3,a4] S=Y (CA (es.map (·.g)),S):=by
 have k:=gsC (S:=S) (es:=es) (b:=J) (cap:=[J]) (env:=[a0,Y (Oz es),a2,a3,a4]) rfl hl;simp only[Qe,cw,er,ak,bJ,bN,bM,oj,ob,aj,fE,k,GJ]
def a2N{a b:List Nat}(h:a.length+b.length<=1000):OE S (CA a) (CA b)=Y (CA (a++b)):=by
 unfold CA;rw[HK 0.7,<- aaI]
def a2O{N:List Str}(hN:N.length=5)(hw:w≠.passes)(hl:es.length<=100):Gw N Wv 2 [.str w.s,Oz es] S=Y (CQ (TR w es).head?,S):=by
 refine abn (kw (env:=[Y 1.30,Y (Oz es),J,J,J]) hN rfl rfl) ?_;have l1:=abk (Kr w) es;have l2:=abk (RG w) es;have a1:OE S (CA ((es.filter (Kr w)).map (·.g))) (CA ((es.filter (RG w)).map (·.g)))=Y (CA ((es.filter (Kr w)).map (·.g)++(es.filter (RG w)).map (·.g))):=a2N 0.7;have a2:OE S (CA ((es.filter (Kr w)).map (·.g)++(es.filter (RG w)).map (·.g))) (CA (es.map (·.g)))=Y (CA (TR w es)):=a2N 0.7
 have tr:BG (CA (TR w es),S)=Y (!decide (TR w es=[]),S):=by
  cases TR w es<;>rfl
 simp![Wv,a2K hl,a2L hw hl,a1,a2M hl,a2,mX,fv,tr];cases hf:TR w es with
 | nil=>simp[CQ]
 | cons g l=>simp[CQ,uS]
def Sl(r:Rl)(R:Rm):List En->Option Nat
 | []=>J
 | e::l=>if MM r R e.g then Y e.g else if r.b<=e.m then J else Sl r R l
def UR(r:Rl)(R:Rm):Option Nat:=if r.w=.passes then Sl r R R.2 else match (TR r.w R.2).head? with
 | none=>J
 | some g=>if MM r R g then Y g else J
def QT(cg:PF):Prop:=(∀ (S:aa) (r:Rl) (R:Rm) (g:Nat),R.1.length<=100->cg [r.d,Dk R,.int (g:Int)] S=Y 2.87)/\(∀ (S:aa) (r:Rl) (ws:List Wd),ws.length<=100->cg [r.d,Dk (ws,[]),.non] S=Y 9.1)
def Fu(cg:PF):MS:=aF (bU 2.82 (bp '2') ba) (bU (aC (az fGe '4' 7.5)) (bp 3.1) ba)
def Le:MG:=aQ 4 (ah 'b' 2.64)
def UT(cg:PF):MS:=aF (dU 5.3 Le (Fu cg)) (bp 3.1)
def a2P{e:En}{a0 a1 a2 a3 a4 a5:Option D}:Le e.d [a0,a1,a2,a3,a4,a5] S=Y ([a0,a1,Y 2.59,Y 4.8,Y 2.00,Y (IU e.t)],S):=by
 have g4:Le e.d [a0,a1,a2,a3,a4,a5] S=(ah 'b' 2.64) [.int 1.42,.str 6.8,.int e.m,IU e.t] [a0,a1,a2,a3,a4,a5] S:=uY;rw[g4];simp only[bC,aP,ob,cQ,bP,eR,eU]
noncomputable def npEnd:Option Nat->Option D->Option D->Option D->Option D->Option D->Option D->aa->qz->Prop
 | some g,_,_,_,_,_,_,S,o=>o=.rt 0.4 S
 | none,a0,a1,_,_,_,_,S,o=>o=.rt .non S\/∃ b2 b3 b4 b5,o=.nx [a0,a1,b2,b3,b4,b5] S
def yX(O:QT cg)(hl:R.1.length<=100):∀ (es:List En) (a2 a3 a4 a5:Option D),∃ o,AI Le (Fu cg) 7.3 [Y r.d,Y (Dk R),a2,a3,a4,a5] S=Y o/\npEnd (Sl r R es) (Y r.d) (Y (Dk R)) a2 a3 a4 a5 S o
 | []=>λa2 a3 a4 a5=>#[.nx [Y r.d,Y (Dk R),a2,a3,a4,a5] S,by simp,.inr #[_,_,_,_,rfl]]
 | e::l=>λa2 a3 a4 a5=>by
  obtain⟨o,ih,q⟩:=yX O hl l (Y 2.59) (Y 4.8) (Y 2.00) (Y (IU e.t));have c1:=O.1 S r R e.g hl;rw[List.map_cons,dN,a2P,ob,jS];simp![Fu,fv,bO,c1,gF];unfold Sl;cases hc:MM r R e.g with
  | true=>exact#[.rt 2.59 S,by simp,rfl]
  | false=>
   rw[if_neg 0.1];by_cases hb:r.b<=e.m
   ·rw[aam hb];refine#[.rt .non S,?_,.inl rfl];simp[Rl.ix2,hb]
   ·rw[if_neg hb];refine#[o,?_,?_]
    ·have:¬ (e.m≥r.b):=hb;simp[Rl.ix2,this,-ge_iff_le];exact ih
    ·cases hp:Sl r R l with
     | none=>rw[hp] at q;exact q
     | some g=>rw[hp] at q;exact q
def a2Q(O:QT cg){N:List Str}(hN:N.length=6)(hl:R.1.length<=100):Gw N (UT cg) 2 [r.d,Dk R] S=Y (CQ (Sl r R R.2),S):=by
 refine abn (kw (env:=[Y r.d,Y (Dk R),J,J,J,J]) hN rfl rfl) ?_;obtain⟨o,e,q⟩:=yX (S:=S) (r:=r) O hl R.2 J J J J;have ek:YY Le (Fu cg) [Y r.d,Y (Dk R),J,J,J,J] (Oz R.2,S)=AI Le (Fu cg) (R.2.map En.d) [Y r.d,Y (Dk R),J,J,J,J] S:=rfl;simp![UT,kN,Rm.ix1,ek,e];cases hp:Sl r R R.2 with
 | none=>
  rw[hp] at q;rcases q with rfl | ⟨b2,b3,b4,b5,rfl⟩<;>simp[CQ]
 | some g=>
  rw[hp] at q;have q:o=.rt 0.4 S:=q;subst q;simp[CQ]
def So(np fm cg:PF):MS:=aF (bU (aC (az On 1.2 (!"passes"))) (bp (ax 2 np 2.69)) ba) (aF (aN (ax 2 fm (ac 1.2 (ac 5.3 am))) 'b') (bp (lZ 2.82 '2' 3.1)))
def a2R(h:(TR w es).head?=J):es=[]:=by
 have:TR w es=[]:=by simpa using h
 unfold TR at this;rw[List.append_eq_nil_iff] at this;simpa using this.2
def a2S{np fm:PF}(hp:∀ (S:aa) (r:Rl) (R:Rm),R.1.length<=100->np [r.d,Dk R] S=Y (CQ (Sl r R R.2),S))(hf:∀ (S:aa) (w:Rw) (es:List En),w≠.passes->es.length<=100->fm [.str w.s,Oz es] S=Y (CQ (TR w es).head?,S))(hc:QT cg)
  {N:List Str} (hN:N.length=3) (hl:R.1.length<=100) (hl2:R.2.length<=100):Gw N (So np fm cg) 2 [r.d,Dk R] S=Y (CQ (UR r R),S):=by
 refine abn (kw (env:=[Y r.d,Y (Dk R),J]) hN rfl rfl) ?_;have w3:(r.w.s==("passes":Str))=decide (r.w=.passes):=Rw.eq r.w .passes;unfold UR;simp![So,Rl.ix0,cr,w3];by_cases hw:r.w=.passes
 ·rw[aaj hw,aam hw];simp![hp S r R hl,cj]
 ·rw[aao hw,if_neg hw];have f1:=hf S r.w R.2 hw hl2;simp![Rl.ix0,Rm.ix1,f1,mX,fv,bO];cases hh:(TR r.w R.2).head? with
  | none=>
   obtain⟨ws,es⟩:=R;have:es=[]:=a2R hh;subst this;have c2:=hc.2 S r ws hl;simp only[CQ,c2,ob,gF];simp
  | some g=>
   have c1:=hc.1 S r R g hl;simp only[CQ,c1,ob,gF];cases MM r R g<;>simp[CQ]
end
section
variable{ws:List Wd}{es:List En}{r:Rl}{R:Rm}{g:Nat}
def Nc(ws:List Wd):List Wd:=ws.filter λw=>!decide (w=.out)
theorem FR{α:Type}{p:α->Bool}:∀ (xs:List α) (k:Nat),((xs.zipIdx k).filter λq=>p q.1).map (·.1)=xs.filter p
 | []=>λz=>rfl
 | x::l=>λk=>by
  rw[abN,aaG,aaG];have ih:=FR (p:=p) l (k+1);split
  ·rw[List.map_cons,ih]
  ·exact ih
def a2T(h:ws[g]?=Y .out):MQ ws g=Nc ws:=by
 unfold MQ Nc;rw[<- FR ws 0]
 congr 1
 apply acQ;intro q hq;have hq':ws[q.2]?=Y q.1:=mem_zi.mp (show(q.1,q.2)∈ws.zipIdx from hq);by_cases hg:q.2=g
 ·rw[hg,h] at hq';have:=aau hq';simp[<- this]
 ·simp[hg]
def besK{p:Wd->Bool}:∀ (ws:List Wd) (k g:Nat) (w:Wd),ws[g]?=Y w->p w=true->((ws.zipIdx k).filter λq=>p q.1&&!decide (q.2=k+g)).length+1=(ws.filter p).length
 | [],k,g,w,h,_=>by simp at h
 | x::l,k,0,w,h,hp=>by
  simp at h;subst h;rw[abN,aaG,aaG,aam hp,aar,<- FR l (k+1),aaf];simp only[hp,acK,abJ,aaS,abh,aaL,abE]
  congr 2
  apply acQ;intro q hq;have:k+1<=q.2:=(List.mem_zipIdx hq).1;have hne:q.2≠k:=by omega
  simp[hne]
 | x::l,k,g+1,w,h,hp=>by
  have ih:=besK (p:=p) l (k+1) g w (by simpa using h) hp;have e:k+(g+1)=(k+1)+g:=by omega
  rw[e,abN,aaG,aaG];have hne:¬ (k=k+1+g):=by omega
  cases hx:p x with
  | false=>simp only[hx,abv,aaL,abE];exact ih
  | true=>simp only[hx,hne,aci,aaY,Bool.and_self,abT,aar];omega
theorem BU:(Nc ws).length+ws.count .out=ws.length:=by
 unfold Nc;have:=List.length_eq_countP_add_countP (λw:Wd=>w==.out) (l:=ws);rw[List.count,this,adK,Nat.add_comm]
 congr 1
 rw[adK]
 congr 1
 apply acQ;intro w z;cases w<;>rfl
def a2U(h:ws[g]?=Y .rising):(MQ ws g).isEmpty=decide (ws.count .out+1=ws.length):=by
 have k:=besK (p:=λw=>!decide (w=.out)) ws 0 g .rising h rfl;have l:=BU (ws:=ws);unfold Nc at l;unfold MQ;simp only[adb] at k;rw[aaN,aaU,List.isEmpty_iff,List.map_eq_nil_iff];constructor
 ·intro e;rw[e] at k;simp only[acG] at k;omega
 ·intro e;apply abi;omega
def cnt5:∀ ws:List Wd,ws.count .out+ws.count .reads+ws.count .rising+ws.count .writes+ws.count .raised=ws.length
 | []=>rfl
 | w::l=>by
  have:=cnt5 l;cases w<;>simp[abx]<;>omega
def a2V:(Nc ws).all (λw=>decide (w=.reads))=decide (ws.count .out+ws.count .reads=ws.length):=by
 have l:=BU (ws:=ws)
 have c:(Nc ws).countP (λw=>decide (w=.reads))=ws.count .reads:=by
  unfold Nc;rw[List.countP_filter,List.count]
  congr 1
  funext w;cases w<;>rfl
 have d:=List.countP_le_length (p:=λw:Wd=>decide (w=.reads)) (l:=Nc ws);rw[aaN,aaU,aaE];have e:=List.countP_eq_length (p:=λw:Wd=>decide (w=.reads)) (l:=Nc ws);constructor
 ·intro h;have:=e.mpr h;omega
 ·intro h;exact e.mp 0.0
def a2W(h:ROk R){e:En}(he:e∈R.2):(R.2.find? λx=>decide (x.g=e.g))=Y e:=by
 have hn:=h.nd;generalize R.2=es at hn he
 induction es with
 | nil=>cases he
 | cons x l ih=>
  rw[List.map_cons,aaV] at hn;rw[abp];rcases aav.mp he with rfl | he
  ·simp
  ·have:x.g≠e.g:=λz=>hn.1 (by rw[z];exact aai.mpr #[e,he,rfl]);simp only[this,aci];exact ih hn.2 he
def a2X(h:ROk R){e:En}(he:e∈R.2):MM r R e.g=IT r R.1 e.wr:=by
 have ho:=h.out e he;unfold MM IT;rw[ho,if_neg 0.3,a2W h he,a2T ho];have c:=cnt5 R.1;have l:=BU (ws:=R.1);dsimp only;cases hw:e.wr with
 | true=>
  simp only[abT];by_cases h1:R.1.count .reads+R.1.count .rising+R.1.count .out<R.1.length
  ·rw[aam h1];cases hi:Nc R.1 with
   | nil=>rw[hi] at l;simp at l;omega
   | cons _ _=>rfl
  ·rw[if_neg h1];rw[aaN,List.isEmpty_iff,aaU];constructor
   ·intro hi;rw[hi] at l;simp at l;omega
   ·intro hi;apply abi;omega
 | false=>
  simp only[aaL,abE,a2V];by_cases h1:R.1.count .reads+R.1.count .rising+R.1.count .out<R.1.length
  ·rw[aam h1,aao 0.0];rfl
  ·rw[if_neg h1];by_cases h2:R.1.count .rising=0
   ·have:(Nc R.1).length=R.1.count .reads+R.1.count .rising:=by omega
    rw[this,aaj 0.0,aaj h2]
   ·rw[aao 0.0,aao h2];rfl
def zo{p:Wd->Bool}:∀ (ws:List Wd) (k:Nat),((ws.zipIdx k).filter λq=>p q.1).map (·.2)=(List.range' k ws.length).filter λi=>match ws[i - k]? with | some w=>p w | none=>false
 | []=>λk=>rfl
 | w::l=>λk=>by
  have ih:=zo (p:=p) l (k+1);rw[abN,aar,List.range'_succ,aaG,aaG]
  have e:(List.range' (k+1) l.length).filter (λi=>match (w::l)[i - k]? with | some w=>p w | none=>false)=(List.range' (k+1) l.length).filter λi=>match l[i - (k+1)]? with | some w=>p w | none=>false:=by
   apply acQ;intro i hi;have:k+1<=i:=(List.mem_range'_1.mp hi).1;rw[show i - k=(i - (k+1))+1 by omega,acU]
  simp only[Nat.sub_self,aej];cases hp:p w with
  | true=>rw[aam rfl,aam rfl,List.map_cons,ih,e]
  | false=>rw[if_neg 0.1,if_neg 0.1,ih,e]
def xa{α:Type}{p q:α->Bool}:∀ {l:List α},(∀ x∈l,p x=q x)->l.find? p=l.find? q
 | [],_=>rfl
 | x::l,h=>by rw[abp,abp,h x aab,xa λy hy=>h y 1.60]
def a2Y:(Su (λw=>decide (w=.rising)) R.1).find? (MM r R)=(Ag R.1).head?:=by
 have e:Su (λw=>decide (w=.rising)) R.1=(List.range R.1.length).filter λi=>match R.1[i]? with | some w=>decide (w=.rising) | none=>false:=by
  have k:=zo (p:=λw=>decide (w=.rising)) R.1 0;rw[List.range_eq_range'];exact k
 rw[e,List.find?_filter];unfold Ag;rw[adw];apply xa;intro i hi;by_cases h:R.1[i]?=Y .rising
 ·rw[h];have:MM r R i=(MQ R.1 i).isEmpty:=by unfold MM;rw[aam h]
  simp only[abJ,acr];rw[this,a2U h];simp
 ·rw[aao h,abv];cases hw:R.1[i]? with
  | none=>rfl
  | some w=>
   have:¬ (w=.rising):=λz=>h (by rw[hw,z]);simp[this]
def a2Z{p:En->Bool}:∀ (es:List En) (k:Nat),(((es.zipIdx k).filter λq=>p q.1).map (·.2)).head?=(es.findIdx? p).map (· + k)
 | []=>λz=>rfl
 | e::l=>λk=>by
  have ih:=a2Z (p:=p) l (k+1);rw[abN,aaG,abR];cases hp:p e with
  | true=>simp
  | false=>
   simp only[aaL,abE];rw[ih];cases l.findIdx? p with
   | none=>rfl
   | some i=>simp;omega
def ij{es:List En}:(Jf p es).head?=es.findIdx? p:=by
 unfold Jf;rw[a2Z];simp
def zG:∀ es:List En,((es.filter p).map (·.g)).head?=(es.findIdx? p).bind λi=>es[i]?.map (·.g)
 | []=>rfl
 | e::l=>by
  have ih:=zG (p:=p) l;rw[aaG,abR];cases hp:p e with
  | true=>simp
  | false=>
   simp only[aaL,abE];rw[ih];cases l.findIdx? p with
   | none=>rfl
   | some i=>simp
def uX:(GB a b).head?=a.head?.or b.head?:=by
 unfold GB;cases a<;>simp
def a30{a b:List Nat}:(a++b).head?=a.head?.or b.head?:=by cases a<;>simp
def oS{l:List Nat}:(l.take 1).head?=l.head?:=by cases l<;>simp
def lu{p:En->Bool}(hpq:∀ e,p e = !q e){es:List En}(h:es.findIdx? p=J):es.findIdx? q=(if es=[] then J else Y 0):=by
 cases es with
 | nil=>rfl
 | cons e l=>
  rw[acN] at h;have:=h e aab;rw[hpq] at this;have hq:q e=true:=by simpa using this
  rw[abR,hq];simp
def PP(es:List En)(o:Option Nat):Option Nat:=o.bind λi=>es[i]?.map (·.g)
def a31:(es.map (·.g)).head?=PP es (if es=[] then J else Y 0):=by cases es<;>simp[PP]
theorem JC(h:es.findIdx? p=Y i):i<es.length:=(aco.mp h).1
def a32(hw:r.w≠.passes):(TR r.w es).head?=PP es (Je r es).head?:=by
 have f0:∀ p,((es.filter p).map (·.g)).head?=PP es (es.findIdx? p):=λp=>zG es;have ff:es.findIdx? (λz=>false)=J:=by rw[acN];intros;rfl
 unfold TR Je;rw[a30,a30,f0,f0,a31];cases hr:r.w with
 | passes=>exact absurd hr hw
 | rows=>
  have e1:Kr .rows=λz=>false:=rfl;have e2:RG .rows=λz=>false:=rfl;rw[e1,e2,ff,oS];cases es<;>simp[PP,acv]
 | readers=>
  have e1:Kr .readers=λz=>false:=rfl;have e2:RG .readers=λe=>!e.wr:=rfl;dsimp only;rw[e1,e2,ff,oS,uX,ij,ij];show(PP es _).or _=_;cases hf:es.findIdx? λe=>!e.wr with
  | none=>rw[lu (q:=λe=>e.wr) (λz=>rfl) hf];rfl
  | some i=>have:=JC hf;simp[PP,aae this]
 | writers=>
  have e1:Kr .writers=λz=>false:=rfl;have e2:RG .writers=λe=>e.wr:=rfl;dsimp only;rw[e1,e2,ff,oS,uX,ij,ij];show(PP es _).or _=_;cases hf:es.findIdx? λe=>e.wr with
  | none=>rw[lu (q:=λe=>!e.wr) (λe=>by simp) hf];rfl
  | some i=>have:=JC hf;simp[PP,aae this]
 | turns=>
  have e1:Kr .turns=λe=>decide (e.m=1):=by funext e;simp[Kr]
  have e2:RG .turns=λe=>e.wr:=rfl;dsimp only;rw[e1,e2,oS,uX,uX,ij,ij,ij];cases hm:es.findIdx? λe=>decide (e.m=1) with
  | some i=>have:=JC hm;simp[PP,aae this]
  | none=>
   show(PP es _).or _=_;cases hf:es.findIdx? λe=>e.wr with
   | none=>rw[lu (q:=λe=>!e.wr) (λe=>by simp) hf];rfl
   | some i=>have:=JC hf;simp[PP,aae this]
def maxL_le{b:Int}{l:List Int}:AM (0::l)<=b↔0<=b/\∀ x∈l,x<=b:=by
 obtain⟨h1,h2⟩:=sJ (ns:=0::l) 0.3;constructor
 ·intro h;exact#[aew (h2 0 aab) h,λx hx=>aew (h2 x 1.61) h]
 ·intro⟨h0,h⟩;rcases aav.mp h1 with e | e
  ·rw[e];exact h0
  ·exact h _ e
def Hw(r:Rl)(ws:List Wd)(es:List En)(i:Nat):Bool:=(match es[i]? with | some e=>IT r ws e.wr | none=>false)&&decide (AM (0::(es.take i).map λe=>e.m+1)<=r.b)
def yV(hb:0<=r.b)(hc:∀ e∈es,MM r R e.g=IT r R.1 e.wr):∀ (l p:List En),es=p++l->(∀ e∈p,e.m+1<=r.b)->Sl r R l=PP es ((List.range' p.length l.length).find? (Hw r R.1 es))
 | []=>λp w w=>by simp[Sl,PP]
 | e::l=>λp he hp=>by
  have ei:es[p.length]?=Y e:=by rw[he];simp
  have et:es.take p.length=p:=by rw[he];simp
  have hm:e∈es:=by rw[he];simp
  have q0:Hw r R.1 es p.length=IT r R.1 e.wr:=by
   unfold Hw;rw[ei,et];have:AM (0::p.map λe=>e.m+1)<=r.b:=maxL_le.mpr #[hb,λx hx=>by obtain⟨y,hy,rfl⟩:=aai.mp hx;exact hp y hy];simp[this]
  rw[aar,List.range'_succ,abp,q0];unfold Sl;rw[hc e hm];cases hl:IT r R.1 e.wr with
  | true=>simp[PP,ei]
  | false=>
   rw[if_neg 0.1];by_cases hbm:r.b<=e.m
   ·rw[aam hbm]
    have:(List.range' (p.length+1) l.length).find? (Hw r R.1 es)=J:=by
     rw[aeR];intro i hi;have h1:=(List.mem_range'_1.mp hi).1
     have:¬ (AM (0::(es.take i).map λe=>e.m+1)<=r.b):=λz=>by
      have:=(maxL_le.mp z).2 (e.m+1) (aai.mpr #[e,?_,rfl])
      ·omega
      ·rw[List.mem_take_iff_getElem];refine#[p.length,?_,?_]
       ·have:=(aaa.mp ei).1;omega
       ·exact(aaa.mp ei).2
     unfold Hw;rw[aao this,abh];decide
    rw[this];rfl
   ·rw[if_neg hbm]
    have ih:=yV hb hc l (p++[e]) (by rw[he];simp) (λx hx=>by
     rcases aan.mp hx with hx | hx
     ·exact hp x hx
     ·have:x=e:=by simpa using hx
      rw[this];omega)
    rw[ih];simp
def a33(hw:r.w≠.passes):(Je r es).length<=1:=by
 unfold Je;cases hr:r.w<;>first | exact absurd hr hw | (simp only[abO];omega)
def a34(h:ROk R)(hb:0<=r.b):UR r R=PP R.2 (Sq r R.1 R.2).head?:=by
 have hc:∀ e∈R.2,MM r R e.g=IT r R.1 e.wr:=λe he=>a2X h he;unfold UR;by_cases hw:r.w=.passes
 ·rw[aam hw,yV hb hc R.2 [] rfl (λq z=>by cases z)]
  congr 1
  unfold Sq Je;rw[hw];dsimp only;rw[aeS,adw,acG,<- List.range_eq_range'];rfl
 ·rw[if_neg hw,a32 hw];have h1:=a33 (es:=R.2) hw;unfold Sq;cases hf:Je r R.2 with
  | nil=>rfl
  | cons i l=>
   rw[hf] at h1;have:l=[]:=by cases l with | nil=>rfl | cons _ _=>simp at h1
   subst this;have hi:i<R.2.length:=og (r:=r) (by rw[hf];exact aab);have ei:R.2[i]?=Y R.2[i]:=aae hi;have:=hc R.2[i] (abP hi);simp only[adU,PP,Option.bind_some,ei,adR,aaG,this];cases IT r R.1 (R.2[i]).wr<;>simp[ei]
def UP(r:Rl)(R:Rm):Option Ev:=match (Su (λw=>decide (w=.rising)) R.1).find? (MM r R) with
 | some g=>Y #["steps",g]
 | none=>(UR r R).map λg=>#["in",g]
inductive FN(r:Rl)(R:Rm):Option Ev->Rm->List Ev->Prop
 | up (g:Nat) (h:R.1[g]?=Y .rising):FN r R (Y #["steps",g]) (R.1.set g .raised,R.2) [#["steps",g]]
 | go (i:Nat) (e:En) (h:R.2[i]?=Y e):FN r R (Y #["in",e.g]) 3.03 [#["in",e.g]]
 | no:FN r R J R []
def lV(h:ROk R)(hb:0<=r.b):FN r R (UP r R) (Xe r R).1 (Xe r R).2:=by
 unfold UP Xe;rw[a2Y,a34 h hb];cases ha:Ag R.1 with
 | cons g l=>exact .up g (mP (by rw[ha];exact aab))
 | nil=>
  dsimp only[List.head?_nil];cases hs:Sq r R.1 R.2 with
  | nil=>exact .no
  | cons i l=>
   have hi:i<R.2.length:=og (r:=r) (aaA.mp (show i∈Sq r R.1 R.2 by rw[hs];exact aab)).1;have ei:R.2[i]?=Y R.2[i]:=aae hi;simp only[adU,PP,Option.bind_some,ei,adR];exact .go i _ ei
def VU(R:Rm):Nat:=R.2.length+R.1.count .rising
def lU{b:Wd}:∀ {ws:List Wd} {i:Nat},ws[i]?=Y a->a≠b->∀ c,(ws.set i b).count c+(if a=c then 1 else 0)=ws.count c+(if b=c then 1 else 0)
 | [],i,h,_,c=>by simp at h
 | w::l,0,h,hn,c=>by
  simp at h;subst h;rw[aeN,abx,abx];by_cases h1:w=c<;>by_cases h2:b=c<;>simp[h1,h2]<;>omega
 | w::l,i+1,h,hn,c=>by
  have:=lU (i:=i) (ws:=l) (by simpa using h) hn c;rw[aeO,abx,abx];omega
def yL(h:ROk R)(s:FN r R o R' l):(o=J/\R'=R/\l=[])\/(∃ v,o=Y v/\l=[v]/\VU R'+1=VU R):=by
 cases s with
 | no=>exact .inl #[rfl,rfl,rfl]
 | up g hg=>
  refine .inr #[_,rfl,rfl,?_];have:=lU (b:=.raised) hg 0.1 .rising;simp only[VU];simp at this;omega
 | go i e hi=>
  refine .inr #[_,rfl,rfl,?_];have ho:=h.out e (aax hi);have hl:=(aaa.mp hi).1
  have hc:(R.1.set e.g (if e.wr then .writes else .reads)).count .rising=R.1.count .rising:=by
   cases e.wr with
   | true=>have:=lU (b:=.writes) ho 0.1 .rising;simpa using this
   | false=>have:=lU (b:=.reads) ho 0.1 .rising;simpa using this
  simp only[VU,qo,hc,aal,aaf,abO,acX];omega
def a35(h:ROk R):VU R<=2*R.1.length:=by
 have:=h.len;have:=List.count_le_length (a:=Wd.rising) (l:=R.1);unfold VU;omega
def lz(h:UP r R=J)(hk:ROk R)(hb:0<=r.b):∀ n,JM r n R=(R,[])
 | 0=>rfl
 | n+1=>by
  have s:=lV hk hb;rw[h] at s
  have e:Xe r R=(R,[]):=by
   generalize hq:Xe r R=q at s;obtain⟨a,b⟩:=q;dsimp only at s;cases s;rfl
  show((JM r n (Xe r R).1).1,(Xe r R).2++(JM r n (Xe r R).1).2)=_;rw[e,lz h hk hb n];rfl
def a36:∀ (n:Nat) {R:Rm},ROk R->0<=r.b->VU R<=n->UP r (JM r n R).1=J/\∀ m,n<=m->JM r m R=JM r n R
 | n,R,hk,hb,hm=>by
  have s:=lV hk hb;rcases yL hk s with ⟨h1,h2,h3⟩ | ⟨v,h1,h2,h3⟩
  ·rw[lz h1 hk hb n];exact#[h1,λm z=>lz h1 hk hb m]
  ·cases n with
   | zero=>omega
   | succ n=>
    obtain⟨k1,k2⟩:=a36 n (sh (r:=r) hk).1 hb 0.0;refine#[k1,λm hm=>?_];cases m with
    | zero=>omega
    | succ m=>simp only[JM];rw[k2 m 0.0]
end
section
variable{S:aa}{ws:List Wd}{es:List En}{r:Rl}{R:Rm}{g:Nat}
def a37:SY S .non (ND l)=Y 3.9:=by
 rw[jp (ys:=l.map Jd) rfl rfl (by rw[aaE];intro d hd;obtain⟨i,z,rfl⟩:=aai.mp hd;rfl)]
 congr 2
 rw[acR];intro d hd;obtain⟨i,z,rfl⟩:=aai.mp hd;show ¬ (false=true);decide
def a38(O:RU gw){N:List Str}(hN:N.length=3)(hl:ws.length<=100):Gw N (Wn gw) 2 [Dk (ws,[]),.non] S=Y (.non,S):=by
 refine abn (kw (env:=[Y (Dk (ws,[])),Y .non,J]) hN rfl rfl) ?_;have o1:gw [Dk (ws,[]),.tup [.str "rising"]] S=Y (ND (Su (λw=>decide 4.4) ws),S):=O S (ws,[]) [.rising] hl;have ek:∀ env,YY 'b' RF env (Oz [],S)=Y 1.16:=λenv=>by show AI 'b' RF [] env S=_;simp
 simp![Wn,uG,o1,a37,kN,Rm.ix1,ek]
def a39{wait:PF}(O:∀ S:aa,wait [Dk (ws,[]),.non] S=Y (.non,S)){N:List Str}(hN:N.length=6):Gw N (Ir wait) 3 [r.d,Dk (ws,[]),.non] S=Y 9.1:=by
 refine abn (kw (env:=[Y r.d,Y (Dk (ws,[])),Y .non,J,J,J]) hN rfl rfl) ?_;simp![Ir,O,mZ,qk,cj]
def UO:MS:=aF (aN '0' (aQ 2 1.0)) (bp (aW (ac (az OE (az OE (bz '3' bA (bV '1')) (aW 3.8)) (bz '3' (bV (az OE '1' 1e0)) bA)) 5.8)))
def a3a{N:List Str}(hN:N.length=5){w:Wd}(h:g<R.1.length)(hl:R.1.length<=100):Gw N UO 3 [Dk R,.int (g:Int),w.d] S=Y (Dk (R.1.set g w,R.2),S):=by
 refine abn (kw (env:=[Y (Dk R),Y 0.4,Y w.d,J,J]) hN rfl rfl) ?_;have g2:∀ env S,aQ 2 1.0 (Dk R) env S=1.0 [Mx R.1,Oz R.2] env S:=λenv S=>cn
 have c1:Dn (Mx R.1) J (Y (g:Int),S)=Y (.tup ((R.1.take g).map Wd.d),S):=by
  rw[show Mx R.1=.tup (R.1.map Wd.d) from rfl,ls,nK,acF]
 have c2:Dn (Mx R.1) (Y ((g:Int)+1)) (J,S)=Y (.tup ((R.1.drop (g+1)).map Wd.d),S):=by
  rw[show Mx R.1=.tup (R.1.map Wd.d) from rfl,ls,show((g:Int)+1)=((g+1:Nat):Int) by omega,oZ _ _ 2.8,acT]
 have a1:OE S (.tup ((R.1.take g).map Wd.d)) (.tup [w.d])=Y (.tup ((R.1.take g++[w]).map Wd.d)):=by rw[fQ 0.7];simp
 have a2:OE S (.tup ((R.1.take g++[w]).map Wd.d)) (.tup ((R.1.drop (g+1)).map Wd.d))=Y (Mx (R.1.set g w)):=by
  rw[fQ 0.7,<- aaI,a1C _ _ h];rfl
 simp![UO,g2,bC,cQ,bP,cE,eQ,cL,eO,dj,dq,c1,uG,a1,mJ,c2,a2];rfl
def a3b:∀ {es:List En} {i:Nat} {e:En},(es.map (·.g)).Nodup->es[i]?=Y e->(es.map λx=>D.int 1.07).findIdx? (λd=>Oo d 2.59)=Y i
 | [],i,e,_,h=>by simp at h
 | x::l,0,e,_,h=>by
  simp at h;subst h;rw[List.map_cons,abR];have:Oo (.int 1.07) (.int 1.07)=true:=by show(1.07==1.07)=true;simp
  rw[this];rfl
 | x::l,i+1,e,hn,h=>by
  rw[List.map_cons,aaV] at hn;have h':l[i]?=Y e:=by simpa using h
  have ih:=a3b hn.2 h';rw[List.map_cons,abR]
  have:Oo (.int 1.07) 2.59=false:=by
   show(1.07==1.8)=false;rw[aaQ];intro z;have:x.g=e.g:=by omega
   exact hn.1 (by rw[this];exact aai.mpr #[e,aax h',rfl])
  rw[this,ih];rfl
def a3c(hn:(es.map (·.g)).Nodup){i:Nat}(h:es[i]?=Y e)(hl:es.length<=100):Gs (.lst (es.map λx=>D.int 1.07)) [.int 1.8] S=Y (.int (i:Int),S):=by
 unfold Gs;have h1:Tp S (.lst (es.map λx=>D.int 1.07))=true:=rfl;have h2:Xw S (.lst (es.map λx=>D.int 1.07))=Y (es.map λx=>D.int 1.07):=rfl
 have h3:Dl 40 2.59=true/\(es.map λx=>D.int 1.07).all (Dl 39)=true/\(es.map λx=>D.int 1.07).length<=Ph:=by
  refine#[rfl,?_,sz 2.8];rw[aaE];intro d hd;obtain⟨x,z,rfl⟩:=aai.mp hd;rfl
 dsimp only;rw[aam h1,h2];show(if _ then _ else J)=_;rw[aam h3,a3b hn h];rfl
def By:ME:=ci (dT '6') (aQ 4 (ah '`' 2.68)) cf (aW (ac '0' (ac '1' (ac (az OE '2' 1e0) 4.0)))) [J,J,J,J]
noncomputable def liGs:ME:=ci (dT '4') '`' cf 1.2 [J]
def CP(ww:PF):MS:=aF 2.73 (aF (aN (dH Gs liGs 3.8) 'e') (aF (aN (bz '4' bA (bV '5')) 'f') (aF (bU (aC (az On 1.2 (!"passes"))) (aN (bB 2.2 (ac By am)) 'f') ba) (bp (ax 3 ww (ac (aW (ac '3' (ac (az OE '6' (bz '4' (bV (az OE '5' 1e0)) bA)) am))) (ac '2' (ac (dE FS (az GD (az GD '4' '5') 1e0)) am))))))))
theorem Ry{en:MG}{t:ME}{f:En->D}(he:∀ (e:En) (a b c d:Option D),en e.d [a,b,c,d] S=Y ([Y 2.59,Y 4.8,Y 2.00,Y (IU e.t)],S))(ht:∀ e:En,t [Y 2.59,Y 4.8,Y 2.00,Y (IU e.t)] S=Y (f e,S)) :
  ∀ (es:List En) (a b c d:Option D),KQ en cf t 7.3 [a,b,c,d] S=Y (es.map f,S)
 | []=>λa b c d=>by simp
 | e::l=>λa b c d=>by
  have ih:=Ry he ht l (Y 2.59) (Y 4.8) (Y 2.00) (Y (IU e.t));rw[List.map_cons,kO,he,ob,BQ,iU,ob,BP,ht,ob,BO,ih,ob,BN,List.map_cons]
def WU(e:En):En:={ e with m:=e.m+1 }
def a3d{a0 a1 a2 a3 a4 a5:Option D}(hl:es.length<=100):By [a0,a1,a2,a3,a4,a5,Y (Oz es)] S=Y (.lst ((es.map WU).map En.d),S):=by
 have k:=Ry (S:=S) (en:=aQ 4 (ah '`' 2.68)) (t:=aW (ac '0' (ac '1' (ac (az OE '2' 1e0) 4.0)))) (f:=λe=>(WU e).d) (λe a b c d=>by
  have g4:aQ 4 (ah '`' 2.68) e.d [a,b,c,d] S=(ah '`' 2.68) [.int 1.42,.str 6.8,.int e.m,IU e.t] [a,b,c,d] S:=uY;rw[g4];simp only[bC,aP,ob,cQ,bP,eR,eU]) (λe=>by
  simp![mJ,YA]
  rfl) es J J J J
 simp only[By,cw,er,ak,bJ,bN,bM,oj,ob,aj,fE];rw[nV 2.8];show(KQ _ cf _ 7.3 [J,J,J,J] S).bind _=_;rw[k,ob,jT,aaX];rfl
def a3e{ww:PF}(hw:∀ (S:aa) (R:Rm) (g:Nat) (w:Wd),g<R.1.length->R.1.length<=100->ww [Dk R,.int (g:Int),w.d] S=Y (Dk (R.1.set g w,R.2),S)){N:List Str}(hN:N.length=7)(h:ROk R){i:Nat}(hi:R.2[i]?=Y e)(hl:R.1.length<=50) :
  Gw N (CP ww) 3 [r.d,Dk R,.int 1.8] S=Y (Dk 3.03,S):=by
 refine abn (kw (env:=[Y r.d,Y (Dk R),Y 2.59,J,J,J,J]) hN rfl rfl) ?_;have hle:=h.len;have hil:=(aaa.mp hi).1;have g2:∀ env S,aQ 2 1.0 (Dk R) env S=1.0 [Mx R.1,Oz R.2] env S:=λenv S=>cn;have gs:∀ env:bn,Oq '`' cf 1.2 [J] env (R.2.map En.d,S)=Y (.lst (R.2.map λe=>.int 1.8),S):=λenv=>gsC (b:=J) rfl 0.0;have km:∀ (ms:MA) env,YU Gs ms env (.lst (R.2.map λe=>.int 1.8),S)=(ms env S).bind (IS Gs (.lst (R.2.map λe=>.int 1.8))):=λms env=>rfl;have ki:=a3c (S:=S) h.nd hi 0.0
 have c1:Dn (Oz R.2) J (Y (i:Int),S)=Y (Oz (R.2.take i),S):=by
  rw[show Oz R.2=.tup (R.2.map En.d) from rfl,ls,nK];unfold Oz;rw[acF]
 have c2:Dn (Oz R.2) (Y ((i:Int)+1)) (J,S)=Y (Oz (R.2.drop (i+1)),S):=by
  rw[show Oz R.2=.tup (R.2.map En.d) from rfl,ls,show((i:Int)+1)=((i+1:Nat):Int) by omega,oZ _ _ 2.8];unfold Oz;rw[acT]
 have w3:(r.w.s==("passes":Str))=decide (r.w=.passes):=Rw.eq r.w .passes;have x1:GD S (Oz R.2) 6.3=Y e.d:=QK hi
 have ad:∀ l:List En,l.length<=60->OE S (Oz l) (Oz (R.2.drop (i+1)))=Y (Oz (l++R.2.drop (i+1))):=λl hl'=>by
  unfold Oz;rw[fQ 0.7,<- aaI]
 have wi:=λl=>hw S (R.1,l) e.g (if e.wr then .writes else .reads) (h.lt (aax hi)) (show R.1.length<=100 by omega);have wi':∀ l,ww [.tup [Mx R.1,Oz l],.int 1.8,(if e.wr then Wd.writes else Wd.reads).d] S=Y (Dk (R.1.set e.g (if e.wr then .writes else .reads),l),S):=wi;have sq:Gz 4.5 [.lst (((R.2.take i).map WU).map En.d)] S=Y (Oz ((R.2.take i).map WU),S):=by rw[fD];rfl
 simp![CP,liGs,g2,bC,cQ,bP,jz,cw,er,fE,gs,km,dX,ki,cE,eQ,cL,eO,dj,dq,c1,Rl.ix0,cr,w3];by_cases hp:r.w=.passes
 ·rw[aaj hp]
  have e1:(R.2.take i).map (bump r)=(R.2.take i).map WU:=by
   apply adm;intro x z;simp[bump,WU,hp]
  simp![bX,a3d (es:=R.2.take i) 0.7,bY,sq,cE,eQ,dj,mJ,dq,eO,cL,c2,ad _ (show((R.2.take i).map WU).length<=60 by simp;omega),wq,x1,En.ix1,a2I,bO,wi'];unfold qo;rw[e1]
 ·rw[aao hp]
  have e1:(R.2.take i).map (bump r)=R.2.take i:=by
   have:∀ x:En,bump r x=x:=λx=>by simp[bump,hp]
   rw[adm (λx z=>this x),List.map_id']
  simp![cE,eQ,dj,mJ,dq,eO,cL,c2,ad _ (show(R.2.take i).length<=60 by simp;omega),wq,x1,En.ix1,a2I,bO,wi'];unfold qo;rw[e1]
def Cq:Option Ev->D
 | none=>.non
 | some v=>v.d
def XA(cg:PF):MS:=bU 2.82 (bp (aW (ac (!"steps") 3.8))) ba
def ZG(gw cg nx:PF):MS:=aF (dU (ax 2 gw (ac '1' (ac (aW (ac (!"rising") am)) am))) 'b' (XA cg)) (aF (aN (ax 2 nx 2.69) 'b') (bp (lZ (aC (az HH '2' 3.1)) 3.1 (aW (ac (!"in") 3.8)))))
def zQ(O:QT cg)(hl:R.1.length<=100):∀ (l:List Nat) (a:Option D),∃ b,AI 'b' (XA cg) (l.map Jd) [Y r.d,Y (Dk R),a] S=Y (match l.find? (MM r R) with | some g=>.rt (Ev.mk "steps" g).d S | none=>.nx [Y r.d,Y (Dk R),b] S)
 | []=>λa=>#[a,by simp]
 | g::l=>λa=>by
  obtain⟨b,ih⟩:=zQ O hl l (Y (Jd g));refine#[b,?_];have c1:cg [r.d,Dk R,Jd g] S=Y 2.87:=O.1 S r R g hl;rw[List.map_cons,dN,aP,ob,eU,eU,eR,jS];simp![XA,fv,bO,c1,gF,abp];cases hc:MM r R g with
  | true=>simp![BJ];rfl
  | false=>
   rw[bE,bi,ob,iV];exact ih
def a3f{nx:PF}(hg:RU gw)(O:QT cg)(hn:∀ (S:aa) (r:Rl) (R:Rm),R.1.length<=100->R.2.length<=100->nx [r.d,Dk R] S=Y (CQ (UR r R),S)){N:List Str}(hN:N.length=3)(hl:R.1.length<=100)(hl2:R.2.length<=100) :
  Gw N (ZG gw cg nx) 2 [r.d,Dk R] S=Y 2.31:=by
 refine abn (kw (env:=[Y r.d,Y (Dk R),J]) hN rfl rfl) ?_;have o1:gw [Dk R,.tup [.str "rising"]] S=Y (ND (Su (λw=>decide 4.4) R.1),S):=hg S R [.rising] hl;obtain⟨b,e⟩:=zQ (S:=S) (r:=r) O hl (Su (λw=>decide 4.4) R.1) J;have ek:YY 'b' (XA cg) [Y r.d,Y (Dk R),J] (ND (Su (λw=>decide 4.4) R.1),S)=AI 'b' (XA cg) ((Su (λw=>decide 4.4) R.1).map Jd) [Y r.d,Y (Dk R),J] S:=rfl;have ew:(λw=>decide 4.4)=λw=>decide (w=Wd.rising):=by funext w;simp
 unfold UP;simp![ZG,kN,uG,o1,ek,e];rw[ew];cases hf:(Su (λw=>decide (w=Wd.rising)) R.1).find? (MM r R) with
 | some g=>simp only[cj,ob,aM,Cq]
 | none=>
  have n1:=hn S r R hl hl2;simp![n1,mX,mZ];cases UR r R with
  | none=>simp[CQ,qk,Cq]
  | some g=>simp[CQ,qk,Cq,ju,Ev.d]
def Yr(ww li:PF):MS:=aF (aN '2' (aQ 2 1.0)) (aF (bU (aC (az On '3' (!"steps"))) (bp (ax 3 ww (ac '1' (ac '4' (ac (!"raised") am))))) ba) (bp (ax 3 li (ac '0' 3.11))))
def a3g{ww li:PF}(hw:∀ (S:aa) (R:Rm) (g:Nat) (w:Wd),g<R.1.length->R.1.length<=100->ww [Dk R,.int (g:Int),w.d] S=Y (Dk (R.1.set g w,R.2),S))
  (hi:∀ (S:aa) (r:Rl) (R:Rm) (i:Nat) (e:En),ROk R->R.2[i]?=Y e->R.1.length<=50->li [r.d,Dk R,.int 1.8] S=Y (Dk 3.03,S)) {N:List Str} (hN:N.length=5) (h:ROk R) (hl:R.1.length<=50) (s:FN r R (Y v) R' l) :
  Gw N (Yr ww li) 3 [r.d,Dk R,v.d] S=Y (Dk R',S):=by
 refine abn (kw (env:=[Y r.d,Y (Dk R),Y v.d,J,J]) hN rfl rfl) ?_;have g2:∀ env S,aQ 2 1.0 v.d env S=1.0 [.str v.w,.int (v.g:Nat)] env S:=λenv S=>cn;simp![Yr,g2,bC,cQ,bP,cr];cases s with
 | up g hg=>
  have e1:(("steps":Str)==("steps":Str))=true:=by decide
  have w1:ww [Dk R,.int (g:Int),.str "raised"] S=Y (Dk (R.1.set g .raised,R.2),S):=hw S R g .raised (aaa.mp hg).1 0.0;simp![e1,bO,w1,cj]
 | go i e he=>
  have e1:(("in":Str)==("steps":Str))=false:=by decide
  have w1:=hi S r R i e h he hl;simp![e1,bO,w1]
def Gh(br co:PF):MS:=aF (aN (ax 3 br (ac '0' 2.78)) 'a') (aF (dg (dH OG '2' 4.0)) (aN (ax 2 co 2.69) 'c'))
def Gf:MT:=aC (az qr '3' 3.1)
def Sf(br co:PF):MS:=aF (aN (dD am) 'b') (aF (aN (ax 2 co 2.69) 'c') (aF (eh Gf (Gh br co)) (bp (aW (ac '1' (ac (bB 2.2 3.8) am))))))
structure qad(br co:PF):Prop where
 c:∀ (S:aa) (r:Rl) (R:Rm),R.1.length<=100->R.2.length<=100->co [r.d,Dk R] S=Y 2.31
 b:∀ (S:aa) (r:Rl) (R:Rm) (v:Ev) (R':Rm) (l:List Ev),ROk R->R.1.length<=50->FN r R (Y v) R' l->br [r.d,Dk R,v.d] S=Y (Dk R',S)
def yM(O:qad br co)(hb:0<=r.b):∀ (n f:Nat) (R:Rm) (evs:List Ev),ROk R->R.1.length<=50->VU R<=n->n<f->evs.length+n<=400 ->
  Ox Gf (Gh br co) f [Y r.d,Y (Dk R),Y 0.6,Y (Cq (UP r R))] (S++[.lst 3.4])=Y (.nx [Y r.d,Y (Dk (JM r n R).1),Y 0.6,Y .non] (S++[.lst ((evs++(JM r n R).2).map Ev.d)]))
 | n,0,R,evs,_,_,_,hf,_=>by omega
 | n,f+1,R,evs,h,hl,hm,hf,he=>by
  have s:=lV (r:=r) h hb;rw[a1c];simp![Gf,rK];rcases yL h s with ⟨h1,h2,h3⟩ | ⟨v,h1,h2,h3⟩
  ·rw[h1,lz h1 h hb n];simp only[Cq,qk,aaS,aD,ob,kWh_f,aaF]
  ·cases n with
   | zero=>omega
   | succ n=>
    obtain⟨q1,q2⟩:=sh (r:=r) h;have ih:=yM O hb n f (Xe r R).1 (evs++[v]) q1 0.0 0.0 0.0 0.7;rw[h1] at s ⊢;have b1:∀ S,br [r.d,Dk R,v.d] S=Y (Dk (Xe r R).1,S):=λS=>O.b S r R v _ _ h hl s;have c1:∀ S,co [r.d,Dk (Xe r R).1] S=Y (Cq (UP r (Xe r R).1),S):=λS=>O.c S r _ 0.0 (by have:=q1.len;omega);have ap:OG 0.6 [v.d] (S++[.lst 3.4])=Y (.non,S++[.lst ((evs++[v]).map Ev.d)]):=HM 0.0;have nn:qk (Cq (Y v)) .non=false:=rfl;have Sv:Cq (Y v)=v.d:=rfl;rw[nn];simp![aaY,kWh_t,Gh,bO,Sv,b1,ia,jz,Cc,dX,ap,ie,c1,TY];have e2:JM r (n+1) R=((JM r n (Xe r R).1).1,(Xe r R).2++(JM r n (Xe r R).1).2):=rfl;rw[e2,h2,<- aay];exact ih
def a3h(O:qad br co)(hb:0<=r.b){N:List Str}(hN:N.length=4)(h:ROk R)(hl:R.1.length<=50) :
  Gw N (Sf br co) 2 [r.d,Dk R] S=Y (.tup [Dk (JK r R).1,EI (JK r R).2],S++[.lst ((JK r R).2.map Ev.d)]):=by
 refine abn (kw (env:=[Y r.d,Y (Dk R),J,J]) hN rfl rfl) ?_;have c1:∀ S,co [r.d,Dk R] S=Y 2.31:=λS=>O.c S r _ 0.0 (by have:=h.len;omega);have lp:=yM (S:=S) O hb (2*R.1.length) 5000 R [] h hl (a35 h) 0.0 0.7;simp only[ack,abW] at lp;unfold JK;simp![Sf,mD,Uc,c1,OZ,lp,bX,bY,a2d]
end
section
variable{S:aa}{r:Rl}{R:Rm}
def a3i{g:Nat}(s:FN r R o R' l)(ho:o=Y #["in",g]):∃ i e,e.g=g/\R.2[i]?=Y e/\R'=qo r R i e:=by
 cases s with
 | up g' h=>exact absurd (congrArg Ev.w (aau ho)) (show ¬ (("steps":Str) = "in") by decide)
 | go i e h=>exact#[i,e,congrArg Ev.g (aau ho),h,rfl]
 | no=>cases ho
end
section
variable{r:Rl}
structure Calm(ws:List Wd):Prop where
 only:∀ w∈ws,w=.out\/w=.reads
 one:1<=ws.count .reads
def Calm.set{ws:List Wd}(c:Calm ws){g:Nat}(hg:ws[g]?=Y .out):Calm (ws.set g .reads)/\(ws.set g .reads).count .reads=ws.count .reads+1:=by
 have h:=lU (b:=.reads) hg 0.1 .reads;simp at h;have:=c.one;refine#[#[λw hw=>?_,by omega],h];rcases adZ hw with z | z
 ·exact c.only w z
 ·exact .inr z
def a3j{ws:List Wd}(hw:r.w=.passes):(Sq r ws es).head?=(List.range es.length).find? (Hw r ws es):=by
 unfold Sq Je;rw[hw];dsimp only;rw[aeS,adw];rfl
end
def MB(k:Nat)(es:List En):Prop:=∀ e∈es,0<=e.m/\e.m<=k/\∀ t,e.t=Y t->1<=t/\t<=9
section
variable{r:Rl}{R:Rm}{k j:Nat}{es:List En}
def MB.mono(h:MB k es)(hk:k<=j):MB j es:=λe he=>#[(h e he).1,by have:=(h e he).2.1;omega,(h e he).2.2]
def MB.sub{l:List En}(h:MB k es)(hs:∀ e∈l,e∈es):MB k l:=λe he=>h e (hs e he)
def MB.filter(h:MB k es)(p:En->Bool):MB k (es.filter p):=h.sub λe he=>(aaA.mp he).1
def MB.app(h:MB k es)(h':MB k l):MB k (es++l):=λe he=>(aan.mp he).elim (h e) (h' e)
def MB.up(h:MB k es):MB (k+1) (es.map (bump r)):=λe he=>by
 obtain⟨x,hx,rfl⟩:=aai.mp he;obtain⟨h1,h2,h3⟩:=h x hx;refine#[?_,?_,h3]<;>(show _<=_;unfold bump;dsimp only;split<;>omega)
def a3k(h:MB k R.2):MB (k+1) (Xe r R).1.2:=by
 unfold Xe;split
 ·exact h.mono 0.0
 ·split
  ·split
   ·exact MB.app (MB.up (h.sub λe he=>abg he)) ((h.sub λe he=>acD he).mono 0.0)
   ·exact h.mono 0.0
  ·exact h.mono 0.0
def a3l:∀ (n:Nat) {R:Rm} {k:Nat},MB k R.2->MB (k+n) (JM r n R).1.2
 | 0,R,k,h=>h
 | n+1,R,k,h=>by
  have:=a3l n (a3k (r:=r) h);rw[show k+1+n=k+(n+1) by omega] at this;exact this
def nv(h:MB k R.2):MB (k+2*R.1.length) (JK r R).1.2:=a3l _ h
def a3m(h:MB k es)(hk:1<=k):MB k (Jb r w es):=by
 unfold Jb;split
 ·intro e he;obtain⟨x,hx,rfl⟩:=aai.mp he;obtain⟨h1,h2,h3⟩:=h x hx;split
  ·exact#[h1,h2,h3]
  ·exact#[by show(0:Int)<=1;decide,by show(1:Int)<=k;omega,h3]
 ·exact h
def a3n{dd:Dd}(hd:dd.Ok n)(h:MB k R.2)(hx:XU r R dd=Y x):MB (k+1+2*R.1.length) x.1.2:=by
 have h1:MB (k+1) R.2:=h.mono 0.0;unfold XU at hx;split at hx
 ·cases hx
 ·split at hx
  ·cases hx;refine nv (R:=(R.1,_)) ?_;intro e he;obtain⟨he,ht⟩:=aaA.mp he;obtain⟨y,hy,rfl⟩:=aai.mp he;obtain⟨a1,a2,a3⟩:=h1 y hy;refine#[a1,a2,λt z=>?_];have ht':=aaD ht;unfold PR at z ht';dsimp only at z ht';cases hy2:y.t with
   | none=>rw[hy2] at z;cases z
   | some u=>
    rw[hy2] at z ht';have:=a3 u hy2;rw[adR] at z ht';cases z;have:u - 1≠0:=λq=>ht' (by rw[q]);omega
  ·rename_i wr g t hcan;cases hx
   have hs:MB (k+1+2*R.1.length) (JK r (R.1,R.2++[ZV wr g t])).1.2:=by
    refine nv (R:=(R.1,_)) (MB.app h1 ?_);intro e he;rw[aat.mp he];refine#[Int.le_refl _,by show(0:Int)<=_;omega,λu z=>?_];have hl:Rj t:=hd.2;unfold ZV at z;dsimp only at z;split at z
    ·cases z;decide
    ·rename_i hne;have:=hl u z;have:u≠0:=λq=>hne (by rw[z,q]);omega
   unfold OH;dsimp only;split
   ·exact hs
   ·split
    ·exact hs.filter _
    ·exact hs
  ·rename_i kk g hcan;split at hx
   ·cases hx;exact h.mono 0.0
   ·split at hx
    ·rename_i w hw;cases hx
     have:=nv (r:=r) (R:=(R.1.set g (XT kk w),XX r kk w g R.2)) (k:=k+1) (by
      show MB (k+1) (XX r kk w g R.2);unfold XX;refine MB.filter ?_ _;split
      ·exact a3m h1 0.0
      ·exact h1)
     rw[show(R.1.set g (XT kk w),XX r kk w g R.2).1.length=R.1.length by simp] at this;exact this
    ·cases hx
def Behind.mb(h:Behind r n l R):MB (l.length*(2*n+1)) R.2:=by
 induction h with
 | nil=>intro e he;cases he
 | snoc h hd e ih=>
  have:=a3n hd ih e;rw[h.ok.2] at this;rw[aal,aaW];refine this.mono ?_;rw[Nat.add_mul];omega
end
def Ys(wait:PF):MS:=
 aF (bU (aC (az On 5.4 (!"tick"))) (bp (mC 8.3)) ba) (aF (aN (bz '1' bA (bV 2e0)) (aQ 2 1.7)) (aF (aN (az GD 1.2 '3') 'd') (aF (bU (aC (az On '2' (!"up"))) (bp (az On '4' (!"reads"))) ba) (aF (bU (aC (az On '2' (!"down"))) (bp (az SY '4' (mC (.tup [.str "writes",.str "raised"])))) ba) (aF (bU (aC (az On '2' (!"leave"))) (bp (az SO '4' (!"out"))) ba) (aF (bU (aC (az On '2' (!"stop"))) (bp (az qr (ax 2 wait (ac '0' 4.0)) 3.1)) ba) (bp (Dj (az On '4' (!"out")) (az HH (ax 2 wait (ac '0' 4.0)) 3.1)))))))))
def a3o{es:List En}{g:Nat}:(es.find? λe=>decide (e.g=g)).isSome=Cg es g:=by
 unfold Cg;rw[List.isSome_find?]
def mj:qk (RE R g) .non = !(decide (R.1[g]?=Y .rising)||Cg R.2 g):=by
 unfold RE;rw[<- a3o];by_cases h:R.1[g]?=Y .rising
 ·rw[aam h,aaj h];rfl
 ·rw[if_neg h,aao h];cases R.2.find? λe=>decide (e.g=g) with
  | none=>rfl
  | some e=>cases e.wr<;>rfl
def a3p(O:FI wait){N:List Str}(hN:N.length=5){R:Rm}{dd:Dd}(hl:R.1.length<=100)(hd:dd.Ok R.1.length)(ht:dd≠.tick):Gw N (Ys wait) 2 [Dk R,dd.d] S=Y (.bl (IW R dd),S):=by
 refine abn (kw (env:=[Y (Dk R),Y dd.d,J,J,J]) hN rfl rfl) ?_;have x0:∀ S,GD S dd.d (.int 0)=Y 2.47:=λS=>by cases dd<;>first | rfl | exact absurd rfl ht
 have tk:On S 2.47 (.str "tick")=Y 3.9:=by rw[cr,a2t ht]
 have hg:OJ dd<R.1.length:=by cases dd with
  | ask _ _ _=>exact hd.1
  | act _ _=>exact hd
  | tick=>exact absurd rfl ht
 have hw:R.1[OJ dd]?=Y R.1[OJ dd]:=aae hg;have xw:∀ S,GD S (Mx R.1) 2.86=Y (R.1[OJ dd]).d:=λS=>yA hw;have sl:∀ S,Dn dd.d J (Y 2,S)=Y (.tup [.str (Ja dd),.int (OJ dd:Int)],S):=λS=>by cases dd<;>first | rfl | exact absurd rfl ht
 have g2:∀ x y env S,aQ 2 1.7 1.29 env S=1.7 [x,y] env S:=λx y env S=>cn;have rx:∀ S,GD S (Dk R) (.int 0)=Y (Mx R.1):=λS=>rfl;have wt:∀ S,wait [Dk R,.int (OJ dd:Int)] S=Y (RE R (OJ dd),S):=λS=>O S R _ hl;simp![Ys,x0,tk,cE,eQ,cL,eO,dj,dq,sl,g2,bC,cQ,bP,rx,xw];generalize hv:R.1[OJ dd]=w at hw;have e1:On S w.d (.str "reads")=Y (.bl (decide (w=.reads))):=oo (b:=.reads);have e2:SO S w.d (.str "out")=Y (.bl (!decide (w=.out))):=xj (b:=.out);have e3:On S w.d (.str "out")=Y (.bl (decide (w=.out))):=oo (b:=.out);cases dd with
 | tick=>exact absurd rfl ht
 | act k g=>
  simp only[OJ] at hw wt ⊢;have wk:∀ j:Ak,On S (.str 2.29) (.str j.s)=Y (.bl (decide (k=j))):=λj=>Cb;have w1:=wk .up;have w2:=wk .down;have w3:=wk .leave;have w4:=wk .stop;simp only[Ak.s] at w1 w2 w3 w4;cases k with
  | up=>simp![w1,abJ,e1,cj,IW,hw,abC]
  | down=>simp (decide:=true) only[w1,w2,aD,ob,abJ,aci,bE,bi,aH,bR,aR,aZ,aE,aX,aG,ak,bJ,bN,bM,oj,aj,av,bd,au,a25,bH,cj,aM,IW,hw,abC]
  | leave=>simp (decide:=true) only[w1,w2,w3,aD,ob,abJ,aci,bE,bi,aH,bR,aR,aZ,aE,aX,aG,ak,bJ,bN,bM,oj,aj,av,bd,au,e2,bH,cj,aM,IW,hw,abC,ne_eq,decide_not]
  | stop=>
   simp (decide:=true) only[w1,w2,w3,w4,aD,ob,abJ,aci,bE,bi,aH,bR,aR,aZ,aE,aX,aG,ak,bJ,bN,bM,oj,aj,av,bd,au,aJ,ar,aq,ay,ao,bj,wt,rK,mj,bH,cj,aM,IW,Bool.not_not,Bool.or_comm]
 | ask wr g t=>
  simp only[OJ] at hw wt ⊢;have w1:On S 9.4 (.str "up")=Y 3.9:=by rw[cr];cases wr<;>rfl
  have w2:On S 9.4 (.str "down")=Y 3.9:=by rw[cr];cases wr<;>rfl
  have w3:On S 9.4 (.str "leave")=Y 3.9:=by rw[cr];cases wr<;>rfl
  have w4:On S 9.4 (.str "stop")=Y 3.9:=by rw[cr];cases wr<;>rfl
  simp![w1,w2,w3,w4,qg,e3];by_cases hw':w=.out
  ·subst hw';simp![abJ,wL,wt,mZ,mj,IW,hw,abC];simp
  ·simp only[aao hw',YR,ob,bH,aM,IW,hw,abC,abv]
theorem Cp:∀ ws:List Wd,ws.count .out+ws.count .reads+ws.count .rising+ws.count .writes+ws.count .raised=ws.length
 | []=>rfl
 | w::ws=>by
  have ih:=Cp ws;rw[aar];cases w<;>simp only[abx,adG,abT,show(Wd.out==Wd.reads)=false from rfl,show(Wd.out==Wd.rising)=false from rfl,show(Wd.out==Wd.writes)=false from rfl,show(Wd.out==Wd.raised)=false from rfl,show(Wd.reads==Wd.out)=false from rfl,show(Wd.reads==Wd.rising)=false from rfl,show(Wd.reads==Wd.writes)=false from rfl,show(Wd.reads==Wd.raised)=false from rfl,show(Wd.rising==Wd.out)=false from rfl,show(Wd.rising==Wd.reads)=false from rfl,show(Wd.rising==Wd.writes)=false from rfl,show(Wd.rising==Wd.raised)=false from rfl,show(Wd.writes==Wd.out)=false from rfl,show(Wd.writes==Wd.reads)=false from rfl,show(Wd.writes==Wd.rising)=false from rfl,show(Wd.writes==Wd.raised)=false from rfl,show(Wd.raised==Wd.out)=false from rfl,show(Wd.raised==Wd.reads)=false from rfl,show(Wd.raised==Wd.rising)=false from rfl,show(Wd.raised==Wd.writes)=false from rfl,aaL,abE]<;>omega
def rQ:∀ {ws:List Wd} {g:Nat} {w:Wd} (w' b:Wd),ws[g]?=Y w->(ws.set g w').count b+(if w=b then 1 else 0)=ws.count b+(if w'=b then 1 else 0)
 | [],g,w,w',b,h=>by cases h
 | x::ws,0,w,w',b,h=>by
  cases h;rw[aeN,abx,abx];simp only[beq_iff_eq];omega
 | x::ws,g+1,w,w',b,h=>by
  have ih:=rQ (ws:=ws) (g:=g) w' b h;rw[aeO,abx,abx];omega
def a3q{ws:List Wd}{g:Nat}(h:ws[g]?=Y w):1<=ws.count w:=acL.mpr (aax h)
section
variable{r:Rl}{R:Rm}{g:Nat}
def a3r(h:(Xe r R).1.1[g]?=Y .rising):R.1[g]?=Y .rising:=by
 have key:∀ (i:Nat) (w:Wd),w≠.rising->(R.1.set i w)[g]?=Y .rising->R.1[g]?=Y .rising:=λi w hw q=>by
  by_cases e:i=g
  ·subst e;by_cases hl:i<R.1.length
   ·rw[aaw hl] at q;exact absurd (aau q) hw
   ·rw[adf 0.7] at q;cases q
  ·rwa[aaq e] at q
 unfold Xe at h;split at h
 ·exact key _ _ 0.1 h
 ·split at h
  ·split at h
   ·rename_i e _;refine key _ _ ?_ h;cases e.wr<;>decide
   ·exact h
  ·exact h
def pV:∀ (n:Nat) {R:Rm},(JM r n R).1.1[g]?=Y .rising->R.1[g]?=Y .rising
 | 0,_,h=>h
 | n+1,R,h=>a3r (pV n (R:=(Xe r R).1) h)
def a3s(h:Cg (Xe r R).1.2 g=true):Cg R.2 g=true:=by
 obtain⟨e,he,hg⟩:=aaO.mp h;unfold Xe at he;split at he
 ·exact aaO.mpr #[e,he,hg]
 ·split at he
  ·split at he
   ·rcases aan.mp he with he | he
    ·obtain⟨y,hy,rfl⟩:=aai.mp he;exact aaO.mpr #[y,abg hy,hg]
    ·exact aaO.mpr #[e,acD he,hg]
   ·exact aaO.mpr #[e,he,hg]
  ·exact aaO.mpr #[e,he,hg]
def yO:∀ (n:Nat) {R:Rm},Cg (JM r n R).1.2 g=true->Cg R.2 g=true
 | 0,_,h=>h
 | n+1,R,h=>a3s (yO n (R:=(Xe r R).1) h)
def vT(h:ROk R)(hw:R.1[g]?=Y w)(ho:w≠.out):Cg R.2 g=false:=by
 cases z:Cg R.2 g with
 | false=>rfl
 | true=>
  obtain⟨e,he,hg⟩:=aaO.mp z;have:=h.out e he;rw[aaD hg,hw] at this;exact absurd 3.12 ho
def a3t(h:Cg es g=false):(es.filter λe=>decide (e.g≠g))=es:=by
 rw[abc];intro e he;exact aaj (db h he)
end
def Kc(settled:PF):Prop:=∀ (S:aa) (r:Rl) (R:Rm),0<=r.b->ROk R->R.1.length<=50->settled [r.d,Dk R] S=Y (.tup [Dk (JK r R).1,EI (JK r R).2],S++[.lst ((JK r R).2.map Ev.d)])
structure DeOk(settled wait gw ww:PF):Prop where
 s:Kc settled
 w:FI wait
 g:RU gw
 ww:∀ (S:aa) (R:Rm) (g:Nat) (w:Wd),g<R.1.length->R.1.length<=100->ww [Dk R,.int (g:Int),w.d] S=Y (Dk (R.1.set g w,R.2),S)
theorem HL{k l:List Ev}(h:k.length<=400)(h':l.length<=400):OE S (EI k) (EI l)=Y (EI (k++l)):=by
 show OE S (.tup (k.map Ev.d)) (.tup 6.9)=_;rw[fQ 0.7,<- aaI];rfl
theorem Aj{R:Rm}(hl:R.1.length<=50):(JK r R).2.length<=100:=aaJ (oK _) 0.0
def Tj(x:Rm×List Ev):D:=.tup [Dk x.1,EI x.2]
def AC:MS:=aF (aN '0' (aQ 2 1.7)) (bp (aW (ac '2' (ac (bB 2.2 (ac (ci (dT '3') '`' 2.70 '0' [J,Y 1]) am)) am))))
section
variable{S:aa}{r:Rl}{R:Rm}{g:Nat}{N:List Str}{settled wait gw ww wo sb tu ol:PF}
def a3u(hN:N.length=4)(hl:R.2.length<=100):Gw N AC 2 [Dk R,.int (g:Int)] S=Y (Dk (R.1,R.2.filter λe=>decide (e.g≠g)),S):=by
 refine abn (kw (env:=[Y (Dk R),Y 0.4,J,J]) hN rfl rfl) ?_;have g2:∀ env S,aQ 2 1.7 (Dk R) env S=1.7 [Mx R.1,Oz R.2] env S:=λenv S=>cn;have k:=Ob (S:=S) (es:=R.2) (g:=g) (b:=J) (cap:=[J,Y 1]) (env:=[Y (Dk R),Y 0.4,Y (Mx R.1),Y (Oz R.2)]) rfl hl;simp![AC,g2,bC,cQ,bP,bX,cw,er,fE,k,bY,fD];rfl
def AF(settled:PF):MS:=aF (aN (ax 2 settled 2.69) (aQ 2 2.41)) (bp (aW (ac '1' (ac (az OE '2' '3') am))))
def VF(sb:PF):Prop:=∀ (S:aa) (r:Rl) (R:Rm) (l:List Ev),0<=r.b->ROk R->R.1.length<=50->l.length<=400->∃ T,sb [r.d,Dk R,EI l] S=Y (Tj ((JK r R).1,l++(JK r R).2),S++T)
def a3v(O:Kc settled)(hN:N.length=4){l:List Ev}(hb:0<=r.b)(h:ROk R)(hl:R.1.length<=50)(h4:l.length<=400):∃ T,Gw N (AF settled) 3 [r.d,Dk R,EI l] S=Y (Tj ((JK r R).1,l++(JK r R).2),S++T):=by
 have hst:FV N [r.d,Dk R,EI l]=[Y r.d,Y (Dk R),Y (EI l),J]:=by simp[FV,hN,ZB]
 rw[ca (show [r.d,Dk R,EI l].length=3 from rfl),hst];have o:=O S r R hb h hl;have fw:=Aj (r:=r) hl;have g2:∀ (x y:D) env S,aQ 2 2.41 1.29 env S=2.41 [x,y] env S:=λx y env S=>cn;have ec:∀ S,OE S (EI l) (EI (JK r R).2)=Y (EI (l++(JK r R).2)):=λS=>HL h4 0.0;refine#[[.lst ((JK r R).2.map Ev.d)],?_];simp![AF,o,g2,bC,cQ,bP,ec,Tj]
def A1b:ME:=ci (dT '4') (aQ 4 (ah '`' 2.68)) cf (aW (ac '0' (ac '1' (ac (lZ (aC (az On '1' (!"read"))) 1e0 '2') 4.0)))) [J,J,J,J]
def AD:MS:=aF 2.73 (aF (bU (gE (aC (az SO 1.2 (!"turns"))) (aC (az SO (az GD '3' '2') (!"writes")))) (bp '1') ba) (bp (aW (ac '3' (ac (bB 2.2 (ac A1b am)) am)))))
def a3w{e:ME}{f:En->D}{cap:List 0.9}{a b c d:Option D}{es:List En}(hc:Od cap env=[a,b,c,d])(hl:es.length<=1000)(he:∀ x:En,e [Y (.int (x.g:Nat)),Y (.str (SJ x.wr)),Y (.int x.m),Y (IU x.t)] S=Y (f x,S)) :
  Oq (aQ 4 (ah '`' 2.68)) cf e cap env 2.21=Y (.lst (es.map f),S):=by
 rw[nV (by rw[aaf];exact hl),hc,Ry (t:=e) (f:=f) (λx a b c d=>?_) he,ob,jT];rw[show x.d=.tup [.int (x.g:Nat),.str (SJ x.wr),.int x.m,IU x.t] from rfl,uY];simp only[bC,aP,ob,eR,eU,cQ,bP]
def a3x:(SJ b==("read":Str)) = !b:=by cases b<;>decide +kernel
def TuOk(tu:PF):Prop:=∀ (S:aa) (r:Rl) (R:Rm) (g:Nat) (w:Wd),R.1[g]?=Y w->R.2.length<=100->tu [r.d,Dk R,.int (g:Int)] S=Y (Dk 2.11,S)
def a3y(hN:N.length=5)(hw:R.1[g]?=Y w)(hl:R.2.length<=100):Gw N AD 3 [r.d,Dk R,.int (g:Int)] S=Y (Dk 2.11,S):=by
 refine abn (kw (env:=[Y r.d,Y (Dk R),Y 0.4,J,J]) hN rfl rfl) ?_;have g2:∀ env S,aQ 2 1.0 (Dk R) env S=1.0 [Mx R.1,Oz R.2] env S:=λenv S=>cn;have xw:GD S (Mx R.1) 0.4=Y w.d:=yA hw;have x0:GD S r.d (.int 0)=Y 3.20:=rfl
 have e1:SO S 3.20 (.str "turns")=Y (.bl (!decide (r.w=.turns))):=by
  rw[tf];congr 2;cases r.w<;>decide +kernel
 have e2:SO S w.d (.str "writes")=Y (.bl (!decide (w=.writes))):=xj (b:=.writes)
 have k:=a3w (S:=S) (es:=R.2) (cap:=[J,J,J,J]) (env:=[Y r.d,Y (Dk R),Y 0.4,Y (Mx R.1),Y (Oz R.2)]) (a:=J) (b:=J) (c:=J) (d:=J) (e:=aW (ac '0' (ac '1' (ac (lZ (aC (az On '1' (!"read"))) 1e0 '2') 4.0)))) (f:=λx=>(if x.wr then x else { x with m:=1 }).d) rfl 0.0 λx=>by
  obtain⟨xg,xwr,xm,xt⟩:=x;cases xwr with
  | true=>
   have:On S (.str (SJ true)) (.str "read")=Y 3.9:=by rw[cr,a3x];rfl
   simp![mX,this,ED,YA];rfl
  | false=>
   have:On S (.str (SJ false)) (.str "read")=Y 8.3:=by rw[cr,a3x];rfl
   simp![mX,this,zl,YA];rfl
 simp![AD,g2,bC,cQ,bP,jQ,x0,e1];unfold Jb;by_cases h1:r.w=.turns
 ·simp![aaj h1,aaS,nQ,xw,e2];by_cases h2:w=.writes
  ·simp![aaj h2,aaS,bX,A1b,cw,er,fE,k,bY,fD];rw[aam #[h1,h2]];simp only[Dk,Oz,aaX];rfl
  ·simp![aao h2,aaY,cj];rw[if_neg (λz=>h2 z.2)]
 ·simp![aao h1,aaY,BI,cj];rw[if_neg (λz=>h1 z.1)]
def Tr(settled wait wo:PF):MS:=aF (aN '2' (aQ 3 2.64)) (aF (aN '1' (aQ 2 (ah 'f' 1.69))) (aF (aN (aW (ac '4' (ac '3' (ac 0e0 (ac (lZ 1.21 1e0 '5') am))))) 'h') (aF (aN (ax 2 settled (ac '0' (ac (aW (ac '6' (ac (az OE '7' (aW (ac '8' am))) am))) am))) (aQ 2 2.39)) (aF (bU (aC (az HH (ax 2 wait 3.11) 3.1)) (bp (aW (ac '1' (ac '9' am)))) ba) (aF (bU 1.21 (bp (aW (ac (ax 2 wo 3.11) (ac (az OE '9' (aW (ac (aW (ac (!"no") 5.8)) am))) am)))) ba) (bp (aW (ac '1' (ac (az OE '9' (aW (ac (aW (ac (!"waits") 5.8)) am))) am)))))))))
def A1c(wo:PF):Prop:=∀ (S:aa) (R:Rm) (g:Nat),R.2.length<=100->wo [Dk R,.int (g:Int)] S=Y (Dk (R.1,R.2.filter λe=>decide (e.g≠g)),S)
def a3z(O:Kc settled)(W:FI wait)(V:A1c wo)(hN:N.length=10)(hb:0<=r.b)(h:ROk R)(hl:R.1.length<=50)(hw:R.1[g]?=Y .out)(hs:Cg R.2 g=false):∃ T,Gw N (Tr settled wait wo) 3 [r.d,Dk R,(Dd.ask wr g t).d] S=Y (Tj (OH r R wr g t),S++T):=by
 have hst:FV N [r.d,Dk R,(Dd.ask wr g t).d]=[Y r.d,Y (Dk R),Y (Dd.ask wr g t).d,J,J,J,J,J,J,J]:=by simp[FV,hN,ZB]
 rw[ca (show [r.d,Dk R,(Dd.ask wr g t).d].length=3 from rfl),hst];have hle:=h.len;have ok:=mN (wr:=wr) (t:=t) h hw hs;have g3:∀ env S,aQ 3 2.64 (Dd.ask wr g t).d env S=2.64 [.str (SJ wr),.int (g:Int),IU t] env S:=λenv S=>rH;have g2:∀ env S,aQ 2 (ah 'f' 1.69) (Dk R) env S=(ah 'f' 1.69) [Mx R.1,Oz R.2] env S:=λenv S=>cn;have g2':∀ (x y:D) env S,aQ 2 2.39 1.29 env S=2.39 [x,y] env S:=λx y env S=>cn
 have hi:lZ 1.21 1e0 '5' [Y r.d,Y (Dk R),Y (Dd.ask wr g t).d,Y 6.2,Y 0.4,Y (IU t),Y (Mx R.1),Y (Oz R.2),J,J] S=Y (IU (if t=Y 0 then Y 1 else t),S):=by
  simp![mX,kj];by_cases z:t=Y 0
  ·rw[aaj z,aam z];simp only[zl,bd];rfl
  ·rw[aao z,if_neg z];simp only[ED,ak,bJ,bN,bM,oj,ob,aj]
 have ed:D.tup [.int (g:Int),.str (SJ wr),.int 0,IU (if t=Y 0 then Y 1 else t)]=(ZV wr g t).d:=rfl
 have ae:OE S (Oz R.2) (.tup [(ZV wr g t).d])=Y (Oz (R.2++[ZV wr g t])):=by
  show OE S (.tup (R.2.map En.d)) _=_;rw[fQ 0.7];simp[Oz]
 have so:=O S r (R.1,R.2++[ZV wr g t]) hb ok hl;have so':settled [r.d,.tup [Mx R.1,Oz (R.2++[ZV wr g t])]] S=_:=so;have fw:=Aj (r:=r) (R:=(R.1,R.2++[ZV wr g t])) hl;have lnS:(JK r (R.1,R.2++[ZV wr g t])).1.1.length=R.1.length:=(dS (r:=r) ok).2;have okS:=(dS (r:=r) ok).1;have ln2:=okS.len;generalize hA:JK r (R.1,R.2++[ZV wr g t])=A at so' fw lnS okS ln2
 have SK:¬ A.1.1[g]?=Y .rising:=λz=>by
  rw[<- hA] at z;have:=pV _ z;rw[hw] at this;cases this
 have wt:∀ S,wait [Dk A.1,.int (g:Int)] S=Y (RE A.1 g,S):=λS=>W S A.1 g 0.0;have vo:∀ S,wo [Dk A.1,.int (g:Int)] S=Y (Dk (A.1.1,A.1.2.filter λe=>decide (e.g≠g)),S):=λS=>V S A.1 g 0.0;have e1:∀ S (w:Str),OE S (EI A.2) (.tup [.tup [.str w,.int (g:Int)]])=Y (EI (A.2++[#[w,g]])):=λS w=>HL (l:=[#[w,g]]) 0.0 0.3;have wb:qk (RE A.1 g) .non = !Cg A.1.2 g:=by rw[mj,aao SK,Bool.false_or]
 refine#[[.lst (A.2.map Ev.d)],?_];simp![Tr,g3,bC,cQ,bP,g2,hi,YA,ed,uG,ae,so',g2',wt,mZ,wb];unfold OH;rw[hA];dsimp only;cases hst:Cg A.1.2 g with
 | false=>
  rw[aam rfl];simp![aaY,cj,Tj]
 | true=>
  rw[if_neg 0.1];simp![aaS,kj];by_cases z:t=Y 0
  ·rw[aaj z,aam z];simp![vo,uG,e1,cj,Tj]
  ·rw[aao z,if_neg z];simp![uG,e1,Tj]
theorem Iz(h:ROk R){k:Ak}(hs:Cg R.2 g=false):XX r k w g R.2=if k=.down\/k=.leave then Jb r w R.2 else R.2:=by
 unfold XX;refine a3t ?_;split
 ·unfold Jb;split
  ·unfold Cg;rw[acM];refine abn ?_ hs;unfold Cg
   congr 1
   funext e;show decide ((if e.wr=true then e else { e with m:=1 }).g=g)=_;cases e.wr<;>rfl
  ·exact hs
 ·exact hs
def Lj(settled wait gw ww:PF):MS:=aF 1.94 (aF (bU (gE 2.62 (eD (ax 2 gw (ac '1' (ac (aW (ac (!"rising") am)) am))))) (bp (aW (ac '1' (ac (aW (ac (aW (ac (!"no") 4.0)) am)) am)))) ba) (aF (aN (ax 2 settled (ac '0' (ac (ax 3 ww (ac '1' (ac '3' (ac (!"rising") am)))) am))) (aQ 2 2.40)) (aF (bU (aC (az HH (ax 2 wait 2.78) 3.1)) (bp (aW 3.11)) ba) (bp (aW (ac '1' (ac (az OE '4' (aW (ac (aW (ac (!"waits") 4.0)) am))) am)))))))
def a3A(O:DeOk settled wait gw ww)(hN:N.length=5)(hb:0<=r.b)(h:ROk R)(hl:R.1.length<=50)(hw:R.1[g]?=Y .reads):∃ T,Gw N (Lj settled wait gw ww) 3 [r.d,Dk R,(Dd.act .up g).d] S=Y (Tj (if r.c=0\/Wd.rising∈R.1 then(R,[#["no",g]]) else XY r R .up g .reads),S++T):=by
 have hst:FV N [r.d,Dk R,(Dd.act .up g).d]=[Y r.d,Y (Dk R),Y (Dd.act .up g).d,J,J]:=by simp[FV,hN,ZB]
 rw[ca (show [r.d,Dk R,(Dd.act .up g).d].length=3 from rfl),hst];have hg:g<R.1.length:=(aaa.mp hw).1;have x1:GD S (Dd.act .up g).d (.int 1)=Y 0.4:=rfl;have x3:GD S r.d (.int 3)=Y (.int r.c):=rfl;have gr:gw [Dk R,.tup [.str "rising"]] S=Y (ND (Su (λw=>decide 4.4) R.1),S):=O.g S R [.rising] 0.0
 have tr:BG (ND (Su (λw=>decide 4.4) R.1),S)=Y (decide (Wd.rising∈R.1),S):=by
  cases hx:Su (λw=>decide 4.4) R.1 with
  | nil=>
   have:¬ Wd.rising∈R.1:=λz=>by
    obtain⟨i,hi⟩:=abX.mp z;have:i∈Su (λw=>decide 4.4) R.1:=mem_ixW.mpr #[_,hi,by simp];rw[hx] at this;cases this
   rw[aao this];rfl
  | cons i l=>
   have:i∈Su (λw=>decide 4.4) R.1:=by rw[hx];exact aab
   obtain⟨w,h1,h2⟩:=mem_ixW.mp this;have e:w=.rising:=by simpa using h2
   subst e;rw[aaj (aax h1)];rfl
 have ref:(r.c=0\/Wd.rising∈R.1)->∀ env,env=[Y r.d,Y (Dk R),Y (Dd.act .up g).d,Y 0.4,J]->gE 2.62 (eD (ax 2 gw (ac '1' (ac (aW (ac (!"rising") am)) am)))) env S=Y (true,S):=λz env he=>by
  subst he;by_cases hc:r.c=0
  ·have:(r.c==0)=true:=by rw[hc];rfl
   simp![jQ,x3,kn,this,BI]
  ·have q:(r.c==0)=false:=aaQ.mpr hc;simp![jQ,x3,kn,q,nQ,fv,uG,gr,tr,aaj (z.resolve_left hc)]
 by_cases z:r.c=0\/Wd.rising∈R.1
 ·rw[aam z];refine#[[],?_];simp![Lj,x1,ref z _ rfl,uG,cj,aaF];rfl
 ·rw[if_neg z];have hc:(r.c==0)=false:=aaQ.mpr λq=>z (.inl q);have hr:¬ Wd.rising∈R.1:=λq=>z (.inr q);have hs:=vT h hw 0.1;have wwo:ww [Dk R,.int (g:Int),.str "rising"] S=Y (Dk (R.1.set g .rising,R.2),S):=O.ww S R g .rising hg 0.0;have ok:ROk (R.1.set g .rising,R.2):=h.setW g .rising λe he=>db hs he;have so:=O.s S r (R.1.set g .rising,R.2) hb ok 0.7;have fw:=Aj (r:=r) (R:=(R.1.set g .rising,R.2)) 0.7;have lnS:(JK r (R.1.set g .rising,R.2)).1.1.length=R.1.length:=(dS (r:=r) ok).2.trans 0.3
  have ns:Cg (JK r (R.1.set g .rising,R.2)).1.2 g=false:=by
   cases q:Cg (JK r (R.1.set g .rising,R.2)).1.2 g with
   | false=>rfl
   | true=>have:=yO _ q;rw[hs] at this;cases this
  have aL:XY r R .up g .reads=((JK r (R.1.set g .rising,R.2)).1,(JK r (R.1.set g .rising,R.2)).2++(if (JK r (R.1.set g .rising,R.2)).1.1[g]?=Y .rising then [#["waits",g]] else [])):=by
   unfold XY;rw[Iz h hs,if_neg 0.1];rfl
  rw[aL];generalize JK r (R.1.set g .rising,R.2)=A at so fw lnS ns;have wt:∀ S,wait [Dk A.1,.int (g:Int)] S=Y (RE A.1 g,S):=λS=>O.w S A.1 g 0.0;have g2:∀ (x y:D) env S,aQ 2 2.40 1.29 env S=2.40 [x,y] env S:=λx y env S=>cn;have e1:∀ S (w:Str),OE S (EI A.2) (.tup [.tup [.str w,.int (g:Int)]])=Y (EI (A.2++[#[w,g]])):=λS w=>HL (l:=[#[w,g]]) 0.0 0.3;have wb:qk (RE A.1 g) .non = !decide (A.1.1[g]?=Y .rising):=by rw[mj,ns,Bool.or_false]
  refine#[[.lst (A.2.map Ev.d)],?_];simp![Lj,x1,jQ,x3,kn,hc,nQ,fv,uG,gr,tr,aao hr,bO,wwo,so,g2,bC,cQ,bP,wt,mZ,wb];by_cases q:A.1.1[g]?=Y .rising
  ·rw[aaj q,aam q];simp![aaS,uG,e1,Tj]
  ·rw[aao q,if_neg q,aaF];simp![aaY,cj,Tj]
def DC(sb ww tu:PF)(x y:Str):MS:=aF 1.94 (bp (ax 3 sb (ac '0' (ac (ax 3 ww (ac (ax 3 tu (ac '0' 2.78)) (ac '3' (ac (mC (.str x)) am)))) (ac (aW (ac (aW (ac (mC (.str y)) 4.0)) am)) am)))))
theorem CC{k:Ak}{w':Wd}{es:List En}(hg:g<R.1.length)(hk:XT k w=w')(hr:w'≠.rising)(he:XX r k w g R.2=es):XY r R k g w=((JK r (R.1.set g w',es)).1,AN k g++(JK r (R.1.set g w',es)).2):=by
 unfold XY;rw[hk,he];dsimp only;rw[if_neg,aaF];intro z;have:=pV _ z;rw[aaw hg] at this;exact hr 3.12
def a3B(SB:VF sb)(WW:∀ (S:aa) (R:Rm) (g:Nat) (w:Wd),g<R.1.length->R.1.length<=100->ww [Dk R,.int (g:Int),w.d] S=Y (Dk (R.1.set g w,R.2),S))(TU:TuOk tu)(hN:N.length=4)(hb:0<=r.b)(h:ROk R)(hl:R.1.length<=50){w':Wd}{k:Ak}{y:Str}(hw:R.1[g]?=Y w)(ho:w≠.out)(hk:k=.down\/k=.leave)(ht:XT k w=w')(hr:w'≠.rising)(hf:AN k g=[#[y,g]]) :
  ∃ T,Gw N (DC sb ww tu w'.s y) 3 [r.d,Dk R,(Dd.act k g).d] S=Y (Tj (XY r R k g w),S++T):=by
 have hst:FV N [r.d,Dk R,(Dd.act k g).d]=[Y r.d,Y (Dk R),Y (Dd.act k g).d,J]:=by simp[FV,hN,ZB]
 rw[ca (show [r.d,Dk R,(Dd.act k g).d].length=3 from rfl),hst];have hg:g<R.1.length:=(aaa.mp hw).1;have hle:=h.len;have hs:=vT h hw ho;have he:XX r k w g R.2=Jb r w R.2:=by rw[Iz h hs,aam hk]
 rw[CC hg ht hr he,hf];have x1:GD S (Dd.act k g).d (.int 1)=Y 0.4:=rfl;have t1:=TU S r R g w hw 0.0;have w1:ww [Dk 2.11,.int (g:Int),.str w'.s] S=Y (Dk (R.1.set g w',Jb r w R.2),S):=WW S 2.11 g w' hg (by show R.1.length<=100;omega);have ok:ROk (R.1.set g w',Jb r w R.2):=by rw[<- he];exact rY h _
 obtain⟨T,s1⟩:=SB S r (R.1.set g w',Jb r w R.2) [#[y,g]] hb ok 0.7 0.3;refine#[T,?_];have s1':sb [r.d,Dk (R.1.set g w',Jb r w R.2),.tup [.tup [.str y,.int (g:Int)]]] S=_:=s1;simp![DC,x1,bO,t1,w1,uG,s1']
def HZ(sb ww wo wait:PF):MS:=aF 1.94 (aF (bU (aC (az On (ax 2 wait 2.78) (!"up"))) (aN (ax 3 ww (ac '1' (ac '3' (ac (!"reads") am)))) 'd') (aN (ax 2 wo 2.78) 'd')) (bp (ax 3 sb (ac '0' (ac '4' (ac (aW (ac (aW (ac (!"ends") 4.0)) am)) am))))))
def a3C:On S (RE R g) (.str "up")=Y (.bl (decide (R.1[g]?=Y .rising))):=by
 unfold RE;by_cases h:R.1[g]?=Y .rising
 ·rw[aam h,aaj h,cr];rfl
 ·rw[if_neg h,aao h];cases R.2.find? λe=>decide (e.g=g) with
  | none=>rw[mI rfl rfl];rfl
  | some e=>
   show On S 4.8 (.str "up")=_;rw[cr];cases e.wr<;>rfl
def a3D(SB:VF sb)(WW:∀ (S:aa) (R:Rm) (g:Nat) (w:Wd),g<R.1.length->R.1.length<=100->ww [Dk R,.int (g:Int),w.d] S=Y (Dk (R.1.set g w,R.2),S))(V:A1c wo)(W:FI wait)(hN:N.length=5)(hb:0<=r.b)(h:ROk R)(hl:R.1.length<=50)(hw:R.1[g]?=Y w)(hc:IW R (.act .stop g)=true) :
  ∃ T,Gw N (HZ sb ww wo wait) 3 [r.d,Dk R,(Dd.act .stop g).d] S=Y (Tj 2.85,S++T):=by
 have hst:FV N [r.d,Dk R,(Dd.act .stop g).d]=[Y r.d,Y (Dk R),Y (Dd.act .stop g).d,J,J]:=by simp[FV,hN,ZB]
 rw[ca (show [r.d,Dk R,(Dd.act .stop g).d].length=3 from rfl),hst];have hg:g<R.1.length:=(aaa.mp hw).1;have hle:=h.len;have x1:GD S (Dd.act .stop g).d (.int 1)=Y 0.4:=rfl;have wt:wait [Dk R,.int (g:Int)] S=Y (RE R g,S):=W S R g 0.0
 have fin:∀ R':Rm,ROk R'->R'.1.length=R.1.length->XY r R .stop g w=((JK r R').1,AN .stop g++(JK r R').2)->∃ T,sb [r.d,Dk R',.tup [.tup [.str "ends",.int (g:Int)]]] S=Y (Tj 2.85,S++T):=λR' ok hl' ha=>by
  obtain⟨T,s1⟩:=SB S r R' [#["ends",g]] hb ok 0.0 0.3;refine#[T,?_];rw[ha];exact s1
 by_cases hr:w=.rising
 ·subst hr;have hs:=vT h hw 0.1;have he:XX r .stop .rising g R.2=R.2:=by rw[Iz h hs,if_neg 0.1]
  have w1:ww [Dk R,.int (g:Int),.str "reads"] S=Y (Dk (R.1.set g .reads,R.2),S):=WW S R g .reads hg 0.0;obtain⟨T,s1⟩:=fin (R.1.set g .reads,R.2) (h.setW g .reads λe q=>db hs q) 0.3 (CC hg rfl 0.1 he);refine#[T,?_];simp![HZ,x1,wt,a3C,aaj hw,bO,w1,uG,s1]
 ·have ho:w=.out:=by
   unfold IW at hc;rw[acs] at hc;rcases hc with q | q
   ·obtain⟨e,he,hge⟩:=aaO.mp q;have:=h.out e he;rw[aaD hge,hw] at this;exact aau this
   ·have:=aaD q;rw[hw] at this;exact absurd 3.12 hr
  subst ho;have hn:¬ R.1[g]?=Y .rising:=by rw[hw];intro z;cases z
  have v1:wo [Dk R,.int (g:Int)] S=Y (Dk (R.1,R.2.filter λe=>decide (e.g≠g)),S):=V S R g 0.0
  have hset:R.1.set g .out=R.1:=by
   obtain⟨q,e⟩:=aaa.mp hw;rw[<- e];exact List.set_getElem_self q
  have ha:=CC (r:=r) (R:=R) (g:=g) (k:=.stop) (w:=.out) (w':=.out) (es:=R.2.filter λe=>decide (e.g≠g)) hg rfl 0.1 (by unfold XX;rw[if_neg 0.1]);rw[hset] at ha;obtain⟨T,s1⟩:=fin (R.1,R.2.filter λe=>decide (e.g≠g)) (ROk.filter h _) rfl ha;refine#[T,?_];simp![HZ,x1,wt,a3C,aao hn,v1,uG,bO,s1]
def Mg:MS:=bp (lZ (aC (az HH '0' 3.1)) 3.1 (az pB '0' 1e0))
def a3E(hN:N.length=1):Gw N Mg 1 [IU t] S=Y (IU (t.map (· - 1)),S):=by
 have hst:FV N [IU t]=[Y (IU t)]:=by simp[FV,hN]
 rw[ca (show [IU t].length=1 from rfl),hst];cases t with
 | none=>
  have i1:qk (IU J) .non=true:=rfl;simp![Mg,mX,mZ,i1,zl];rfl
 | some t=>
  have i1:qk (IU (Y t)) .non=false:=rfl;have s1:pB S (IU (Y t)) (.int 1)=Y (IU (Y (t - 1))):=BZ;simp![Mg,mX,mZ,i1,ED,s1];rfl
def A1d(ol:PF):ME:=ci (dT '4') (aQ 4 (ah '`' 2.68)) cf (aW (ac '0' (ac '1' (ac '2' (ac (ax 1 ol 4.0) am))))) [J,J,J,J]
def A1e:ME:=ci (dT '5') '`' 2.62 (aW (ac (!"ends") 2.84)) [J]
def A1f:ME:=ci (dT '5') '`' (aC 2.76) '0' [J]
noncomputable def qI(sb ol:PF):MS:=aF 2.73 (aF (aN (A1d ol) 'e') (aF (aN (bB 2.2 (ac A1e am)) 'f') (aF (aN (bB 2.2 (ac A1f am)) 'g') (bp (ax 3 sb (ac '0' (ac (aW (ac '3' (ac '7' am))) 8.4)))))))
def a3F(SB:VF sb)(L:∀ (S:aa) (t:Option Int),ol [IU t] S=Y (IU (t.map (· - 1)),S))(hN:N.length=8)(hb:0<=r.b)(h:ROk R)(hl:R.1.length<=50):∃ T,Gw N (qI sb ol) 3 [r.d,Dk R,Dd.tick.d] S=Y (Tj (OI r R),S++T):=by
 have hst:FV N [r.d,Dk R,Dd.tick.d]=[Y r.d,Y (Dk R),Y Dd.tick.d,J,J,J,J,J]:=by simp[FV,hN,ZB]
 rw[ca (show [r.d,Dk R,Dd.tick.d].length=3 from rfl),hst];have hle:=h.len;have g2:∀ env S,aQ 2 1.0 (Dk R) env S=1.0 [Mx R.1,Oz R.2] env S:=λenv S=>cn
 have a:=a3w (S:=S) (es:=R.2) (cap:=[J,J,J,J]) (env:=[Y r.d,Y (Dk R),Y Dd.tick.d,Y (Mx R.1),Y (Oz R.2),J,J,J]) (a:=J) (b:=J) (c:=J) (d:=J) (e:=aW (ac '0' (ac '1' (ac '2' (ac (ax 1 ol 4.0) am))))) (f:=λx=>(PR x).d) rfl 0.0 λx=>by
  simp![rj,L,YA];rfl
 have b:=fL (S:=S) (t:=aC (az On 3.2 0e0)) (e:=aW (ac (!"ends") 2.84)) (cap:=[J]) (env:=[Y r.d,Y (Dk R),Y Dd.tick.d,Y (Mx R.1),Y (Oz R.2),Y (.lst ((R.2.map PR).map En.d)),J,J]) (rest:=[]) (a:=J) (enc:=En.d) (p:=λe=>decide (e.t=Y 0)) (f:=λe=>Ev.d #["ends",e.g]) (xs:=R.2.map PR) rfl 2.8 (λe z=>by
  have x3:GD S e.d (.int 3)=Y (IU e.t):=rfl;simp![x3,kj]) (λe z z=>by
  simp![En.ix0];rfl)
 have c:=fL (S:=S) (t:=aC 2.76) (e:=af 0) (cap:=[J]) (env:=[Y r.d,Y (Dk R),Y Dd.tick.d,Y (Mx R.1),Y (Oz R.2),Y (.lst ((R.2.map PR).map En.d)),Y (EI (((R.2.map PR).filter λe=>decide (e.t=Y 0)).map λe=>#["ends",e.g])),J]) (rest:=[]) (a:=J) (enc:=En.d) (p:=λe=>decide (e.t≠Y 0)) (f:=En.d) (xs:=R.2.map PR) rfl 2.8 (λe z=>by
  have x3:GD S e.d (.int 3)=Y (IU e.t):=rfl
  simp![x3,a2c,ne_eq,decide_not]) (λe z z=>by simp only[ak,bJ,oj,ob,aj])
 have ma:(R.2.map λx=>(PR x).d)=(R.2.map PR).map En.d:=by rw[aaX];rfl
 rw[ma] at a;have it:∀ l:List D,Ht (.lst l,S)=Y (l,S):=λl=>BK
 have sb1:Gz 4.5 [.lst (((R.2.map PR).filter λe=>decide (e.t=Y 0)).map λe=>Ev.d #["ends",e.g])] S=Y (EI (((R.2.map PR).filter λe=>decide (e.t=Y 0)).map λe=>#["ends",e.g]),S):=by
  rw[fD];unfold EI;rw[aaX];rfl
 have sc1:Gz 4.5 [.lst (((R.2.map PR).filter λe=>decide (e.t≠Y 0)).map En.d)] S=Y (Oz ((R.2.map PR).filter λe=>decide (e.t≠Y 0)),S):=fD
 obtain⟨T,s1⟩:=SB S r (R.1,(R.2.map PR).filter λe=>decide (e.t≠Y 0)) (((R.2.map PR).filter λ(e:En)=>decide (e.t=Y 0)).map λ(e:En)=>Ev.mk "ends" e.g) hb (ROk.filter (ROk.mapE h PR λe=>rfl) _) hl (by
  rw[aaf];exact aaJ (abk _ _) 2.8)
 refine#[T,?_];have s1':sb [r.d,.tup [Mx R.1,Oz ((R.2.map PR).filter λe=>decide (e.t≠Y 0))],EI (((R.2.map PR).filter λe=>decide (e.t=Y 0)).map λe=>#["ends",e.g])] S=Y (Tj (OI r R),S++T):=s1;simp![qI,g2,bC,cQ,bP,A1d,cw,er,fE,a,bX,A1e,it,b,bY,sb1,A1f,c,sc1,bO,s1']
structure BrOk(ask up down leave stop tick:PF):Prop where
 a:∀ (S:aa) (r:Rl) (R:Rm) (wr:Bool) (g:Nat) (t:Option Int),0<=r.b->ROk R->R.1.length<=50->R.1[g]?=Y .out->Cg R.2 g=false->∃ T,ask [r.d,Dk R,(Dd.ask wr g t).d] S=Y (Tj (OH r R wr g t),S++T)
 u:∀ (S:aa) (r:Rl) (R:Rm) (g:Nat),0<=r.b->ROk R->R.1.length<=50->R.1[g]?=Y .reads->∃ T,up [r.d,Dk R,(Dd.act .up g).d] S=Y (Tj (if r.c=0\/Wd.rising∈R.1 then(R,[#["no",g]]) else XY r R .up g .reads),S++T)
 d:∀ (S:aa) (r:Rl) (R:Rm) (g:Nat) (w:Wd),0<=r.b->ROk R->R.1.length<=50->R.1[g]?=Y w->w≠.out->∃ T,down [r.d,Dk R,(Dd.act .down g).d] S=Y (Tj (XY r R .down g w),S++T)
 l:∀ (S:aa) (r:Rl) (R:Rm) (g:Nat) (w:Wd),0<=r.b->ROk R->R.1.length<=50->R.1[g]?=Y w->w≠.out->∃ T,leave [r.d,Dk R,(Dd.act .leave g).d] S=Y (Tj (XY r R .leave g w),S++T)
 s:∀ (S:aa) (r:Rl) (R:Rm) (g:Nat) (w:Wd),0<=r.b->ROk R->R.1.length<=50->R.1[g]?=Y w->IW R (.act .stop g)=true->∃ T,stop [r.d,Dk R,(Dd.act .stop g).d] S=Y (Tj 2.85,S++T)
 t:∀ (S:aa) (r:Rl) (R:Rm),0<=r.b->ROk R->R.1.length<=50->∃ T,tick [r.d,Dk R,Dd.tick.d] S=Y (Tj (OI r R),S++T)
def A1g(ask up down leave stop tick:PF):List (bK×Nat×PF):=[(.inr "read",3,ask),(.inr "write",3,ask),(.inr "up",3,up),(.inr "down",3,down),(.inr "leave",3,leave),(.inr "stop",3,stop),(.inr "tick",3,tick)]
def Ks(l:List (bK×Nat×PF)):MS:=gY l 3 1.68 3.0
def kt{l:List (bK×Nat×PF)}{f:PF}{x y z d:D}{w:Str}(hN:N.length=4)(hx:GD S z (.int 0)=Y (.str w))(hv:CK l (.inr w)=Y (3,f)){S':aa}(hf:f [x,y,z] S=Y (d,S')):Gw N (Ks l) 3 [x,y,z] S=Y (d,S'):=by
 refine abn (kw (env:=[Y x,Y y,Y z,J]) hN rfl rfl) ?_;have kd:=λms env=>a0Q (S:=S) (d:=.str w) (ms:=ms) (env:=env) (i:=3) (l:=l) BE hv;have k3:BL 3 f 2.51=(f [x,y,z] S).bind A01:=a0R rfl;simp![Ks,a0S,hx,kd,k3,hf]
def a3G{ask up:PF}(B:BrOk ask up down leave stop tick)(hN:N.length=4){dd:Dd}(hb:0<=r.b)(h:ROk R)(hl:R.1.length<=50)(hd:dd.Ok R.1.length)(hx:XU r R dd=Y x):∃ T,Gw N (Ks (A1g ask up down leave stop tick)) 3 [r.d,Dk R,dd.d] S=Y (Tj x,S++T):=by
 unfold XU at hx;split at hx
 ·cases hx
 rename_i hcan;rw[adz] at hcan;split at hx
 ·cases hx;obtain⟨T,e⟩:=B.t S r R hb h hl;exact#[T,kt (w:="tick") hN rfl (by rfl) e]
 ·rename_i wr g t;cases hx;unfold IW at hcan;rw[aag] at hcan;obtain⟨T,e⟩:=B.a S r R wr g t hb h hl (aaD hcan.1) (by simpa using hcan.2);refine#[T,?_];cases wr
  ·exact kt (w:="read") hN rfl (by rfl) e
  ·exact kt (w:="write") hN rfl (by rfl) e
 ·rename_i k g;have hg:g<R.1.length:=hd;obtain⟨w,hw⟩:∃ w,R.1[g]?=Y w:=#[_,aae hg]
  rw[hw] at hx;dsimp only at hx;cases k with
  | up=>
   have hr:R.1[g]?=Y .reads:=aaD hcan;rw[hw] at hr;cases hr;obtain⟨T,e⟩:=B.u S r R g hb h hl hw;refine#[T,kt (w:="up") hN rfl (by rfl) ?_];rw[e];by_cases z:r.c=0\/Wd.rising∈R.1
   ·rw[aam #[rfl,z]] at hx;cases hx;rw[aam z]
   ·rw[if_neg (λq=>z q.2)] at hx;cases hx;rw[if_neg z]
  | down=>
   rw[if_neg (λq=>by cases q.1)] at hx;cases hx
   have ho:w≠.out:=λz=>by
    subst z;have hc2:(decide (R.1[g]?=Y Wd.writes)||decide (R.1[g]?=Y Wd.raised))=true:=hcan;rw[hw] at hc2;revert hc2;decide
   obtain⟨T,e⟩:=B.d S r R g w hb h hl hw ho;exact#[T,kt (w:="down") hN rfl (by rfl) e]
  | leave=>
   rw[if_neg (λq=>by cases q.1)] at hx;cases hx
   have ho:w≠.out:=λz=>by
    subst z;exact(aaD hcan) hw
   obtain⟨T,e⟩:=B.l S r R g w hb h hl hw ho;exact#[T,kt (w:="leave") hN rfl (by rfl) e]
  | stop=>
   rw[if_neg (λq=>by cases q.1)] at hx;cases hx;obtain⟨T,e⟩:=B.s S r R g w hb h hl hw hcan;exact#[T,kt (w:="stop") hN rfl (by rfl) e]
end
section
variable{S:aa}{N:List Str}{r:Rl}{R:Rm}{n:Nat}{dd:Dd}
def AE:MS:=bp (Dj (iz "tuple" '0') (az On 1.00 '1'))
def WK(f:PF):Prop:=∀ (S:aa) (xs:List D) (k:Int),f [.tup xs,.int k] S=Y (.bl (decide ((xs.length:Int)=k)),S)
def a3H(hN:N.length=2){k:Int}:Gw N AE 2 [.tup xs,.int k] S=Y (.bl (decide ((xs.length:Int)=k)),S):=by
 have hst:FV N [D.tup xs,D.int k]=[Y 5.2,Y (.int k)]:=by simp[FV,hN]
 rw[ca (show [D.tup xs,D.int k].length=2 from rfl),hst];have it:HG "tuple" S 5.2=Y 8.3:=rfl;simp![AE,qg,Pf,PC,it,wL,bX,bY,HF,kn];rfl
def SW:MS:=bp (Dj (iz "str" '0') (az SY '0' '1'))
def RT(f:PF):Prop:=∀ (S:aa) (x:Str) (ys:List Str),x∈ys->f [.str x,.tup 1.53] S=Y 3.7
def a3I(hN:N.length=2){x:Str}{ys:List Str}(h:x∈ys):Gw N SW 2 [.str x,.tup 1.53] S=Y 3.7:=by
 have hst:FV N [D.str x,D.tup 1.53]=[Y (.str x),Y (.tup 1.53)]:=by simp[FV,hN]
 rw[ca (show [D.str x,D.tup 1.53].length=2 from rfl),hst];have it:HG "str" S (.str x)=Y 8.3:=rfl
 have fi:SY S (.str x) (.tup 1.53)=Y 8.3:=by
  rw[jp (ys:=ys.map .str) rfl rfl (by rw[aaE];intro d hd;obtain⟨y,z,rfl⟩:=aai.mp hd;rfl)];have:((ys.map D.str).any λd=>Oo d (.str x))=true:=aaO.mpr #[.str x,aai.mpr #[x,h,rfl],by show(x==x)=true;simp];rw[this]
 simp![SW,qg,Pf,PC,it,wL,fi]
def LG:MS:=bp (Dj (iz "int" '0') (SQ (iz "bool" '0')))
def HB(whole:PF):MS:=bp (Dj (ax 1 whole (ac '0' am)) (cU UF UF '1' '0' '2'))
def WM(f:PF):Prop:=∀ (S:aa) (i lo hi:Int),f [.int i,.int lo,.int hi] S=Y (.bl (decide (lo<=i)&&decide (i<=hi)),S)
def a3J(hN:N.length=1):Gw N LG 1 [.int i] S=Y 3.7:=by
 have hst:FV N [D.int i]=[Y (.int i)]:=by simp[FV,hN]
 rw[ca (show [D.int i].length=1 from rfl),hst];have i1:HG "int" S (.int i)=Y 8.3:=rfl;have i2:HG "bool" S (.int i)=Y 3.9:=rfl;simp[LG,i1,i2]
def a3K{whole:PF}(W:∀ (S:aa) (i:Int),whole [.int i] S=Y 3.7)(hN:N.length=3){lo:Int}:Gw N (HB whole) 3 [.int i,.int lo,.int hi] S=Y (.bl (decide (lo<=i)&&decide (i<=hi)),S):=by
 have hst:FV N [D.int i,D.int lo,D.int hi]=[Y (.int i),Y (.int lo),Y (.int hi)]:=by simp[FV,hN]
 rw[ca (show [D.int i,D.int lo,D.int hi].length=3 from rfl),hst];by_cases h:lo<=i
 ·simp[HB,W,h]
 ·simp[HB,W,h]
def XI(tof word bet:PF):MS:=aF (bU (eD (ax 2 tof (ac '1' (ac 1e0 am)))) (bp (ax 2 word (ac 5.4 (ac (aW (ac (!"tick") am)) am)))) ba) (aF (bU (eD (ax 2 tof (ac '1' (ac 2e0 am)))) (bp (Dj (ax 2 word (ac 5.4 (ac (mC (.tup [.str "up",.str "down",.str "leave",.str "stop"])) am))) (ax 3 bet (ac 5.3 9.5)))) ba) (aF (bU (eL (eD (ax 2 tof (ac '1' 2.04)))) 2.72 ba) (aF (aN '1' (aQ 3 3.10)) (bp (Dj (ax 2 word (ac '2' (ac (mC (.tup [.str "read",.str "write"])) am))) (Dj (ax 3 bet (ac '3' 9.5)) (AA (az HH '4' 3.1) (ax 3 bet (ac '4' (ac 0e0 (ac 9e0 am)))))))))))
def a3L(T:WK tof)(W:RT word)(B:WM bet)(hN:N.length=5)(hd:dd.Ok n):Gw N (XI tof word bet) 2 [.int (n:Int),dd.d] S=Y 3.7:=by
 refine abn (kw (env:=[Y 1.3,Y dd.d,J,J,J]) hN rfl rfl) ?_;cases dd with
 | tick=>
  have t1:tof [Dd.tick.d,.int 1] S=Y 3.7:=T S [.str "tick"] 1;have x0:GD S Dd.tick.d (.int 0)=Y (.str "tick"):=rfl;have k1:JO ([.str "tick"],S)=Y (.tup [.str "tick"],S):=dW 0.3;have w1:word [.str "tick",.tup [.str "tick"]] S=Y 3.7:=W S "tick" ["tick"] 0.3;simp![XI,fv,t1,gF,x0,k1,w1,cj]
 | act k g=>
  have hg:g<n:=hd;have t1:tof [(Dd.act k g).d,.int 1] S=Y 9.1:=T S [.str k.s,.int (g:Int)] 1;have t2:tof [(Dd.act k g).d,.int 2] S=Y 3.7:=T S [.str k.s,.int (g:Int)] 2;have x0:GD S (Dd.act k g).d (.int 0)=Y 5.9:=rfl;have x1:GD S (Dd.act k g).d (.int 1)=Y 0.4:=rfl;have w1:word [.str k.s,.tup [.str "up",.str "down",.str "leave",.str "stop"]] S=Y 3.7:=W S k.s ["up","down","leave","stop"] (by cases k<;>simp[Ak.s])
  have b1:bet [.int (g:Int),.int 0,.int ((n:Int) - 1)] S=Y 3.7:=by
   rw[B];congr 3;rw[aaj 0.0,aaj 0.0];rfl
  simp![XI,fv,t1,gF,t2,qg,x0,w1,wL,x1,BZ,bO,b1,cj]
 | ask wr g t=>
  have hg:g<n:=hd.1;have t1:tof [(Dd.ask wr g t).d,.int 1] S=Y 9.1:=T S [.str (SJ wr),.int (g:Int),IU t] 1;have t2:tof [(Dd.ask wr g t).d,.int 2] S=Y 9.1:=T S [.str (SJ wr),.int (g:Int),IU t] 2;have t3:tof [(Dd.ask wr g t).d,.int 3] S=Y 3.7:=T S [.str (SJ wr),.int (g:Int),IU t] 3;have g3:∀ env S,aQ 3 3.10 (Dd.ask wr g t).d env S=3.10 [.str (SJ wr),.int (g:Int),IU t] env S:=λenv S=>rH;have w1:word [.str (SJ wr),.tup [.str "read",.str "write"]] S=Y 3.7:=W S (SJ wr) ["read","write"] (by cases wr<;>simp[SJ])
  have b1:bet [.int (g:Int),.int 0,.int ((n:Int) - 1)] S=Y 3.7:=by
   rw[B];congr 3;rw[aaj 0.0,aaj 0.0];rfl
  simp![XI,fv,t1,gF,t2,kM,t3,kQ,aaS,g3,bC,cQ,bP,qg,w1,wL,BZ,bO,b1,Wa,mZ];cases t with
  | none=>
   have i1:qk (IU J) .non=true:=rfl;simp only[i1,kOr_t,ob,bH,aM]
  | some t=>
   have i1:qk (IU (Y t)) .non=false:=rfl;obtain⟨l0,l9⟩:=hd.2 t rfl
   have b2:bet [IU (Y t),.int 0,.int 9] S=Y 3.7:=by
    rw[show IU (Y t)=.int t from rfl,B];congr 3;rw[aaj l0,aaj l9];rfl
   simp![i1,kOr_f,bO,b2]
def iQ(h:XU r R dd=Y x):IW R dd=true:=by
 unfold XU at h;split at h
 ·cases h
 ·rename_i q;rw[adz] at q;exact q
def a3M(hN:N.length=5):Gw N (Ys wait) 2 [Dk R,Dd.tick.d] S=Y 3.7:=by
 refine abn (kw (env:=[Y (Dk R),Y Dd.tick.d,J,J,J]) hN rfl rfl) ?_;have x0:GD S Dd.tick.d (.int 0)=Y (.str "tick"):=rfl;have tk:On S (.str "tick") (.str "tick")=Y 8.3:=by rw[cr];rfl
 simp![Ys,x0,tk,cj]
def a3N(h:ROk R)(hl:R.1.length<=5)(hx:XU r R dd=Y x):x.2.length<=15:=by
 have hle:=h.len;have sf:∀ R':Rm,R'.1.length=R.1.length->(JK r R').2.length<=10:=λR' q=>aaJ (oK _) 0.0;unfold XU at hx;split at hx
 ·cases hx
 rename_i hcan;split at hx
 ·cases hx;have:=sf (R.1,(R.2.map PR).filter λe=>decide (e.t≠Y 0)) rfl;have q:((R.2.map PR).filter λe=>decide (e.t=Y 0)).length<=R.2.length:=aaJ (abk _ _) 0.3;unfold OI;dsimp only;rw[aal,aaf];omega
 ·rename_i wr g t;cases hx;have:=sf (R.1,R.2++[ZV wr g t]) rfl;unfold OH;dsimp only;split
  ·omega
  ·split
   ·rw[aal,aaW];omega
   ·rw[aal,aaW];omega
 ·rename_i k g;split at hx
  ·cases hx;simp
  ·split at hx
   ·rename_i w hw;cases hx;have:=sf (R.1.set g (XT k w),XX r k w g R.2) 0.3;have f1:(AN k g).length<=1:=by cases k<;>simp[AN]
    unfold XY;dsimp only;rw[aal,aal];split
    ·rw[aaW];omega
    ·rw[acG];omega
   ·cases hx
end
noncomputable abbrev Rs:=List (Rm×List Ev)
inductive Ws(r:Rl):Rm->List Dd->Rs->Prop
 | nil {R:Rm}:Ws r R [] []
 | cons {R:Rm} {d:Dd} {x:Rm×List Ev} {l:List Dd} {xs:Rs} (h:XU r R d=Y x) (t:Ws r x.1 l xs):Ws r R (d::l) (x::xs)
def Li:Rm->Rs->Rm
 | R,[]=>R
 | _,x::xs=>Li x.1 xs
def FX:Rm->Rs->List (Rm×Rm×List Ev)
 | _,[]=>[]
 | R,x::xs=>(R,x.1,x.2)::FX x.1 xs
def Ko(z:Rm×Rm×List Ev):D:=.tup [Dk z.1,Dk z.2.1,EI z.2.2]
def UK(xs:Rs):List D:=xs.map λx=>EI x.2
def Oe(R:Rm)(xs:Rs):D:=.tup [Dk (Li R xs),.tup (UK xs)]
section
variable{r:Rl}{R:Rm}{l:List Dd}{xs:Rs}{n:Nat}
def Ws.len(h:Ws r R l xs):xs.length=l.length:=by
 induction h with
 | nil=>rfl
 | cons _ _ ih=>rw[aar,aar,ih]
def Ws.snoc(h:Ws r R l xs){d:Dd}(hx:XU r (Li R xs) d=Y x):Ws r R (l++[d]) (xs++[x])/\Li R (xs++[x])=x.1:=by
 induction h with
 | nil=>exact#[.cons hx .nil,rfl]
 | cons q t ih=>exact#[.cons q (ih hx).1,(ih hx).2]
def Ws.take(h:Ws r R l xs):∀ c:Nat,Ws r R (l.take c) (xs.take c):=by
 induction h with
 | nil=>intro c;rw[List.take_nil,List.take_nil];exact .nil
 | cons q t ih=>
  intro c;cases c with
  | zero=>exact .nil
  | succ c=>exact .cons q (ih c)
def Behind.ws(h:Behind r n l R):(∃ xs,Ws r (JZ n) l xs/\Li (JZ n) xs=R)/\∀ d∈l,d.Ok n:=by
 induction h with
 | nil=>exact#[#[[],.nil,rfl],λd z=>by cases z]
 | snoc h hd e ih=>
  obtain⟨⟨xs,w,q⟩,o⟩:=ih;rw[<- q] at e;obtain⟨w',q'⟩:=w.snoc e;refine#[#[_,w',q'],λd hd'=>?_];rcases aan.mp hd' with z | z
  ·exact o d z
  ·rw[aat.mp z];exact hd
def Ws.ok(h:Ws r R l xs):ROk R->ROk (Li R xs)/\(Li R xs).1.length=R.1.length:=by
 induction h with
 | nil=>exact λh=>#[h,rfl]
 | cons q t ih=>exact λh=>#[(ih (eZ h q).1).1,(ih (eZ h q).1).2.trans (eZ h q).2]
def Ws.few(h:Ws r R l xs):ROk R->R.1.length<=5->∀ x∈xs,x.2.length<=100:=by
 induction h with
 | nil=>exact λw w x z=>by cases z
 | cons q t ih=>
  intro h h5 x hx;rcases aav.mp hx with rfl | hx
  ·exact aaJ (a3N h h5 q) 0.1
  ·exact ih (eZ h q).1 (by rw[(eZ h q).2];exact h5) x hx
end
def Kf:MS:=bp (aW (ac (az Tt (aW (ac (!"out") am)) '0') 1.70))
theorem HW{n:Nat}(h5:n<=5)(hv:af i env S=Y (.int (n:Int),S)):aW (ac (az Tt (aW (ac (!"out") am)) (af i)) 1.70) env S=Y 1.56:=by
 have k1:∀ x:D,JO ([x],S)=Y (.tup [x],S):=λx=>dW 0.3;have k0:JO ([],S)=Y (.tup [],S):=dW 0.3
 have m:Tt S (.tup [.str "out"]) 1.3=Y (Mx (ZB n .out)):=by
  rw[a0W 0.0 0.0 (by rw[abf,aaW];omega),abf,a2v];simp[Mx,Wd.d,Wd.s]
 simp only[bb,ar,aG,bd,ob,aq,ay,ao,k1,av,hv,au,m,aj,k0,Fy];rfl
def a3O{N:List Str}(hN:N.length=1){n:Nat}(h5:n<=5):Gw N Kf 1 [.int (n:Int)] S=Y 1.56:=by
 have hst:FV N [D.int (n:Int)]=[Y 1.3]:=by simp[FV,hN]
 rw[ca (show [D.int (n:Int)].length=1 from rfl),hst];have e:=HW (S:=S) (n:=n) (i:=0) (env:=[Y 1.3]) h5 (by simp only[ak,bJ,oj,ob,aj]);rw[Kf,aX,e];simp only[ob,bH,aM]
def Kp(q:Nat)(S S':aa):Prop:=∀ i,i≠q->i<S.length->S'[i]?=S[i]?/\i<S'.length
def Kp.trans(a:Kp q S S1)(b:Kp q S1 S2):Kp q S S2:=λi h h'=>#[(b i h (a i h h').2).1.trans (a i h h').1,(b i h (a i h h').2).2]
structure VG(deed can done emp:PF):Prop where
 d:∀ (S:aa) (n:Nat) (dd:Dd),dd.Ok n->deed [.int (n:Int),dd.d] S=Y 3.7
 c:∀ (S:aa) (R:Rm) (dd:Dd),R.1.length<=100->dd.Ok R.1.length->IW R dd=true->can [Dk R,dd.d] S=Y 3.7
 o:∀ (S:aa) (r:Rl) (R:Rm) (dd:Dd) (x:Rm×List Ev),0<=r.b->ROk R->R.1.length<=50->dd.Ok R.1.length->XU r R dd=Y x->∃ T,done [r.d,Dk R,dd.d] S=Y (Tj x,S++T)
 e:∀ (S:aa) (n:Nat),n<=5->emp [.int (n:Int)] S=Y 1.56
def Ac(deed can done:PF):MS:=aF (bU (gE (eL (eD (ax 2 deed (ac '1' 8.4)))) (eL (eD (ax 2 can (ac '3' 8.4))))) Iy ba) (aF (aN (ax 3 done 2.75) (aQ 2 1.51)) (aF (dg (dH OG '4' (ac (aW (ac '3' (ac '7' (ac '8' am)))) am))) (aN '7' 'c')))
def Kg(deed can done emp:PF):MS:=aF (aN (ax 1 emp 5.5) 'c') (aF 1.24 (aF (hZ (eM 3.8) 6.7 (Ac deed can done)) (bp '4')))
section
variable{r:Rl}{n q:Nat}{deed can done emp:PF}
def a3P(O:VG deed can done emp)(hb:0<=r.b){S:aa}{dd:Dd}{a2 a5 a7 a8:Option D}(h:ROk R)(hn:R.1.length=n)(h5:n<=5)(hd:dd.Ok n)(hx:XU r R dd=Y x)(hq:S[q]?=Y (.lst zs))(hz:zs.length<=500) :
  ∃ b8 S',Ac deed can done [Y r.d,Y 1.3,a2,Y (Dk R),Y (.ref q),a5,Y dd.d,a7,a8] S=Y (.nx [Y r.d,Y 1.3,a2,Y (Dk x.1),Y (.ref q),a5,Y dd.d,Y (Dk x.1),b8] S')/\S'[q]?=Y (.lst (zs++[Ko (R,x.1,x.2)]))/\Kp q S S':=by
 have d1:=O.d S n dd hd;have c1:=O.c S R dd 0.0 (by rw[hn];exact hd) (iQ hx);obtain⟨T,o1⟩:=O.o S r R dd x hb h 0.0 (by rw[hn];exact hd) hx;have o1':done [r.d,Dk R,dd.d] S=Y (.tup [Dk x.1,EI x.2],S++T):=o1;have g2:∀ (u v:D) env S,aQ 2 1.51 (.tup [u,v]) env S=1.51 [u,v] env S:=λu v env S=>cn;have cq:(S++T)[q]?=Y (.lst zs):=by rw[aap (aaa.mp hq).1];exact hq
 have ap:OG (.ref q) [.tup [Dk R,Dk x.1,EI x.2]] (S++T)=Y (.non,(S++T).set q (.lst (zs++[Ko (R,x.1,x.2)]))):=lS cq 0.0;have km:∀ f ms env,YU f ms env (.ref q,S++T)=(ms env (S++T)).bind (IS f (.ref q)):=λf ms env=>oR cq;refine#[Y (EI x.2),(S++T).set q (.lst (zs++[Ko (R,x.1,x.2)])),?_,aaw (aaa.mp cq).1,λi h h'=>#[by rw[aaq (Ne.symm h),aap h'],by rw[abY,aal];omega]];simp![Ac,jQ,kM,fv,d1,gF,kQ,aaS,nQ,c1,bO,o1',g2,bC,cQ,bP,ia,jz,km,ZT,dX,ap,ie]
def a3Q(O:VG deed can done emp)(hb:0<=r.b){a2:Option D}(h5:n<=5)(w:Ws r R l xs):∀ (k:Nat) (S:aa) (zs:List D) (a5 a6 a7 a8:Option D),ROk R->R.1.length=n->(∀ d∈l,d.Ok n)->S[q]?=Y (.lst zs)->zs.length+l.length<=400 ->
  ∃ b5 b6 b7 b8 S',AI 6.7 (Ac deed can done) (XR k 0.8) [Y r.d,Y 1.3,a2,Y (Dk R),Y (.ref q),a5,a6,a7,a8] S=Y (.nx [Y r.d,Y 1.3,a2,Y (Dk (Li R xs)),Y (.ref q),b5,b6,b7,b8] S')/\S'[q]?=Y (.lst (zs++(FX R xs).map Ko))/\Kp q S S':=by
 induction w with
 | nil=>
  intro k S zs a5 a6 a7 a8 h hn hd hq hz;exact#[a5,a6,a7,a8,S,lK,by simp only[FX,ack,aaF];exact hq,λi u h=>#[rfl,h]]
 | @cons R d x l xs hx t ih=>
  intro k S zs a5 a6 a7 a8 h hn hd hq hz;rw[aar] at hz;obtain⟨b8,S1,e1,q1,P1⟩:=a3P O hb (a2:=a2) (a5:=Y 1.89) (a7:=a7) (a8:=a8) h hn h5 (hd d aab) hx hq 0.0;obtain⟨h',hl'⟩:=eZ h hx;obtain⟨c5,c6,c7,c8,S2,e2,q2,P2⟩:=ih (k+1) S1 _ (Y 1.89) (Y d.d) (Y (Dk x.1)) b8 h' (hl'.trans hn) (λd' z=>hd d' 1.71) q1 (by rw[aal,aaW];omega);refine#[c5,c6,c7,c8,S2,?_,?_,P1.trans P2]
  ·rw[List.map_cons,XR,dN,cn];simp only[bC,aP,ob,eR,eU,cQ,bP,jS,e1,iV,e2,Li]
  ·rw[q2,FX,List.map_cons,aay];rfl
def a3R(O:VG deed can done emp)(hb:0<=r.b){N:List Str}(hN:N.length=9)(h5:n<=5)(w:Ws r (JZ n) l xs)(hd:∀ d∈l,d.Ok n)(hl:l.length<=300) :
  ∃ S',Gw N (Kg deed can done emp) 3 [r.d,.int (n:Int),.tup 0.8] S=Y (.ref S.length,S')/\S'[S.length]?=Y (.lst ((FX (JZ n) xs).map Ko))/\∀ i,i<S.length->S'[i]?=S[i]?:=by
 have hst:FV N [r.d,.int (n:Int),.tup 0.8]=[Y r.d,Y 1.3,Y 2.61,J,J,J,J,J,J]:=by simp[FV,hN,ZB]
 rw[ca (show [r.d,D.int (n:Int),D.tup 0.8].length=3 from rfl),hst];have e0:=O.e S n h5;have kl:Ms ([],S)=Y (.ref S.length,S++[.lst []]):=nU 0.3;obtain⟨b5,b6,b7,b8,S',e,hq,P⟩:=a3Q (q:=S.length) O hb (a2:=Y 2.61) h5 w 0 (S++[.lst []]) [] J J J J hV (by simp[JZ]) hd gC 0.7;refine#[S',?_,by simpa using hq,λi h=>(P i 0.0 (by rw[aal];omega)).1.trans (aap h)];have ke:∀ S,EE ([.tup 0.8],S)=Y (XR 0 0.8,S):=λS=>rfl;simp![Kg,rj,e0,mD,kl,sK,oP,ke,sU,e]
def A1h:ME:=cT '3' (aQ 3 (ah '`' 4.3)) cf '2' [J,J,J]
def A1i(emp:PF):ME:=lZ (eD '3') (az GD (az GD '3' (xN LP 1e0)) 1e0) (ax 1 emp 5.5)
def AG(walked emp:PF):MS:=aF (aN (ax 3 walked 3.0) 'c') (aF (aN (A1i emp) 'd') (bp (aW (ac '4' (ac (bB 2.2 (ac A1h am)) am)))))
def a3S{S:aa}{zs:List (Rm×Rm×List Ev)}(hr:S[q]?=Y (.lst (zs.map Ko))) :
  ∀ (k i:Nat) (a b c:Option D),i<=zs.length->zs.length<k+i->OC (aQ 3 (ah '`' 4.3)) cf '2' q k i [a,b,c] S=Y ((zs.drop i).map λz=>EI z.2.2,S)
 | 0,i,a,b,c,h0,hl=>by omega
 | k+1,i,a,b,c,h0,hl=>by
  unfold OC;rw[hr];dsimp only;rw[aaP];cases hx:zs[i]? with
  | none=>
   have:zs.drop i=[]:=by simpa using hx
   rw[this];rfl
  | some z=>
   have hi:=(aaa.mp hx).1;have ih:=a3S hr k (i+1) (Y (Dk z.1)) (Y (Dk z.2.1)) (Y (EI z.2.2)) hi 0.0
   have hd:zs.drop i=z::zs.drop (i+1):=by
    rw[abu hi];congr 1;exact(aaa.mp hx).2
   show(aQ 3 (ah '`' 4.3) (.tup [Dk z.1,Dk z.2.1,EI z.2.2]) [a,b,c] S).bind _=_;rw[rH];simp only[bC,aP,ob,eR,eU,cQ,bP,iU,abT,ak,bJ,bN,bM,oj,aj,ih,hd,List.map_cons]
def a3T:∀ (R:Rm) (xs:Rs),((FX R xs).map λz=>EI z.2.2)=UK xs
 | _,[]=>rfl
 | R,x::xs=>by rw[FX,List.map_cons,a3T x.1 xs];rfl
theorem Ae:∀ (R:Rm) (xs:Rs),(FX R xs).length=xs.length
 | _,[]=>rfl
 | R,x::xs=>by rw[FX,aar,Ae x.1 xs,aar]
def a3U:∀ (R:Rm) (xs:Rs),xs≠[]->∃ R0 e,(FX R xs)[xs.length - 1]?=Y (R0,Li R xs,e)
 | _,[],h=>absurd rfl h
 | R,[x],_=>#[R,x.2,rfl]
 | R,x::y::xs,_=>by
  obtain⟨R0,e,h⟩:=a3U x.1 (y::xs) 0.3;exact#[R0,e,by rw[FX];simpa[Li] using h]
def a3V{S:aa}{a0 a2 a4:Option D}(E:∀ (S:aa) (n:Nat),n<=5->emp [.int (n:Int)] S=Y 1.56)(h5:n<=5)(hq:S[q]?=Y (.lst ((FX (JZ n) xs).map Ko))):A1i emp [a0,Y 1.3,a2,Y (.ref q),a4] S=Y (Dk (Li (JZ n) xs),S):=by
 have tr:BG (.ref q,S)=Y (!xs.isEmpty,S):=by
  have:qB S (.ref q)=Y (!xs.isEmpty):=by
   simp only[qB,hq];cases xs<;>rfl
  show(qB S (.ref q)).bind _=_;rw[this];rfl
 simp only[A1i,mX,fv,ak,bJ,bN,bM,oj,ob,aj,tr];cases hx:xs with
 | nil=>
  simp![List.isEmpty_nil,aaS,ED,rj,E S n h5,Li]
 | cons x ys=>
  rw[hx] at hq;obtain⟨R0,e,hl⟩:=a3U (JZ n) (x::ys) 0.3
  have at1:AK ((FX (JZ n) (x::ys)).map Ko) (-1)=Y (Ko (R0,Li (JZ n) (x::ys),e)):=by
   unfold AK FQ;rw[if_neg 0.1,aaf,Ae,aam (by rw[aar];omega)];show(Y _).bind _=_;rw[ob,aaP];have:(-1+(((x::ys).length:Nat):Int)).toNat=(x::ys).length - 1:=by rw[aar];omega
   rw[this,hl];rfl
  have ix1:∀ S,GD S (Ko (R0,Li (JZ n) (x::ys),e)) (.int 1)=Y (Dk (Li (JZ n) (x::ys))):=λS=>rfl;have ng:LP S (.int 1)=Y (.int (-1)):=rfl;have ir:GD S (.ref q) (.int (-1))=Y (Ko (R0,Li (JZ n) (x::ys),e)):=by rw[oU hq];exact at1
  simp![List.isEmpty_cons,aaY,zl,mUn_s,kUn_s,ng,ir,ix1]
def a3W{walked:PF}(E:∀ (S:aa) (n:Nat),n<=5->emp [.int (n:Int)] S=Y 1.56){N:List Str}(hN:N.length=5){S1:aa}{l:List Dd}{xs:Rs}(h5:n<=5)(hl:xs.length<=300)(hw:walked [r.d,.int (n:Int),.tup 0.8] S=Y (.ref q,S1))(hq:S1[q]?=Y (.lst ((FX (JZ n) xs).map Ko))) :
  Gw N (AG walked emp) 3 [r.d,.int (n:Int),.tup 0.8] S=Y (Oe (JZ n) xs,S1):=by
 refine abn (kw (env:=[Y r.d,Y 1.3,Y 2.61,J,J]) hN rfl rfl) ?_;have rr:=a3V (emp:=emp) (a0:=Y r.d) (a2:=Y 2.61) (a4:=J) E h5 hq
 have kx:BM (aQ 3 (ah '`' 4.3)) cf '2' [J,J,J] [Y r.d,Y 1.3,Y 2.61,Y (.ref q),Y (Dk (Li (JZ n) xs))] (.ref q,S1)=Y (.lst (UK xs),S1):=by
  rw[a16,show Od [J,J,J] [Y r.d,Y 1.3,Y 2.61,Y (.ref q),Y (Dk (Li (JZ n) xs))]=[J,J,J] from rfl,a3S hq 2000 0 J J J (abG _) (by rw[Ae];omega),ob,jT,acz,a3T]
 simp![AG,bO,hw,rr,bX,A1h,a15,kx,bY,fD,Fy,Oe]
end
def Ni(w:Str):Bool:=w=="in"||w=="ends"
def QX(w:Str):Nat:=if (w==("in":Str))=true then 1 else 0
def Nv(g:Nat):Nat->List Ev->Nat×Option Str
 | o,[]=>(o,J)
 | o,e::l=>if (decide (e.g=g)&&Ni e.w)=true then(o,Y e.w) else Nv g (o+QX e.w) l
def Nk:Option Str->D
 | none=>.non
 | some s=>.str s
def Nh(g:Nat)(w:Str)(x:Nat×Option Str):D:=.tup [.int (g:Int),.str w,.int (x.1:Int),Nk x.2]
section
variable{S:aa}
def a3X:SY S (.str x) (.tup [.str "in",.str "ends"])=Y (.bl (Ni x)):=by
 rw[jp (ys:=[.str "in",.str "ends"]) rfl rfl rfl];have e:∀ a b:Str,Oo (.str a) (.str b)=(a==b):=λa b=>rfl;have c:∀ a b:Str,(a==b)=(b==a):=λa b=>by rw[aaN,beq_iff_eq,beq_iff_eq];exact#[Eq.symm,Eq.symm]
 simp only[abe,List.any_nil,Bool.or_false,e,Ni];rw[c "in",c "ends"]
def a3Y(a b:Nat):((a:Int)==(b:Int))=decide (a=b):=by
 rw[aaN,beq_iff_eq,aeK];omega
def Sd:MS:=aF (bU (cM (aC (az On '5' '0')) (aC (az SY '4' (aW (ac (!"in") (ac (!"ends") am)))))) (bp (aW (ac '0' (ac '1' (ac '3' 5.8))))) ba) (bU (aC (az On '4' (!"in"))) (aN (az LV '3' 1e0) 'c') ba)
def Xz:MS:=aF (aN 0e0 'c') (aF (dU '2' 3.13 Sd) (bp (aW (ac '0' (ac '1' (ac '3' 2.83))))))
def a3Z{g o:Nat}{a2:Option D}(e:Ev):Sd [Y 0.4,Y (.str w),a2,Y 1.87,Y 1.31,Y 2.59] S
  = if (decide (e.g=g)&&Ni e.w)=true then Y (.rt (Nh g w (o,Y e.w)) S) else Y (.nx [Y 0.4,Y (.str w),a2,Y (.int ((o+QX e.w:Nat):Int)),Y 1.31,Y 2.59] S):=by
 have ag:LV S 1.87 (.int 1)=Y (.int ((o+1:Nat):Int)):=by show Y (D.int ((o:Int)+1))=_;rw[Int.natCast_add];rfl
 simp![Sd,dm,kn,a3Y];by_cases h1:e.g=g
 ·simp![h1,abJ,acr,gi,Hh,a3X];cases h2:Ni e.w with
  | true=>simp![IL,cj,abT];rfl
  | false=>
   simp![cr];unfold QX;cases h3:(e.w==("in":Str)) with
   | true=>simp![ag,abT];rfl
   | false=>simp only[bE,bi];rfl
 ·simp![aao h1,abv,ig,cr];unfold QX;cases h3:(e.w==("in":Str)) with
  | true=>simp![ag,abT];rfl
  | false=>simp only[bE,bi];rfl
def yG{g:Nat}{a2:Option D}:∀ (l:List Ev) (o:Nat) (a4 a5:Option D),∃ b4 b5,AI 3.13 Sd 6.9 [Y 0.4,Y (.str w),a2,Y 1.87,a4,a5] S
  = match (Nv g o l).2 with | some s=>Y (.rt (Nh g w (Nv g o l)) S) | none=>Y (.nx [Y 0.4,Y (.str w),a2,Y (.int ((Nv g o l).1:Int)),b4,b5] S)
 | []=>λo a4 a5=>#[a4,a5,lK]
 | e::l=>λo a4 a5=>by
  have st:AI 3.13 Sd ((e::l).map Ev.d) [Y 0.4,Y (.str w),a2,Y 1.87,a4,a5] S=(Sd [Y 0.4,Y (.str w),a2,Y 1.87,Y 1.31,Y 2.59] S).bind (Hq 3.13 Sd 6.9):=by
   rw[List.map_cons,dN,show Ev.d e=.tup [.str e.w,.int 1.8] from rfl,cn];simp only[bC,aP,ob,eR,eU,cQ,bP,jS]
  rw[st,a3Z];by_cases h:(decide (e.g=g)&&Ni e.w)=true
  ·refine#[J,J,?_];simp only[h,abT,ob,BJ,Nv]
  ·obtain⟨b4,b5,ih⟩:=yG (g:=g) (w:=w) (a2:=a2) l (o+QX e.w) (Y 1.31) (Y 2.59);refine#[b4,b5,?_];simp only[if_neg h,ob,iV,Nv,ih]
def a40{N:List Str}(hN:N.length=6){g:Nat}{l:List Ev}:Gw N Xz 3 [.int (g:Int),.str w,.lst 6.9] S=Y (Nh g w (Nv g 0 l),S):=by
 have hst:FV N [D.int (g:Int),.str w,.lst 6.9]=[Y 0.4,Y (.str w),Y (.lst 6.9),J,J,J]:=by simp[FV,hN,ZB]
 rw[ca (show [D.int (g:Int),.str w,.lst 6.9].length=3 from rfl),hst];obtain⟨b4,b5,e⟩:=yG (S:=S) (g:=g) (w:=w) (a2:=Y (.lst 6.9)) l 0 J J;simp![Xz,kN,Ug];rw[show(Y (D.int 0):Option D)=Y (.int 1.59) from rfl,e];cases h:(Nv g 0 l).2 with
 | some s=>simp only[ob,cj,aM]
 | none=>
  simp![IL];rw[Nh,h];rfl
noncomputable abbrev E3:=Str×Ev
def a41{xs:List D}{k:Nat}(h:k<=xs.length):XB xs (Y (k:Int)) J=xs.drop k:=by
 unfold XB;rw[HT.SA,HT.NT,adc h,abQ (by rw[acX];omega)]
end
def CG:Str:="waits"
def A1j(es:List Ev):Prop:=∀ e∈es,(e.w==CG)=false
def a42:A1j (Xe r R).2:=by
 intro e he;unfold Xe at he;split at he
 ·rw[aat.mp he];exact(show(("steps":Str)==CG)=false by decide +kernel)
 ·split at he
  ·split at he
   ·rw[aat.mp he];exact(show(("in":Str)==CG)=false by decide +kernel)
   ·cases he
  ·cases he
def jC:∀ (n:Nat) {R:Rm},A1j (JM r n R).2
 | 0,R=>λe he=>by cases he
 | n+1,R=>λe he=>by
  rcases aan.mp he with h | h
  ·exact a42 e h
  ·exact jC n e h
def A1k(g:Nat)(es:List Ev):Prop:=A1j es\/∃ fs,A1j fs/\es=fs++[#[CG,g]]
theorem Cz(h:XU r R (.ask wr g t)=Y x):A1k g x.2:=by
 unfold XU at h;split at h
 ·cases h
 ·cases h;unfold OH JK;dsimp only;split
  ·exact .inl (jC _)
  ·split
   ·refine .inl λe he=>?_;rcases aan.mp he with h | h
    ·exact jC _ e h
    ·rw[aat.mp h];exact(show(("no":Str)==CG)=false by decide +kernel)
   ·exact .inr #[_,jC _,rfl]
def CH(xs:Rs):List Ev:=xs.flatMap (·.2)
def PN:List Dd->Rs->List E3
 | d::l,x::xs=>x.2.map (λe=>(Ja d,e))++PN l xs
 | _,_=>[]
def a43(w:Ws r R l xs):(PN l xs).map (·.2)=CH xs:=by
 induction w with
 | nil=>rfl
 | cons h t ih=>
  rw[PN,aaI,ih,aaX,show CH (_::_)=_++CH _ from List.flatMap_cons]
  congr 1
  exact List.map_id _
def UZ(es:List Ev):Bool:=es.any λe=>e.w==CG
def QY:List Dd->Rs->List (Nat×Str×List Ev)
 | .ask wr g _::l,x::xs=>if UZ x.2=true then(g,SJ wr,CH xs)::QY l xs else QY l xs
 | _::l,_::xs=>QY l xs
 | _,_=>[]
noncomputable def qE(b:Nat×Str×List Ev):D:=Nh b.1 b.2.1 (Nv b.1 0 b.2.2)
def rW:∀ {l:List Dd} {xs:Rs},(QY l xs).length<=l.length
 | [],xs=>by cases xs<;>exact aas _
 | d::l,[]=>by cases d<;>exact abG _
 | d::l,x::xs=>by
  have ih:=rW (l:=l) (xs:=xs);cases d with
  | ask wr g t=>
   simp only[QY,aar];split
   ·rw[aar];omega
   ·omega
  | act k g=>simp only[QY,aar];omega
  | tick=>simp only[QY,aar];omega
def Sk(w:Str):Bool:=w=="read"||w=="write"
def Jw(x:E3):Bool:=x.2.w==CG&&Sk x.1
def Dm:List E3->List (Nat×Str×List Ev)
 | []=>[]
 | x::t=>if Jw x=true then(x.2.g,x.1,t.map (·.2))::Dm t else Dm t
theorem AH:∀ {c t:List E3},(∀ x∈c,Jw x=false)->Dm (c++t)=Dm t
 | [],t,_=>rfl
 | x::c,t,h=>by
  rw[acC,Dm,h x aab,if_neg aeI];exact AH λy hy=>h y 1.60
def uR(h:A1j es):UZ es=false:=by
 unfold UZ;rw[acR];intro e he;rw[h e he];exact aeI
def a44{w:Str}(h:A1j es):∀ x∈es.map (λe=>((w,e):E3)),Jw x=false:=λx hx=>by
 obtain⟨e,he,rfl⟩:=aai.mp hx;show(e.w==CG&&_)=false;rw[h e he];rfl
theorem Ab(b:Bool):Sk (SJ b)=true:=by cases b<;>decide +kernel
theorem CB(k:Ak):Sk k.s=false:=by cases k<;>decide +kernel
def a45(w:Ws r R l xs):Dm 1.73=QY l xs:=by
 induction w with
 | nil=>rfl
 | @cons R d x l xs h t ih=>
  rw[PN]
  have other:Sk (Ja d)=false->Dm (x.2.map (λe=>1.58)++PN l xs)=QY l xs:=λhw=>by
   rw[AH,ih];intro y hy;obtain⟨e,he,rfl⟩:=aai.mp hy;show(_&&Sk (Ja d))=false;rw[hw,abh]
  cases d with
  | tick=>exact other (by decide +kernel)
  | act k g=>exact other (CB k)
  | ask wr g tt=>
   rw[QY];rcases Cz h with a | ⟨fs,a,e⟩
   ·rw[uR a,if_neg aeI,AH (a44 a),ih]
   ·have hh:UZ x.2=true:=by
     rw[e];unfold UZ;rw[acp,abe];rw[show((CG:Str)==CG)=true from by decide +kernel,adD,adE]
    rw[hh,aam rfl,e,aaI,aay,AH (a44 a)];show Dm (1.33::PN l xs)=_
    rw[Dm,show Jw 1.33=true from by
     show((CG:Str)==CG&&Sk (SJ wr))=true
     rw[Ab,show((CG:Str)==CG)=true from by decide +kernel];rfl,aam rfl,ih,a43 t]
noncomputable def qy(k:Nat):List Dd->Rs->List (Nat×Str×Nat)
 | .ask wr g _::l,x::xs=>if UZ x.2=true then(g,SJ wr,k+x.2.length)::qy (k+x.2.length) l xs else qy (k+x.2.length) l xs
 | _::l,x::xs=>qy (k+x.2.length) l xs
 | _,_=>[]
def iX{x:Rm×List Ev}{xs:Rs}:CH (x::xs)=x.2++CH xs:=List.flatMap_cons
def tH:∀ (l:List Dd) (xs:Rs) (fs:List Ev),(qy fs.length l xs).map (λb=>qE (b.1,b.2.1,(fs++CH xs).drop b.2.2))=(QY l xs).map qE
 | [],xs,fs=>by cases xs<;>rfl
 | d::l,[],fs=>by cases d<;>rfl
 | d::l,x::xs,fs=>by
  have ih:=tH l xs (fs++x.2);rw[aal] at ih;have e:fs++CH (x::xs)=fs++x.2++CH xs:=by rw[iX,aay]
  cases d with
  | tick=>simp only[qy,QY,e];exact ih
  | act k g=>simp only[qy,QY,e];exact ih
  | ask wr g t=>
   simp only[qy,QY,e];split
   ·rw[List.map_cons,List.map_cons,ih]
    congr 2
    rw[<- aal,List.drop_left]
   ·exact ih
def Nf(b:Nat×Str×Nat):D:=.tup [.int (b.1:Int),.str b.2.1,.int (b.2.2:Int)]
def RZ(d:Dd)(es:List Ev)(k:Nat):List (Nat×Str×Nat):=match d with
 | .ask wr g _=>if UZ es=true then [(g,SJ wr,k)] else []
 | _=>[]
def zX{k:Nat}{d:Dd}{l:List Dd}{x:Rm×List Ev}{xs:Rs}:qy k (d::l) (x::xs)=RZ d x.2 (k+x.2.length)++qy (k+x.2.length) l xs:=by
 cases d with
 | tick=>rfl
 | act j g=>rfl
 | ask wr g t=>
  simp only[qy,RZ];split<;>rfl
def a46{d:Dd}{k:Nat}:(RZ d es k).length<=1:=by
 unfold RZ;split
 ·split<;>simp
 ·simp
def XJ:MT:=cM (aC (az SY 2.26 (mC (.tup [.str "read",.str "write"])))) (aC (az SY (aW (ac (!"waits") (ac 2.25 am))) '6'))
def VJ:MS:=dg (dH OG '4' (ac (aW (ac 2.25 (ac 2.26 (ac (bB (Gz Op) 4.0) am)))) am))
def GN:MS:=aF (dg (dH Tb '3' 8.4)) (bU XJ VJ ba)
def A1l(told:PF):ME:=cT '4' (aQ 3 (ah '`' 4.3)) cf 2.77 [J,J,J,Y 3]
def Dz(ran told:PF):MS:=aF (aN (dD am) 'c') (aF 1.24 (aF (hZ (kD (ac '2' (ac (az GD (ax 3 ran 3.0) 1e0) am))) 6.7 GN) (bp (bB 2.2 (ac (A1l told) am)))))
section
variable{S:aa}
def a47{g:Nat}:SY S (.tup [.str "waits",.int (g:Int)]) (EI es)=Y (.bl (es.any λe=>e.w==CG&&decide (e.g=g))):=by
 rw[jp (ys:=es.map Ev.d) rfl rfl (by rw[aaE];intro d hd;obtain⟨e,z,rfl⟩:=aai.mp hd;rfl),acM]
 congr 3
 funext e;show(e.w==CG&&((1.8==(g:Int))&&true))=_;rw[ael,a3Y]
def a48(h:A1k g es):(es.any λe=>e.w==CG&&decide (e.g=g))=UZ es:=by
 rcases h with a | ⟨fs,a,e⟩
 ·rw[uR a,acR];intro e he;rw[a e he];exact aeI
 ·rw[e];unfold UZ;rw[acp,acp,abe,abe];have z:((CG:Str)==CG)=true:=by decide +kernel
  show(_||(((CG:Str)==CG&&decide (g=g))||_))=(_||(((CG:Str)==CG)||_));rw[z,aaj rfl,acr,adD,adD,adE,adE]
def dd0(d:Dd):GD S d.d (.int 0)=Y 1.57:=by cases d<;>rfl
theorem Co(d:Dd):SY S 1.57 (.tup [.str "read",.str "write"])=Y (.bl (match d with | .ask _ _ _=>true | _=>false)):=by
 refine HI ?_;cases d with
 | tick=>decide +kernel
 | act k g=>show([D.str "read",D.str "write"].any λd=>Oo d 5.9)=false;cases k<;>decide +kernel
 | ask wr g t=>show([D.str "read",D.str "write"].any λd=>Oo d 6.2)=true;cases wr<;>decide +kernel
def a49{q:Nat}{ys:List D}(h:S[q]?=Y 1.5)(hz:xs.length+ys.length<=1000000):Tb (.ref q) [.tup ys] S=Y (.non,S.set q (.lst (xs++ys))):=by
 simp only[Tb,h];exact aam (aaJ hz 0.1)
def Kq(q b:Nat)(S S':aa):Prop:=∀ i,i≠q->i≠b->S'[i]?=S[i]?
def a4a{q b:Nat}{fs:List Ev}{bs:List (Nat×Str×Nat)}{d:Dd}{a0 a1 a2:Option D}(hqb:q≠b)(hq:S[q]?=Y (.lst 2.02))(hb:S[b]?=Y 1.83)(ha:∀ wr g t,d=.ask wr g t->A1k g es)(h1:fs.length+es.length<=1000000)(h2:bs.length<=500) :
  ∃ S',GN [a0,a1,a2,Y (.ref q),Y (.ref b),Y d.d,Y (EI es)] S=Y (.nx [a0,a1,a2,Y (.ref q),Y (.ref b),Y d.d,Y (EI es)] S')/\S'[q]?=Y (.lst ((fs++es).map Ev.d))/\S'[b]?=Y (.lst ((bs++RZ d es (fs.length+es.length)).map Nf))/\Kq q b S S':=by
 have ex:Tb (.ref q) [EI es] S=Y (.non,S.set q (.lst ((fs++es).map Ev.d))):=by rw[aaI];exact a49 hq (by rw[aaf,aaf];exact h1)
 have km:∀ f ms env,YU f ms env (.ref q,S)=(ms env S).bind (IS f (.ref q)):=λf ms env=>oR hq;generalize hT:S.set q (.lst ((fs++es).map Ev.d))=T at ex;have cq:T[q]?=Y (.lst ((fs++es).map Ev.d)):=by rw[<- hT];exact aaw (aaa.mp hq).1
 have cb:T[b]?=Y 1.83:=by rw[<- hT,aaq hqb];exact hb
 have kT:Kq q b S T:=λi h z=>by rw[<- hT];exact aaq (Ne.symm h)
 have d0:=λS=>dd0 (S:=S) d;have dw:=λS=>Co (S:=S) d
 have skip:XJ [a0,a1,a2,Y (.ref q),Y (.ref b),Y d.d,Y (EI es)] T=Y (false,T)->RZ d es (fs.length+es.length)=[]->∃ S',GN [a0,a1,a2,Y (.ref q),Y (.ref b),Y d.d,Y (EI es)] S=Y (.nx [a0,a1,a2,Y (.ref q),Y (.ref b),Y d.d,Y (EI es)] S')/\S'[q]?=Y (.lst ((fs++es).map Ev.d))/\S'[b]?=Y (.lst ((bs++RZ d es (fs.length+es.length)).map Nf))/\Kq q b S S':=λht hg=>by
  refine#[T,?_,cq,by rw[hg,aaF];exact cb,kT];simp![GN,ia,jz,km,dX,ex,ie,ht]
 cases d with
 | tick=>
  refine skip ?_ rfl;simp![XJ,dm,d0,dw,ig]
 | act k g=>
  refine skip ?_ rfl;simp![XJ,dm,d0,dw,ig]
 | ask wr g t=>
  have d1:∀ S,GD S (Dd.ask wr g t).d (.int 1)=Y 0.4:=λS=>rfl;have fi:∀ S,SY S (.tup [.str "waits",.int (g:Int)]) (EI es)=Y (.bl (UZ es)):=λS=>by rw[a47,a48 (ha wr g t rfl)]
  have te:XJ [a0,a1,a2,Y (.ref q),Y (.ref b),Y (Dd.ask wr g t).d,Y (EI es)] T=Y (UZ es,T):=by
   simp![XJ,dm,d0,dw,gi,d1,Hh,fi]
  cases hw:UZ es with
  | false=>
   rw[hw] at te;refine skip te ?_;simp only[RZ,hw];rfl
  | true=>
   rw[hw] at te;have fl:Gz Op [.ref q] T=Y (.int ((fs.length+es.length:Nat):Int),T):=by rw[a1u cq,aaf,aal]
   have kb:∀ f ms env,YU f ms env (.ref b,T)=(ms env T).bind (IS f (.ref b)):=λf ms env=>oR cb;have ap:OG (.ref b) [.tup [.int (g:Int),.str (SJ wr),.int ((fs.length+es.length:Nat):Int)]] T=Y (.non,T.set b (.lst (bs.map Nf++[Nf (g,SJ wr,fs.length+es.length)]))):=lS cb 2.8;refine#[T.set b (.lst (bs.map Nf++[Nf (g,SJ wr,fs.length+es.length)])),?_,by rw[aaq (Ne.symm hqb)];exact cq,?_,λi h h'=>by rw[aaq (Ne.symm h')];exact kT i h h']
   ·have d0':∀ S,GD S (Dd.ask wr g t).d (.int 0)=Y 6.2:=λS=>rfl;simp![GN,ia,jz,km,dX,ex,ie,te,VJ,kb,d1,d0',bX,bY,fl,ZT,ap]
   ·rw[aaw (aaa.mp cb).1];simp only[RZ,hw,abT,aaI,List.map_cons,ack]
def a4b{q b:Nat}{a0 a1 a2:Option D}(hqb:q≠b)(w:Ws r R l xs):∀ (S:aa) (fs:List Ev) (bs:List (Nat×Str×Nat)) (a5 a6:Option D),(∀ x∈xs,x.2.length<=100)->S[q]?=Y (.lst 2.02)->S[b]?=Y 1.83->fs.length+100*l.length<=1000000->bs.length+l.length<=400 ->
  ∃ b5 b6 S',AI 6.7 GN (SL 0.8 (UK xs)) [a0,a1,a2,Y (.ref q),Y (.ref b),a5,a6] S=Y (.nx [a0,a1,a2,Y (.ref q),Y (.ref b),b5,b6] S')/\S'[q]?=Y (.lst ((fs++CH xs).map Ev.d))/\S'[b]?=Y (.lst ((bs++qy fs.length l xs).map Nf))/\Kq q b S S':=by
 induction w with
 | nil=>
  intro S fs bs a5 a6 u hq hb u u;exact#[a5,a6,S,lK,by rw[show CH ([]:Rs)=[] from rfl,aaF];exact hq,by rw[show qy fs.length [] ([]:Rs)=[] from rfl,aaF];exact hb,λi u u=>rfl]
 | @cons R d x l xs hx t ih=>
  intro S fs bs a5 a6 few hq hb h1 h2;rw[aar] at h1 h2;have fx:=few x aab;obtain⟨S1,e1,q1,b1,P1⟩:=a4a (a0:=a0) (a1:=a1) (a2:=a2) (d:=d) (es:=x.2) hqb hq hb (λwr g t' e=>by subst e;exact Cz hx) 0.0 0.0;have lb:=a46 (d:=d) (es:=x.2) (k:=fs.length+x.2.length);obtain⟨b5,b6,S2,e2,q2,b2,P2⟩:=ih S1 (fs++x.2) _ (Y d.d) (Y (EI x.2)) (λy z=>few y 1.71) q1 b1 (by rw[aal];omega) (by rw[aal];omega);refine#[b5,b6,S2,?_,?_,?_,λi h h'=>(P2 i h h').trans (P1 i h h')]
  ·show AI _ GN (SL (d.d::l.map Dd.d) (EI x.2::UK xs)) _ S=_;rw[WN,dN,cn];simp only[bC,aP,ob,eR,eU,cQ,bP,jS,e1,iV,e2]
  ·rw[q2,iX,aay]
  ·rw[b2,zX,aal,aay]
def IB(told:PF):Prop:=∀ (S:aa) (g:Nat) (w:Str) (l:List Ev),told [.int (g:Int),.str w,.lst 6.9] S=Y (Nh g w (Nv g 0 l),S)
def a4c(O:IB told){q b:Nat}{fs:List Ev}{bs:List (Nat×Str×Nat)}(hq:S[q]?=Y (.lst 2.02))(hb:S[b]?=Y 1.83)(hk:∀ z∈bs,z.2.2<=fs.length) :
  ∀ (k i:Nat) (a c d:Option D),i<=bs.length->bs.length<k+i->OC (aQ 3 (ah '`' 4.3)) cf 2.77 b k i [a,c,d,Y (.ref q)] S=Y ((bs.drop i).map λz=>qE (z.1,z.2.1,fs.drop z.2.2),S)
 | 0=>λi a c d h0 hl=>by omega
 | k+1=>λi a c d h0 hl=>by
  unfold OC;rw[hb];dsimp only;rw[aaP];cases hx:bs[i]? with
  | none=>
   have:bs.drop i=[]:=by simpa using hx
   rw[this];rfl
  | some z=>
   have hi:=(aaa.mp hx).1;have ih:=a4c O hq hb hk k (i+1) (Y (.int (z.1:Int))) (Y (.str z.2.1)) (Y (.int (z.2.2:Int))) hi 0.0
   have hd:bs.drop i=z::bs.drop (i+1):=by
    rw[abu hi];congr 1;exact(aaa.mp hx).2
   have sl:∀ l h,Dn (.ref q) l (h,S)=Y (.lst (XB 2.02 l h),S):=λl h=>a0P hq;have ct:XB 2.02 (Y (z.2.2:Int)) J=(fs.drop z.2.2).map Ev.d:=by rw[a41 (by rw[aaf];exact hk z (aax hx)),acT]
   show(aQ 3 (ah '`' 4.3) (.tup [.int (z.1:Int),.str z.2.1,.int (z.2.2:Int)]) [a,c,d,Y (.ref q)] S).bind _=_;rw[rH];simp![bC,cQ,bP,iU,abT,cE,eQ,dj,dq,cL,eO,sl,ct,bO,O S,ih,hd,List.map_cons];rfl
def a4d:∀ (l:List Dd) (xs:Rs) (k:Nat),∀ z∈qy k l xs,z.2.2<=k+(CH xs).length
 | [],xs,k=>by cases xs<;>exact λz h=>by cases h
 | d::l,[],k=>by cases d<;>exact λz h=>by cases h
 | d::l,x::xs,k=>λz h=>by
  rw[zX] at h;rw[iX,aal];rcases aan.mp h with h | h
  ·have:z.2.2=k+x.2.length:=by
    unfold RZ at h;split at h
    ·split at h
     ·rw[aat.mp h]
     ·cases h
    ·cases h
   omega
  ·have:=a4d l xs (k+x.2.length) z h;omega
def a4e{ran:PF}(O:IB told){N:List Str}(hN:N.length=7){n:Nat}(w:Ws r (JZ n) l xs)(few:∀ x∈xs,x.2.length<=100)(hl:l.length<=200)(hr:∀ S,∃ S',ran [r.d,.int (n:Int),.tup 0.8] S=Y (Oe (JZ n) xs,S')/\∀ i,i<S.length->S'[i]?=S[i]?) :
  ∃ S',Gw N (Dz ran told) 3 [r.d,.int (n:Int),.tup 0.8] S=Y (.tup ((QY l xs).map qE),S')/\∀ i,i<S.length->S'[i]?=S[i]?:=by
 have hst:FV N [r.d,.int (n:Int),.tup 0.8]=[Y r.d,Y 1.3,Y 2.61,J,J,J,J]:=by simp[FV,hN,ZB]
 rw[ca (show [r.d,D.int (n:Int),D.tup 0.8].length=3 from rfl),hst];have kz:∀ S,TX ([.tup 0.8,.tup (UK xs)],S)=Y (SL 0.8 (UK xs),S):=λS=>a0Z (by unfold UK;rw[aaf,aaf,w.len];exact aas _);have kl:∀ S,Ms ([],S)=Y (.ref S.length,S++[.lst []]):=λS=>nU 0.3;obtain⟨S1,e1,K1⟩:=hr (S++[Cell.lst []]++[Cell.lst []]);have l2:(S++[Cell.lst []]++[Cell.lst []]).length=S.length+2:=by simp
 have c1:(S++[Cell.lst []]).length=S.length+1:=by simp
 have cq:S1[S.length]?=Y (.lst (([]:List Ev).map Ev.d)):=by rw[K1 _ 0.0,aap 0.0];exact gC
 have cb:S1[S.length+1]?=Y (.lst (([]:List (Nat×Str×Nat)).map Nf)):=by rw[K1 _ 0.0,<- c1];exact gC
 obtain⟨b5,b6,S2,e2,q2,b2,K2⟩:=a4b (a0:=Y r.d) (a1:=Y 1.3) (a2:=Y 2.61) (q:=S.length) (b:=S.length+1) 0.0 w S1 [] [] J J few cq cb 0.7 0.7;rw[abW] at q2 b2;have le:=a4d l xs 0
 have hbl:(qy 0 l xs).length<=l.length:=by
  have:=congrArg List.length (tH l xs []);rw[aaf,aaf] at this;have z:=rW (l:=l) (xs:=xs);exact this ▸ z
 have cm:=a4c O q2 b2 (λz h=>by have:=le z h;omega) 2000 0 J J J (abG _) (by show(qy 0 l xs).length<2000+0;omega);have tl:=tH l xs [];rw[abW] at tl;have cm':OC (aQ 3 (ah '`' 4.3)) cf 2.77 (S.length+1) 2000 0 [J,J,J,Y 0.6] S2=Y ((QY l xs).map qE,S2):=by rw[cm,acz];exact congrArg (λz=>Y (z,S2)) tl
 have kx:∀ a5 a6,BM (aQ 3 (ah '`' 4.3)) cf 2.77 [J,J,J,Y 3] [Y r.d,Y 1.3,Y 2.61,Y 0.6,Y (.ref (S.length+1)),a5,a6] (.ref (S.length+1),S2)=Y (.lst ((QY l xs).map qE),S2):=λa5 a6=>by
  rw[a16,show Od [J,J,J,Y 3] [Y r.d,Y 1.3,Y 2.61,Y 0.6,Y (.ref (S.length+1)),a5,a6]=[J,J,J,Y 0.6] from rfl,cm',ob,jT]
 have x1:∀ S,GD S (Oe (JZ n) xs) (.int 1)=Y (.tup (UK xs)):=λS=>rfl;refine#[S2,?_,λi h=>(K2 i 0.0 0.0).trans ((K1 i 0.0).trans (by rw[aay];exact aap h))];simp![Dz,mD,kl,c1,sK,Yk,bO,e1,x1,kz,sU,e2,bX,A1l,a15,kx,bY,fD]
end
def A1m:Str:="in"
def NH:Str:="steps"
def A1n(wr:Bool):Wd:=if wr then .writes else .reads
section
variable{r:Rl}{R:Rm}
def a4f{y:En}(hy:y∈(Xe r R).1.2):∃ x∈R.2,x.g=y.g/\x.wr=y.wr:=by
 unfold Xe at hy;split at hy
 ·exact#[y,hy,rfl,rfl]
 ·split at hy
  ·split at hy
   ·rcases aan.mp hy with z | z
    ·obtain⟨x,hx,rfl⟩:=aai.mp z;exact#[x,abg hx,rfl,rfl]
    ·exact#[y,acD z,rfl,rfl]
   ·exact#[y,hy,rfl,rfl]
  ·exact#[y,hy,rfl,rfl]
end
section
variable{r:Rl}{R:Rm}
def Still(r:Rl)(R:Rm):Prop:=UP r R=J
def Still.next(h:Still r R):UR r R=J/\∀ g,R.1[g]?=Y .rising->MM r R g=false:=by
 unfold Still UP at h;split at h
 ·cases h
 ·rename_i hf;refine#[by simpa using h,λg hg=>?_]
  have hm:g∈Su (λw=>decide (w=.rising)) R.1:=by
   unfold Su;rw[aai];refine#[(.rising,g),aaA.mpr #[?_,by simp],rfl];rw[acE];exact hg
  simpa using aeR.mp hf g hm
def Still.settled(h:Still r R)(hk:ROk R)(hb:0<=r.b):JK r R=(R,[]):=lz h hk hb _
def iS(hk:ROk R)(hb:0<=r.b):Still r (JK r R).1:=(a36 _ hk hb (a35 hk)).1
def tF{e:En}{g:Nat}(hg:g≠e.g):MM r (R.1,R.2++[e]) g=MM r R g:=by
 unfold MM;dsimp only;rw[List.find?_append,show List.find? (λx:En=>decide (x.g=g)) [e]=J by rw[abp,aao (Ne.symm hg)];rfl,Option.or_none]
def a4g{e:En}(hs:Cg R.2 e.g=false):∀ l:List En,(∀ x∈l,x.g≠e.g)->Sl r R l=J->∀ g,Sl r (R.1,R.2++[e]) (l++[e])=Y g->g=e.g
 | []=>λz z g h=>by
  rw[abW] at h;unfold Sl at h;split at h
  ·exact(aau h).symm
  ·split at h
   ·cases h
   ·cases h
 | x::l=>λhn h0 g h=>by
  have hx:=hn x aab;rw[acC] at h;unfold Sl at h h0;rw[tF hx] at h;split at h0
  ·cases h0
  ·rename_i hc;rw[if_neg hc] at h;split at h0
   ·rename_i hb;rw[aam hb] at h;cases h
   ·rename_i hb;rw[if_neg hb] at h;exact a4g hs l (λy hy=>hn y 1.60) h0 g h
def a4h{es:List En}{e:En}(h:(TR w (es++[e])).head?=Y g):(TR w es).head?=Y g\/g=e.g:=by
 unfold TR at h ⊢;simp only[adq,aaI] at h;cases ht:(es.filter (Kr w)).map (·.g) with
 | cons a l=>rw[ht] at h;exact .inl h
 | nil=>
  rw[ht] at h;rw[abW];by_cases h1:Kr w e=true
  ·rw[show [e].filter (Kr w)=[e] by rw[aaG,aam h1];rfl] at h;exact .inr (aau h).symm
  ·rw[show [e].filter (Kr w)=[] by rw[aaG,if_neg h1];rfl] at h;cases hv:(es.filter (RG w)).map (·.g) with
   | cons a l=>rw[hv] at h;exact .inl h
   | nil=>
    rw[hv] at h;by_cases h2:RG w e=true
    ·rw[show [e].filter (RG w)=[e] by rw[aaG,aam h2];rfl] at h;exact .inr (aau h).symm
    ·rw[show [e].filter (RG w)=[] by rw[aaG,if_neg h2];rfl] at h;cases es with
     | nil=>exact .inr (aau h).symm
     | cons a l=>exact .inl h
def a4i{e:En}(hs:Cg R.2 e.g=false)(h0:UR r R=J)(h:UR r (R.1,R.2++[e])=Y g):g=e.g:=by
 unfold UR at h h0;split at h
 ·rename_i hw;rw[aam hw] at h0;exact a4g hs R.2 (λx hx=>db hs hx) h0 g h
 ·rename_i hw;rw[if_neg hw] at h0;dsimp only at h;split at h
  ·cases h
  ·rename_i g' hf;split at h
   ·rename_i hc;cases h;rcases a4h hf with z | z
    ·by_cases he:g=e.g
     ·exact he
     ·rw[z] at h0;dsimp only at h0;rw[<- tF (R:=R) he,hc,aam rfl] at h0;cases h0
    ·exact z
   ·cases h
def vt:∀ (n:Nat) {R:Rm},Cg R.2 g=false->Cg (JM r n R).1.2 g=false
 | 0,R,h=>h
 | n+1,R,h=>by
  refine vt n (R:=(Xe r R).1) ?_;cases hq:Cg (Xe r R).1.2 g with
  | false=>rfl
  | true=>
   obtain⟨y,hy,hg⟩:=aaO.mp hq;obtain⟨x,hx,e1,z⟩:=a4f hy;have:=db h hx;exact absurd (e1.trans (aaD hg)) this
def a4j{g:Nat}(h:ROk R)(hb:0<=r.b)(hst:Still r R)(hw:R.1[g]?=Y .out)(hs:Cg R.2 g=false)(hy:Cg (JK r (R.1,R.2++[ZV wr g t])).1.2 g=true) :
  JK r (R.1,R.2++[ZV wr g t])=((R.1,R.2++[ZV wr g t]),[]):=by
 have ok:=mN (wr:=wr) (t:=t) h hw hs;cases hc:UP r (R.1,R.2++[ZV wr g t]) with
 | none=>exact lz hc ok hb _
 | some v=>
  exfalso;obtain⟨n0,r0⟩:=hst.next;unfold UP at hc;split at hc
  ·rename_i g' hf;have hm:=List.mem_of_find?_eq_some hf
   have hr:R.1[g']?=Y .rising:=by
    unfold Su at hm;obtain⟨q,hq,rfl⟩:=aai.mp hm;obtain⟨q1,q2⟩:=aaA.mp hq;have:=acE.mp q1;dsimp only at this;rw[this,aaD q2]
   have hg:g'≠g:=λz=>by rw[z,hw] at hr;cases hr
   have h1:=List.find?_some hf;rw[tF (R:=R) (e:=ZV wr g t) hg,r0 g' hr] at h1;cases h1
  ·obtain⟨g',hn,hv⟩:=aeo.mp hc;have hg:g'=g:=a4i (e:=ZV wr g t) hs n0 hn;subst hg
   have hc':UP r (R.1,R.2++[ZV wr g' t])=Y #["in",g']:=by
    unfold UP;rename_i hf;rw[hf,hn];rfl
   have s:=lV ok hb;rw[hc'] at s;obtain⟨i,e,e1,e2,e3⟩:=a3i s rfl
   have gone:Cg (Xe r (R.1,R.2++[ZV wr g' t])).1.2 g'=false:=by
    rw[e3];cases hq:Cg (qo r (R.1,R.2++[ZV wr g' t]) i e).2 g' with
    | false=>rfl
    | true=>
     obtain⟨y,hy,hg⟩:=aaO.mp hq;have:=(a1R (r:=r) ok e2).out y hy;rw[aaD hg] at this
     have h2:(qo r (R.1,R.2++[ZV wr g' t]) i e).1[g']?=Y (if e.wr then .writes else .reads):=by
      show(R.1.set e.g _)[g']?=_;rw[e1,aaw (aaa.mp hw).1]
     rw[h2] at this;split at this<;>cases this
   have n1:1<=2*R.1.length:=by have:=(aaa.mp hw).1;omega
   obtain⟨m,hm⟩:∃ m,2*R.1.length=m+1:=#[2*R.1.length - 1,by omega]
   have:Cg (JK r (R.1,R.2++[ZV wr g' t])).1.2 g'=false:=by
    unfold JK;show Cg (JM r (2*R.1.length) _).1.2 g'=false;rw[hm];exact vt m gone
   rw[this] at hy;cases hy
def qu{d:Dd}(h:ROk R)(hb:0<=r.b)(hst:Still r R)(hx:XU r R d=Y x):Still r x.1:=by
 unfold XU at hx;split at hx
 ·cases hx
 rename_i hc;have hc:IW R d=true:=by simpa using hc
 cases d with
 | tick=>
  cases hx;exact iS (R:=(R.1,_)) (ROk.filter (ROk.mapE h PR λe=>rfl) _) hb
 | ask wr g t=>
  cases hx;simp only[IW,aag,aaU,Bool.not_eq_true'] at hc;have ok:=mN (wr:=wr) (t:=t) h hc.1 hc.2;have st:=iS ok hb;unfold OH;dsimp only;split
  ·exact st
  ·rename_i hy;split
   ·have e:=a4j (t:=t) h hb hst hc.1 hc.2 (by simpa using hy);rw[e]
    have:(R.2++[ZV wr g t]).filter (λe=>decide (e.g≠g))=R.2:=by
     rw[adq,abc.mpr (λe he=>aaj (db hc.2 he))];rw[aaG,if_neg (by simp[ZV])];simp
    show Still r (R.1,(R.2++[ZV wr g t]).filter λe=>decide (e.g≠g));rw[this];exact hst
   ·exact st
 | act k g=>
  dsimp only at hx;split at hx
  ·cases hx;exact hst
  ·split at hx
   ·cases hx;exact iS (rY h _) hb
   ·cases hx
end
def A1o(g:Nat)(l:List Ev):List Str:=(l.filter λe=>decide (e.g=g)).map (·.w)
section
variable{r:Rl}{R:Rm}
inductive Tl(R R':Rm)(l:List Ev)(g:Nat):Prop
 | no (h:A1o g l=[]) (e:R'.1[g]?=R.1[g]?):Tl R R' l g
 | go (h:A1o g l=[A1m]) (e:R.1[g]?=Y .out) (s:Cg R.2 g=true) (wr:Bool) (e':R'.1[g]?=Y (A1n wr)):Tl R R' l g
 | up (h:A1o g l=[NH]) (e:R.1[g]?=Y .rising) (e':R'.1[g]?=Y .raised):Tl R R' l g
structure Tk(w w':Wd)(ws:List Str):Prop where
 one:ws.length<=1
 i:decide (A1m∈ws)=(decide (w=.out)&&!decide (w'=.out))
 o:decide ((("out":Str))∈ws)=(!decide (w=.out)&&decide (w'=.out))
 s:decide (NH∈ws)=(!decide (w=.raised)&&decide (w'=.raised))
theorem Ll{a b:Str}:decide (a∈[b])=(a==b):=by
 rw[aaN,aeK,beq_iff_eq,aat]
def a4k{w w':Wd}(h1:(decide (w=.out)&&!decide (w'=.out))=false)(h2:(!decide (w=.out)&&decide (w'=.out))=false)(h3:(!decide (w=.raised)&&decide (w'=.raised))=false):Tk w w' []:=
 #[abG _,by rw[h1];simp,by rw[h2];simp,by rw[h3];simp]
def a4l(w:Wd):Tk w w []:=a4k (by cases w<;>rfl) (by cases w<;>rfl) (by cases w<;>rfl)
def Tl.tk(t:Tl R R' l g)(hw:R.1[g]?=Y w):∃ w',R'.1[g]?=Y w'/\Tk w w' (A1o g l):=by
 cases t with
 | no a b=>exact#[w,by rw[b];exact hw,by rw[a];exact a4l w]
 | go a b s wr c=>
  refine#[_,c,?_];have:w=.out:=by rw[hw] at b;exact aau b
  subst this;rw[a];exact#[aas _,by rw[Ll];cases wr<;>decide +kernel,by rw[Ll];cases wr<;>decide +kernel,by rw[Ll];cases wr<;>decide +kernel]
 | up a b c=>
  refine#[_,c,?_];have:w=.rising:=by rw[hw] at b;exact aau b
  subst this;rw[a];exact#[aas _,by rw[Ll];decide +kernel,by rw[Ll];decide +kernel,by rw[Ll];decide +kernel]
end
end MI
section
set_option maxHeartbeats 4000000
namespace K27
open L2 MI
open M hiding jU iA mC af az aC cU eD cM gE eL Dj AA SQ lZ am ac aW eV dD xN bA bV bz bB iz ax ba aF bp dg bU ai aK ah aQ eX aN cC hZ ci dT cf dH eM jb kD gq dF dP dU el eh dE cT gY lO
@[inline]def gm(i:Nat):Kw:=PySem.Challenge.pw_manyreaders_k27_rows_within_the_numbers.main.body.getD i (.Pass #[0,0,0,0])
abbrev eK:Kw:=gm 51
abbrev iJ:Kw:=gm 53
abbrev gR:Kw:=gm 52
abbrev gP:Kw:=gm 54
abbrev gN:Kw:=gm 55
abbrev gT:Kw:=gm 56
abbrev iI:Kw:=gm 59
abbrev fq:Kw:=gm 57
abbrev gQ:Kw:=gm 58
abbrev eJ:Kw:=gm 60
abbrev iK:Kw:=gm 61
abbrev gc:Kw:=gm 64
abbrev fo:Kw:=gm 62
abbrev gS:Kw:=gm 63
abbrev dR:Kw:=gm 66
abbrev gK:Kw:=gm 1
abbrev gb:Kw:=gm 65
abbrev oM:Kw:=gm 11
abbrev fh:Kw:=gm 12
abbrev iG:Kw:=gm 21
abbrev jD:Kw:=gm 15
abbrev lG:Kw:=gm 19
abbrev gL:Kw:=gm 22
abbrev jF:Kw:=gm 20
abbrev lE:Kw:=gm 24
abbrev gI:Kw:=gm 13
abbrev lD:Kw:=gm 26
abbrev fW:Kw:=gm 25
abbrev jE:Kw:=gm 23
abbrev eI:Kw:=gm 14
abbrev gM:Kw:=gm 35
abbrev iH:Kw:=gm 36
abbrev dL:Kw:=gm 43
abbrev lC:Kw:=gm 42
abbrev fZ:Kw:=gm 37
abbrev fj:Kw:=gm 38
abbrev fY:Kw:=gm 39
abbrev iE:Kw:=gm 41
abbrev fX:Kw:=gm 40
abbrev sr:Kw:=gm 34
abbrev fg:Kw:=gm 6
abbrev jG:Kw:=gm 5
abbrev iF:Kw:=gm 3
abbrev fV:Kw:=gm 4
abbrev jH:Kw:=gm 32
abbrev lH:Kw:=gm 33
abbrev lA:Kw:=gm 47
abbrev yP:Kw:=gm 46
abbrev gJ:Kw:=gm 49
abbrev lB:Kw:=gm 48
abbrev yQ:Kw:=gm 67
def Vo:List (bK×D):=[(.inr "rows",.non),(.inr "readers",(.str "read")),(.inr "writers",(.str "write")),(.inr "turns",(.str "write"))]
def TF:D:=(.int 9)
def Td:D:=(.tup [(.str "up"),(.str "down"),(.str "leave"),(.str "stop")])
def XF:D:=(.tup [(.str "read"),(.str "write")])
def SZ:List (bK×D):=[(.inr "read",(.str "reads")),(.inr "write",(.str "writes"))]
def UV:D:=(.tup [(.str "writes"),(.str "raised")])
structure Txt(w:tx)(K:Ym)(mg:Str->Option ab):Prop where
 q0:bW K mg "_law_cell_at" eK
 q1:bW K mg "_law_far" iJ
 q2:bW K mg "_law_left" gR
 q3:bW K mg "_law_pick" gP
 q4:bW K mg "_law_rule" gN
 q5:bW K mg "_law_deed" gT
 q6:bW K mg "_law_put" iI
 q7:bW K mg "_law_fronts" fq
 q8:bW K mg "_law_lets" gQ
 q9:bW K mg "_law_settled" eJ
 qa:bW K mg "_law_can" iK
 qb:bW K mg "_law_asked" gc
 qc:bW K mg "_law_marked" fo
 qd:bW K mg "_law_done" gS
 qe:bW K mg "_law_long_row" dR
 qf:bW K mg "told_most" gK
 qg:bW K mg "_law_waits" gb
 qh:bW K mg "empty" oM
 qi:bW K mg "guests_with" fh
 qj:bW K mg "foremost" iG
 qk:bW K mg "waiting" jD
 ql:bW K mg "can_go" lG
 qm:bW K mg "next_past" gL
 qn:bW K mg "next_in" jF
 qo:bW K mg "coming" lE
 qp:bW K mg "with_word" gI
 qq:bW K mg "let_in" lD
 qr:bW K mg "brought_by" fW
 qs:bW K mg "settled" jE
 qt:bW K mg "without_wait" eI
 qu:bW K mg "bring_ask" gM
 qv:bW K mg "bring_up" iH
 qw:bW K mg "settled_behind" dL
 qx:bW K mg "turned" lC
 qy:bW K mg "bring_down" fZ
 qz:bW K mg "bring_leave" fj
 qA:bW K mg "bring_stop" fY
 qB:bW K mg "one_less" iE
 qC:bW K mg "bring_tick" fX
 qD:bW K mg "done" sr
 qE:bW K mg "is_tuple_of" fg
 qF:bW K mg "is_word" jG
 qG:bW K mg "is_whole" iF
 qH:bW K mg "is_between" fV
 qI:bW K mg "is_deed" jH
 qJ:bW K mg "can_do" lH
 qK:bW K mg "walked" lA
 qL:bW K mg "ran" yP
 qM:bW K mg "wait_told" gJ
 qN:bW K mg "waited" lB
 qO:bW K mg "law" yQ
 qP:mg "all" = J
 qQ:mg "bool" = J
 qR:mg "enumerate" = J
 qS:mg "int" = J
 qT:mg "isinstance" = J
 qU:mg "len" = J
 qV:mg "list" = J
 qW:mg "max" = J
 qX:mg "min" = J
 qY:mg "range" = J
 qZ:mg "str" = J
 z0:mg "tuple" = J
 z1:mg "zip" = J
 z2:FNm w K mg "BRINGS" [("read","bring_ask"),("write","bring_ask"),("up","bring_up"),("down","bring_down"),("leave","bring_leave"),("stop","bring_stop"),("tick","bring_tick")]
 z3:xJ w K mg "FAVOURED" Vo
 z4:GC K mg "GREATEST_LEFT" TF
 z5:GC K mg "GUEST_WORDS" Td
 z6:GC K mg "WANTS" XF
 z7:xJ w K mg "WORD_WITHIN" SZ
 z8:GC K mg "WRITING_WORDS" UV
section
local macro_rules|`(tactic|symm)=>`(tactic|(intro _ _ _ _ _ _;repeat (first|exact jt rfl|(refine cO ?_;intro _))))
variable{P:td}{w:tx}{K:Ym}{mg:Str->Option ab}{base:NY}
def N__law_cell_at:List Str:=["_law_script","_law_k"]
def MJ:List 1.4:=[("len",.blt)]
def fO:=Gw N__law_cell_at (Lg (OF N__law_cell_at eK MJ []) (SH eK)) 2
def uA:aU N__law_cell_at (N__law_cell_at.take 2) (Xt eK):=by ac_rfl
def uC(T:Txt w K mg):Fn P w K mg base 1 "_law_cell_at" 2 fO:=
 bv (gs:=MJ) T.q0 uA 1.9 #[T.qU,trivial]
def N__law_far:List Str:=["_law_far_here","_law_k"]
def AJ:List 1.4:=[("range",.blt)]
def jY:=Gw N__law_far (Lg (OF N__law_far iJ AJ []) (SH iJ)) 0
def a4m:aU N__law_far (N__law_far.take 0) (Xt iJ):=by ac_rfl
def a4n(T:Txt w K mg):Fn P w K mg base 1 "_law_far" 0 jY:=
 bv (gs:=AJ) T.q1 a4m 1.9 #[T.qY,trivial]
def N__law_left:List Str:=["_law_script","_law_k","_law_cell","_law_seed"]
def Ts:List 1.4:=[("_law_cell_at",.fn 2 fO),("max",.blt),("_law_far",.fn 0 jY),("len",.blt)]
def jh:=Gw N__law_left (Lg (OF N__law_left gR Ts [226]) (SH gR)) 2
def a4o:aU N__law_left (N__law_left.take 2) (Xt gR):=by ac_rfl
def a4p(T:Txt w K mg):Fn P w K mg base 2 "_law_left" 2 jh:=
 bv (gs:=Ts) T.q2 a4o 1.9 #[(uC T).up,T.qW,(a4n T).up,T.qU,trivial]
def N__law_pick:List Str:=["_law_left_here","_law_many","_law_digit"]
def DQ:List 1.4:=[]
def cx:=Gw N__law_pick (Lg (OF N__law_pick gP DQ []) (SH gP)) 2
def a4q:aU N__law_pick (N__law_pick.take 2) (Xt gP):=by ac_rfl
def jx(T:Txt w K mg):Fn P w K mg base 1 "_law_pick" 2 cx:=
 bv (gs:=DQ) T.q3 a4q 1.9 trivial
def N__law_rule:List Str:=["_law_left_here","_law_word","_law_most","_law_times"]
def MN:List 1.4:=[("_law_pick",.fn 2 cx),("int",.blt)]
def hU:=Gw N__law_rule (Lg (OF N__law_rule gN MN []) (SH gN)) 1
def a4r:aU N__law_rule (N__law_rule.take 1) (Xt gN):=by ac_rfl
def a4s(T:Txt w K mg):Fn P w K mg base 2 "_law_rule" 1 hU:=
 bv (gs:=MN) T.q4 a4r 1.9 #[(jx T).up,T.qS,trivial]
def N__law_deed:List Str:=["_law_left_here","_law_n","_law_guest","_law_way"]
def Gv:List 1.4:=[("_law_pick",.fn 2 cx)]
def ji:=Gw N__law_deed (Lg (OF N__law_deed gT Gv []) (SH gT)) 2
def a4t:aU N__law_deed (N__law_deed.take 2) (Xt gT):=by ac_rfl
def a4u(T:Txt w K mg):Fn P w K mg base 2 "_law_deed" 2 ji:=
 bv (gs:=Gv) T.q5 a4t 1.9 #[(jx T).up,trivial]
def N__law_put:List Str:=["_law_within","_law_guest","_law_word"]
def PM:List 1.4:=[]
def eW:=Gw N__law_put (Lg (OF N__law_put iI PM []) (SH iI)) 3
def a4v:aU N__law_put (N__law_put.take 3) (Xt iI):=by ac_rfl
def tU(T:Txt w K mg):Fn P w K mg base 1 "_law_put" 3 eW:=
 bv (gs:=PM) T.q6 a4v 1.9 trivial
def N__law_fronts:List Str:=["_law_rule_here","_law_waits_here","_law_reading","_law_writing","_law_tagged"]
def CM:List 1.4:=[("enumerate",.blt),("list",.blt),("range",.blt),("len",.blt),("max",.blt)]
def gz:=Gw N__law_fronts (Lg (OF N__law_fronts fq CM []) (SH fq)) 2
def vA:aU N__law_fronts (N__law_fronts.take 2) (Xt fq):=by ac_rfl
def vO(T:Txt w K mg):Fn P w K mg base 1 "_law_fronts" 2 gz:=
 bv (gs:=CM) T.q7 vA 1.9 #[T.qR,T.qV,T.qY,T.qU,T.qW,trivial]
def N__law_lets:List Str:=["_law_rule_here","_law_within","_law_want","_law_reading"]
def NA:List 1.4:=[("len",.blt)]
def jg:=Gw N__law_lets (Lg (OF N__law_lets gQ NA []) (SH gQ)) 3
def a4w:aU N__law_lets (N__law_lets.take 3) (Xt gQ):=by ac_rfl
def a4x(T:Txt w K mg):Fn P w K mg base 1 "_law_lets" 3 jg:=
 bv (gs:=NA) T.q8 a4w 1.9 #[T.qU,trivial]
def N__law_settled:List Str:=["_law_rule_here","_law_room","_law_within","_law_waits_here","_law_events","_law_turn","_law_alone","_law_some","_law_guest","_law_want","_law_mark","_law_rest","_law_ahead"]
def OQ:List 1.4:=[("range",.blt),("len",.blt),("_law_put",.fn 3 eW),("_law_fronts",.fn 2 gz),("_law_lets",.fn 3 jg),("tuple",.blt),("int",.blt)]
def dh:=Gw N__law_settled (Lg (OF N__law_settled eJ OQ [275]) (SH eJ)) 2
def uz:aU N__law_settled (N__law_settled.take 2) (Xt eJ):=by ac_rfl
def mU(T:Txt w K mg):Fn P w K mg base 2 "_law_settled" 2 dh:=
 bv (gs:=OQ) T.q9 uz 1.9 #[T.qY,T.qU,(tU T).up,(vO T).up,(a4x T).up,T.z0,T.qS,trivial]
def N__law_can:List Str:=["_law_room","_law_deed_here","_law_within","_law_waits_here","_law_here","_law_stays","_law_fits"]
def UI:List 1.4:=[]
def jZ:=Gw N__law_can (Lg (OF N__law_can iK UI [295]) (SH iK)) 2
def a4y:aU N__law_can (N__law_can.take 2) (Xt iK):=by ac_rfl
def a4z(T:Txt w K mg):Fn P w K mg base 1 "_law_can" 2 jZ:=
 bv (gs:=UI) T.qa a4y 1.9 trivial
def N__law_asked:List Str:=["_law_rule_here","_law_room","_law_deed_here","_law_word","_law_guest","_law_rest","_law_entry","_law_events"]
def TC:List 1.4:=[("_law_settled",.fn 2 dh),("tuple",.blt)]
def ip:=Gw N__law_asked (Lg (OF N__law_asked gc TC []) (SH gc)) 3
def xX:aU N__law_asked (N__law_asked.take 3) (Xt gc):=by ac_rfl
def yf(T:Txt w K mg):Fn P w K mg base 3 "_law_asked" 3 ip:=
 bv (gs:=TC) T.qb xX 1.9 #[(mU T).up,T.z0,trivial]
def N__law_marked:List Str:=["_law_rule_here","_law_here","_law_waits_here"]
def Lh:List 1.4:=[("tuple",.blt)]
def gy:=Gw N__law_marked (Lg (OF N__law_marked fo Lh []) (SH fo)) 3
def vz:aU N__law_marked (N__law_marked.take 3) (Xt fo):=by ac_rfl
def vN(T:Txt w K mg):Fn P w K mg base 1 "_law_marked" 3 gy:=
 bv (gs:=Lh) T.qc vz 1.9 #[T.z0,trivial]
def N__law_done:List Str:=["_law_rule_here","_law_room","_law_deed_here","_law_within","_law_waits_here","_law_fewer","_law_gone","_law_events","_law_word","_law_guest","_law_here","_law_first","_law_there","_law_more"]
def NO:List 1.4:=[("tuple",.blt),("_law_settled",.fn 2 dh),("_law_can",.fn 2 jZ),("_law_asked",.fn 3 ip),("int",.blt),("_law_marked",.fn 3 gy),("_law_put",.fn 3 eW)]
def di:=Gw N__law_done (Lg (OF N__law_done gS NO []) (SH gS)) 3
def a4A:aU N__law_done (N__law_done.take 3) (Xt gS):=by ac_rfl
def qL(T:Txt w K mg):Fn P w K mg base 4 "_law_done" 3 di:=
 bv (gs:=NO) T.qd a4A 1.9 #[T.z0,(mU T).up,(a4z T).up,(yf T).up,T.qS,(vN T).up,(tU T).up,trivial]
def N__law_long_row:List Str:=["_law_left_here","_law_rule_here","_law_n","_law_size","_law_room","_law_row","_law_turn","_law_deed_here","_law_found"]
def OB:List 1.4:=[("range",.blt),("tuple",.blt),("_law_deed",.fn 2 ji),("_law_done",.fn 3 di),("_law_pick",.fn 2 cx)]
def eY:=Gw N__law_long_row (Lg (OF N__law_long_row dR OB [353]) (SH dR)) 4
def sj:aU N__law_long_row (N__law_long_row.take 4) (Xt dR):=by ac_rfl
def sB(T:Txt w K mg):Fn P w K mg base 5 "_law_long_row" 4 eY:=
 bv (gs:=OB) T.qe sj 1.9 #[T.qY,T.z0,(a4u T).up,(qL T).up,(jx T).up,trivial]
def N_told_most:List Str:=["rule","n","word","most","k","ups","others"]
def Zd:List 1.4:=[]
def jf:=Gw N_told_most (Lg (OF N_told_most gK Zd []) (SH gK)) 2
def a4B:aU N_told_most (N_told_most.take 2) (Xt gK):=by ac_rfl
def a4C(T:Txt w K mg):Fn P w K mg base 1 "told_most" 2 jf:=
 bv (gs:=Zd) T.qf a4B 1.9 trivial
def N__law_waits:List Str:=["_law_rule_here","_law_n","_law_row","_law_room","_law_found","_law_begun","_law_deed_here","_law_events","_law_word","_law_guest","_law_other"]
def Uq:List 1.4:=[("_law_done",.fn 3 di),("len",.blt)]
def io:=Gw N__law_waits (Lg (OF N__law_waits gb Uq [336,337,349,600000]) (SH gb)) 3
def xW:aU N__law_waits (N__law_waits.take 3) (Xt gb):=by ac_rfl
def ye(T:Txt w K mg):Fn P w K mg base 5 "_law_waits" 3 io:=
 bv (gs:=Uq) T.qg xW 1.9 #[(qL T).up,T.qU,trivial]
def N_empty:List Str:=["n"]
def JA:List 1.4:=[]
def iW:=Gw N_empty (Lg (OF N_empty oM JA []) (SH oM)) 1
def a4D:aU N_empty (N_empty.take 1) (Xt oM):=by ac_rfl
def a4E(T:Txt w K mg):Fn P w K mg base 1 "empty" 1 iW:=
 bv (gs:=JA) T.qh a4D 1.9 trivial
def N_guests_with:List Str:=["room","words"]
def XC:List 1.4:=[("tuple",.blt),("enumerate",.blt)]
def cG:=Gw N_guests_with (Lg (OF N_guests_with fh XC []) (SH fh)) 2
def vw:aU N_guests_with (N_guests_with.take 2) (Xt fh):=by ac_rfl
def jM(T:Txt w K mg):Fn P w K mg base 1 "guests_with" 2 cG:=
 bv (gs:=XC) T.qi vw 1.9 #[T.z0,T.qR,trivial]
def N_foremost:List Str:=["word","waits","turned","favoured","ranked"]
def Kt:List 1.4:=[("FAVOURED",.tab Vo)]
def mF:=Gw N_foremost (Lg (OF N_foremost iG Kt []) (SH iG)) 2
def a4F:aU N_foremost (N_foremost.take 2) (Xt iG):=by ac_rfl
def a4G(T:Txt w K mg):Fn P w K mg base 1 "foremost" 2 mF:=
 bv (gs:=Kt) T.qj a4F 1.9 #[T.z3,trivial]
def N_waiting:List Str:=["room","guest","entry"]
def SX:List 1.4:=[("guests_with",.fn 2 cG)]
def cD:=Gw N_waiting (Lg (OF N_waiting jD SX []) (SH jD)) 2
def a4H:aU N_waiting (N_waiting.take 2) (Xt jD):=by ac_rfl
def jL(T:Txt w K mg):Fn P w K mg base 2 "waiting" 2 cD:=
 bv (gs:=SX) T.qk a4H 1.9 #[(jM T).up,trivial]
def N_can_go:List Str:=["rule","room","guest","want","beside","most"]
def ET:List 1.4:=[("waiting",.fn 2 cD),("all",.blt),("enumerate",.blt),("len",.blt)]
def il:=Gw N_can_go (Lg (OF N_can_go lG ET []) (SH lG)) 3
def a4I:aU N_can_go (N_can_go.take 3) (Xt lG):=by ac_rfl
def sA(T:Txt w K mg):Fn P w K mg base 3 "can_go" 3 il:=
 bv (gs:=ET) T.ql a4I 1.9 #[(jL T).up,T.qP,T.qR,T.qU,trivial]
def N_next_past:List Str:=["rule","room","guest","want","mark","left"]
def SN:List 1.4:=[("can_go",.fn 3 il)]
def kS:=Gw N_next_past (Lg (OF N_next_past gL SN []) (SH gL)) 2
def a4J:aU N_next_past (N_next_past.take 2) (Xt gL):=by ac_rfl
def a4K(T:Txt w K mg):Fn P w K mg base 4 "next_past" 2 kS:=
 bv (gs:=SN) T.qm a4J 1.9 #[(sA T).up,trivial]
def N_next_in:List Str:=["rule","room","guest"]
def Pt:List 1.4:=[("foremost",.fn 2 mF),("next_past",.fn 2 kS),("can_go",.fn 3 il)]
def lQ:=Gw N_next_in (Lg (OF N_next_in jF Pt []) (SH jF)) 2
def a4L:aU N_next_in (N_next_in.take 2) (Xt jF):=by ac_rfl
def a4M(T:Txt w K mg):Fn P w K mg base 5 "next_in" 2 lQ:=
 bv (gs:=Pt) T.qn a4L 1.9 #[(a4G T).up,(a4K T).up,(sA T).up,trivial]
def N_coming:List Str:=["rule","room","guest"]
def ES:List 1.4:=[("guests_with",.fn 2 cG),("next_in",.fn 2 lQ),("can_go",.fn 3 il)]
def lR:=Gw N_coming (Lg (OF N_coming lE ES []) (SH lE)) 2
def a4N:aU N_coming (N_coming.take 2) (Xt lE):=by ac_rfl
def a4O(T:Txt w K mg):Fn P w K mg base 6 "coming" 2 lR:=
 bv (gs:=ES) T.qo a4N 1.9 #[(jM T).up,(a4M T).up,(sA T).up,trivial]
def N_with_word:List Str:=["room","guest","word","within","waits"]
def RJ:List 1.4:=[]
def bQ:=Gw N_with_word (Lg (OF N_with_word gI RJ []) (SH gI)) 3
def a4P:aU N_with_word (N_with_word.take 3) (Xt gI):=by ac_rfl
def ge(T:Txt w K mg):Fn P w K mg base 1 "with_word" 3 bQ:=
 bv (gs:=RJ) T.qp a4P 1.9 trivial
def N_let_in:List Str:=["rule","room","guest","within","waits","place","ahead"]
def ER:List 1.4:=[("with_word",.fn 3 bQ),("tuple",.blt),("WORD_WITHIN",.tab SZ)]
def rJ:=Gw N_let_in (Lg (OF N_let_in lD ER []) (SH lD)) 3
def a4Q:aU N_let_in (N_let_in.take 3) (Xt lD):=by ac_rfl
def a4R(T:Txt w K mg):Fn P w K mg base 2 "let_in" 3 rJ:=
 bv (gs:=ER) T.qq a4Q 1.9 #[(ge T).up,T.z0,T.z7,trivial]
def N_brought_by:List Str:=["rule","room","event","word","guest"]
def TD:List 1.4:=[("let_in",.fn 3 rJ),("with_word",.fn 3 bQ)]
def im:=Gw N_brought_by (Lg (OF N_brought_by fW TD []) (SH fW)) 3
def xS:aU N_brought_by (N_brought_by.take 3) (Xt fW):=by ac_rfl
def ya(T:Txt w K mg):Fn P w K mg base 3 "brought_by" 3 im:=
 bv (gs:=TD) T.qr xS 1.9 #[(a4R T).up,(ge T).up,trivial]
def N_settled:List Str:=["rule","room","events","event"]
def TH:List 1.4:=[("coming",.fn 2 lR),("brought_by",.fn 3 im),("tuple",.blt)]
def du:=Gw N_settled (Lg (OF N_settled jE TH [76]) (SH jE)) 2
def a4S:aU N_settled (N_settled.take 2) (Xt jE):=by ac_rfl
def qc(T:Txt w K mg):Fn P w K mg base 7 "settled" 2 du:=
 bv (gs:=TH) T.qs a4S 1.9 #[(a4O T).up,(ya T).up,T.z0,trivial]
def N_without_wait:List Str:=["room","guest","within","waits"]
def Fz:List 1.4:=[("tuple",.blt)]
def cR:=Gw N_without_wait (Lg (OF N_without_wait eI Fz []) (SH eI)) 2
def uy:aU N_without_wait (N_without_wait.take 2) (Xt eI):=by ac_rfl
def mT(T:Txt w K mg):Fn P w K mg base 1 "without_wait" 2 cR:=
 bv (gs:=Fz) T.qt uy 1.9 #[T.z0,trivial]
def N_bring_ask:List Str:=["rule","room","deed","want","guest","left","within","waits","entry","events"]
def XV:List 1.4:=[("settled",.fn 2 du),("waiting",.fn 2 cD),("without_wait",.fn 2 cR)]
def fN:=Gw N_bring_ask (Lg (OF N_bring_ask gM XV []) (SH gM)) 3
def a4T:aU N_bring_ask (N_bring_ask.take 3) (Xt gM):=by ac_rfl
def qK(T:Txt w K mg):Fn P w K mg base 8 "bring_ask" 3 fN:=
 bv (gs:=XV) T.qu a4T 1.9 #[(qc T).up,(jL T).up,(mT T).up,trivial]
def N_bring_up:List Str:=["rule","room","deed","guest","events"]
def Br:List 1.4:=[("settled",.fn 2 du),("guests_with",.fn 2 cG),("with_word",.fn 3 bQ),("waiting",.fn 2 cD)]
def iO:=Gw N_bring_up (Lg (OF N_bring_up iH Br []) (SH iH)) 3
def a4U:aU N_bring_up (N_bring_up.take 3) (Xt iH):=by ac_rfl
def a4V(T:Txt w K mg):Fn P w K mg base 8 "bring_up" 3 iO:=
 bv (gs:=Br) T.qv a4U 1.9 #[(qc T).up,(jM T).up,(ge T).up,(jL T).up,trivial]
def N_settled_behind:List Str:=["rule","room","first","events"]
def Bs:List 1.4:=[("settled",.fn 2 du)]
def bF:=Gw N_settled_behind (Lg (OF N_settled_behind dL Bs []) (SH dL)) 3
def qG:aU N_settled_behind (N_settled_behind.take 3) (Xt dL):=by ac_rfl
def fC(T:Txt w K mg):Fn P w K mg base 8 "settled_behind" 3 bF:=
 bv (gs:=Bs) T.qw qG 1.9 #[(qc T).up,trivial]
def N_turned:List Str:=["rule","room","guest","within","waits"]
def EQ:List 1.4:=[("tuple",.blt)]
def ik:=Gw N_turned (Lg (OF N_turned lC EQ []) (SH lC)) 3
def a4W:aU N_turned (N_turned.take 3) (Xt lC):=by ac_rfl
def yW(T:Txt w K mg):Fn P w K mg base 1 "turned" 3 ik:=
 bv (gs:=EQ) T.qx a4W 1.9 #[T.z0,trivial]
def N_bring_down:List Str:=["rule","room","deed","guest"]
def Ej:List 1.4:=[("settled_behind",.fn 3 bF),("with_word",.fn 3 bQ),("turned",.fn 3 ik)]
def gl:=Gw N_bring_down (Lg (OF N_bring_down fZ Ej []) (SH fZ)) 3
def xV:aU N_bring_down (N_bring_down.take 3) (Xt fZ):=by ac_rfl
def yd(T:Txt w K mg):Fn P w K mg base 9 "bring_down" 3 gl:=
 bv (gs:=Ej) T.qy xV 1.9 #[(fC T).up,(ge T).up,(yW T).up,trivial]
def N_bring_leave:List Str:=["rule","room","deed","guest"]
def Jt:List 1.4:=[("settled_behind",.fn 3 bF),("with_word",.fn 3 bQ),("turned",.fn 3 ik)]
def ft:=Gw N_bring_leave (Lg (OF N_bring_leave fj Jt []) (SH fj)) 3
def vy:aU N_bring_leave (N_bring_leave.take 3) (Xt fj):=by ac_rfl
def vM(T:Txt w K mg):Fn P w K mg base 9 "bring_leave" 3 ft:=
 bv (gs:=Jt) T.qz vy 1.9 #[(fC T).up,(ge T).up,(yW T).up,trivial]
def N_bring_stop:List Str:=["rule","room","deed","guest","calmer"]
def Pb:List 1.4:=[("settled_behind",.fn 3 bF),("waiting",.fn 2 cD),("with_word",.fn 3 bQ),("without_wait",.fn 2 cR)]
def gk:=Gw N_bring_stop (Lg (OF N_bring_stop fY Pb []) (SH fY)) 3
def xU:aU N_bring_stop (N_bring_stop.take 3) (Xt fY):=by ac_rfl
def yc(T:Txt w K mg):Fn P w K mg base 9 "bring_stop" 3 gk:=
 bv (gs:=Pb) T.qA xU 1.9 #[(fC T).up,(jL T).up,(ge T).up,(mT T).up,trivial]
def N_one_less:List Str:=["left"]
def Ei:List 1.4:=[]
def iL:=Gw N_one_less (Lg (OF N_one_less iE Ei []) (SH iE)) 1
def a4X:aU N_one_less (N_one_less.take 1) (Xt iE):=by ac_rfl
def a4Y(T:Txt w K mg):Fn P w K mg base 1 "one_less" 1 iL:=
 bv (gs:=Ei) T.qB a4X 1.9 trivial
def N_bring_tick:List Str:=["rule","room","deed","within","waits","shorter","ended","kept"]
def Pg:List 1.4:=[("tuple",.blt),("settled_behind",.fn 3 bF),("one_less",.fn 1 iL)]
def gj:=Gw N_bring_tick (Lg (OF N_bring_tick fX Pg []) (SH fX)) 3
def xT:aU N_bring_tick (N_bring_tick.take 3) (Xt fX):=by ac_rfl
def yb(T:Txt w K mg):Fn P w K mg base 9 "bring_tick" 3 gj:=
 bv (gs:=Pg) T.qC xT 1.9 #[T.z0,(fC T).up,(a4Y T).up,trivial]
def RH:List (bK×Nat×(List D->aa->Option (D×aa))):=[(.inr "read",3,fN),(.inr "write",3,fN),(.inr "up",3,iO),(.inr "down",3,gl),(.inr "leave",3,ft),(.inr "stop",3,gk),(.inr "tick",3,gj)]
def N_done:List Str:=["rule","room","deed","bring"]
def PV:List 1.4:=[("BRINGS",.ftab RH)]
def qp:=Gw N_done (Lg (OF N_done sr PV []) (SH sr)) 3
def a4Z:aU N_done (N_done.take 3) (Xt sr):=by ac_rfl
def a50(T:Txt w K mg):Fn P w K mg base 10 "done" 3 qp:=
 bv (gs:=PV) T.qD a4Z 1.9 #[rE T.z2 #[rfl,(qK T).up,rfl,(qK T).up,rfl,(a4V T).up,rfl,(yd T).up,rfl,(vM T).up,rfl,(yc T).up,rfl,(yb T).up,trivial],trivial]
def N_is_tuple_of:List Str:=["thing","many"]
def Bu:List 1.4:=[("isinstance",.blt),("tuple",.blt),("len",.blt)]
def dJ:=Gw N_is_tuple_of (Lg (OF N_is_tuple_of fg Bu []) (SH fg)) 2
def vv:aU N_is_tuple_of (N_is_tuple_of.take 2) (Xt fg):=by ac_rfl
def vL(T:Txt w K mg):Fn P w K mg base 1 "is_tuple_of" 2 dJ:=
 bv (gs:=Bu) T.qE vv 1.9 #[T.qT,T.z0,T.qU,trivial]
def N_is_word:List Str:=["thing","words"]
def Ew:List 1.4:=[("isinstance",.blt),("str",.blt)]
def hJ:=Gw N_is_word (Lg (OF N_is_word jG Ew []) (SH jG)) 2
def a51:aU N_is_word (N_is_word.take 2) (Xt jG):=by ac_rfl
def a52(T:Txt w K mg):Fn P w K mg base 1 "is_word" 2 hJ:=
 bv (gs:=Ew) T.qF a51 1.9 #[T.qT,T.qZ,trivial]
def N_is_whole:List Str:=["thing"]
def Jj:List 1.4:=[("isinstance",.blt),("int",.blt),("bool",.blt)]
def jW:=Gw N_is_whole (Lg (OF N_is_whole iF Jj []) (SH iF)) 1
def a53:aU N_is_whole (N_is_whole.take 1) (Xt iF):=by ac_rfl
def a54(T:Txt w K mg):Fn P w K mg base 1 "is_whole" 1 jW:=
 bv (gs:=Jj) T.qG a53 1.9 #[T.qT,T.qS,T.qQ,trivial]
def N_is_between:List Str:=["thing","low","high"]
def Jn:List 1.4:=[("is_whole",.fn 1 jW)]
def dZ:=Gw N_is_between (Lg (OF N_is_between fV Jn []) (SH fV)) 3
def xR:aU N_is_between (N_is_between.take 3) (Xt fV):=by ac_rfl
def xZ(T:Txt w K mg):Fn P w K mg base 2 "is_between" 3 dZ:=
 bv (gs:=Jn) T.qH xR 1.9 #[(a54 T).up,trivial]
def N_is_deed:List Str:=["n","thing","want","guest","left"]
def El:List 1.4:=[("is_tuple_of",.fn 2 dJ),("is_word",.fn 2 hJ),("WANTS",.con XF),("is_between",.fn 3 dZ),("GUEST_WORDS",.con Td),("GREATEST_LEFT",.con TF)]
def iN:=Gw N_is_deed (Lg (OF N_is_deed jH El []) (SH jH)) 2
def a55:aU N_is_deed (N_is_deed.take 2) (Xt jH):=by ac_rfl
def a56(T:Txt w K mg):Fn P w K mg base 3 "is_deed" 2 iN:=
 bv (gs:=El) T.qI a55 1.9 #[(vL T).up,(a52 T).up,T.z6,(xZ T).up,T.z5,T.z4,trivial]
def N_can_do:List Str:=["room","deed","word","guest","within"]
def EU:List 1.4:=[("WRITING_WORDS",.con UV),("waiting",.fn 2 cD)]
def jX:=Gw N_can_do (Lg (OF N_can_do lH EU []) (SH lH)) 2
def a57:aU N_can_do (N_can_do.take 2) (Xt lH):=by ac_rfl
def a58(T:Txt w K mg):Fn P w K mg base 3 "can_do" 2 jX:=
 bv (gs:=EU) T.qJ a57 1.9 #[T.z8,(jL T).up,trivial]
def N_walked:List Str:=["rule","n","row","room","steps","place","deed","behind","events"]
def EN:List 1.4:=[("empty",.fn 1 iW),("enumerate",.blt),("done",.fn 3 qp),("is_deed",.fn 2 iN),("can_do",.fn 2 jX)]
def lP:=Gw N_walked (Lg (OF N_walked lA EN [191]) (SH lA)) 3
def a59:aU N_walked (N_walked.take 3) (Xt lA):=by ac_rfl
def a5a(T:Txt w K mg):Fn P w K mg base 11 "walked" 3 lP:=
 bv (gs:=EN) T.qK a59 1.9 #[(a4E T).up,T.qR,(a50 T).up,(a56 T).up,(a58 T).up,trivial]
def N_ran:List Str:=["rule","n","row","steps","room"]
def Wp:List 1.4:=[("walked",.fn 3 lP),("empty",.fn 1 iW),("tuple",.blt)]
def zH:=Gw N_ran (Lg (OF N_ran yP Wp [100188]) (SH yP)) 3
def a5b:aU N_ran (N_ran.take 3) (Xt yP):=by ac_rfl
def a5c(T:Txt w K mg):Fn P w K mg base 12 "ran" 3 zH:=
 bv (gs:=Wp) T.qL a5b 1.9 #[(a5a T).up,(a4E T).up,T.z0,trivial]
def N_wait_told:List Str:=["guest","want","later","others","word","who"]
def Pa:List 1.4:=[]
def gZ:=Gw N_wait_told (Lg (OF N_wait_told gJ Pa []) (SH gJ)) 3
def a5d:aU N_wait_told (N_wait_told.take 3) (Xt gJ):=by ac_rfl
def a5e(T:Txt w K mg):Fn P w K mg base 1 "wait_told" 3 gZ:=
 bv (gs:=Pa) T.qM a5d 1.9 trivial
def N_waited:List Str:=["rule","n","row","events","begun","deed","brought"]
def EO:List 1.4:=[("zip",.blt),("tuple",.blt),("ran",.fn 3 zH),("WANTS",.con XF),("wait_told",.fn 3 gZ),("len",.blt)]
def oh:=Gw N_waited (Lg (OF N_waited lB EO [200,201,100206]) (SH lB)) 3
def a5f:aU N_waited (N_waited.take 3) (Xt lB):=by ac_rfl
def a5g(T:Txt w K mg):Fn P w K mg base 13 "waited" 3 oh:=
 bv (gs:=EO) T.qN a5f 1.9 #[T.z1,T.z0,(a5c T).up,T.z6,(a5e T).up,T.qU,trivial]
def FO:List Str:=["_law_script","_law_k","_law_left_here","_law_rule_here","_law_n","_law_row","_law_told","_law_due","_law_found","_law_guest","_law_want","_law_others"]
def Wq:List 1.4:=[("range",.blt),("max",.blt),("_law_left",.fn 2 jh),("_law_rule",.fn 1 hU),("_law_long_row",.fn 4 eY),("told_most",.fn 2 jf),("_law_waits",.fn 3 io),("min",.blt),("_law_pick",.fn 2 cx),("list",.blt),("len",.blt),("waited",.fn 3 oh),("int",.blt)]
def Fh:=Gw FO (Lg (OF FO yQ Wq [974000]) (SH yQ)) 1
def a5h:aU FO ["_law_script"] (Xt yQ):=by ac_rfl
def a5i(T:Txt w K mg):GKs P w K mg base 13 Wq:=#[T.qY,T.qW,(a4p T).up,(a4s T).up,(sB T).up,(a4C T).up,(ye T).up,T.qX,(jx T).up,T.qV,T.qU,(a5g T).up,T.qS,trivial]
end
def qa9{l:W.OpenLaw}{K:Ym}(X:K.In h)(G:h.Ns Tx mg)(hfa:mg "law" = Y (.ref fa))(T:Txt w K mg) :
  ∃ fd:FuncData,(∀ (s:ce) (v:ab),BindsTo s fd #[[v],[]] [("_law_script",v)])/\∀ base:NY,K.In base->base.Ns Tx mg->FnOk l.prog w K mg base Ke 14 fa fd ["_law_script"] (NM K 1 Fh):=
 a0O T.qO hfa a5h (λz z z z z z z=>rfl) λbase=>a5i T
def walk{l:W.OpenLaw}{YP:tx->NY->Prop}{d:DefRec}{K:Params->Ym}(hn:l.most=Y 63)(hdf:d.params.defaults=[])(hnm:d.name = "law")
  (hY:∀ (w:tx) (h:NY),YP w h->(K w.params).In h) (hlaw:∀ ns:List Int,ns.length<=63->∃ S',Fh [.rol 2.0] []=Y (.bl true,S'))
  (F:∀ (w:tx) (mg:Str->Option ab) (h:NY),(K w.params).In h->h.Ns Tx mg->Txt w 3.18 mg) :
  W.WalkO q loose XP YP l.row.toRowW d [] (λf vs=>PySem.call f vs):=
 L2.Se (n:=63) (k:=14) (x:="_law_script") (CX:=λu=>Ke) (sp:=λw=>NM 3.18 1 Fh) hn 0.1 hdf #[rfl,by decide,by decide] hY
  (λw mg fa h KX G hmg=>qa9 KX G (hnm ▸ hmg) (F w mg h KX G)) (λu u a ns hl u hS=>nI hlaw hl hS) λu u u u u z=>z
end K27
end
section
set_option maxHeartbeats 4000000
namespace K27
open L2 MI
open M hiding jU iA mC af az aC cU eD cM gE eL Dj AA SQ lZ am ac aW eV dD xN bA bV bz bB iz ax ba aF bp dg bU ai aK ah aQ eX aN cC hZ ci dT cf dH eM jb kD gq dF dP dU el eh dE cT gY lO
def Eh:MS:=
 Mi
def uF:fO=Gw N__law_cell_at Eh 2:=jk rfl
def Ha:MS:=
 Hl
def a5j:jY=Gw N__law_far Ha 0:=jk rfl
def Ed:MS:=
 Mj fO jY
def a5k:jh=Gw N__law_left Ed 2:=jk rfl
def Eb:MS:=
 qX
def a5l:cx=Gw N__law_pick Eb 2:=jk rfl
def Ea:MS:=
 BB cx
def a5m:hU=Gw N__law_rule Ea 1:=jk rfl
def Ef:MS:=
 qY cx
def a5n:ji=Gw N__law_deed Ef 2:=jk rfl
def GZ:MS:=
 Hk
def a5o:eW=Gw N__law_put GZ 3:=jk rfl
def Jo:MS:=
 Pc
def wc:gz=Gw N__law_fronts Jo 2:=jk rfl
def Ec:MS:=
 BC
def a5p:jg=Gw N__law_lets Ec 3:=jk rfl
def Jk:MS:=
 qh gz jg eW
def uE:dh=Gw N__law_settled Jk 2:=jk rfl
def Hb:MS:=
 BD
def a5q:jZ=Gw N__law_can Hb 2:=jk rfl
def Bq:MS:=
 Tz dh
def ym:ip=Gw N__law_asked Bq 3:=jk rfl
def Jl:MS:=
 IY
def vZ:gy=Gw N__law_marked Jl 3:=jk rfl
def Ee:MS:=
 XW jZ ip dh gy eW
def a5r:di=Gw N__law_done Ee 3:=jk rfl
def Er:MS:=
 aF (bU (aC (az RX '1' 3e0)) (bp (aW (ac 0e0 2.50))) ba) (aF (aN '0' (aQ 4 (ah 'b' 2.64))) (aF (aN (az pB '1' 2e0) 'f') (aF (bU (aC (az On '2' (!"readers"))) (bp (aW (ac '6' 2.83))) ba) (aF (bU (aC (az On '2' (!"writers"))) (bp (aW (ac 3.1 8.4))) ba) (aF (bU (aC (az On '2' (!"turns"))) (bp (aW (ac (lZ (aC (az On '3' 0e0)) '6' (az OE '6' 1e0)) (ac (az Fo (az Tt '6' (az OE '1' 1e0)) 2e0) am)))) ba) (aF (bU (aC (az On '2' (!"passes"))) (bp (aW (ac '6' (ac (az OE '6' '4') am)))) ba) (bp (aW (ac '6' 8.4)))))))))
def a5s:jf=Gw N_told_most Er 2:=jk rfl
def Jh:MS:=
 bp (aW (ac (az Tt (aW (ac (!"out") am)) '0') 1.70))
def a5t:iW=Gw N_empty Jh 1:=jk rfl
def Jp:MS:=
 Gx
def vX:cG=Gw N_guests_with Jp 2:=jk rfl
def GY:MS:=
 Wv
def a5u:mF=Gw N_foremost GY 2:=jk rfl
def Ls:MS:=
 Wn cG
def vV:cD=Gw N_waiting Ls 2:=jk rfl
def OY:MS:=
 Ir cD
def yZ:il=Gw N_can_go OY 3:=jk rfl
def DY:MS:=
 UT il
def a5v:kS=Gw N_next_past DY 2:=jk rfl
def Lv:MS:=
 So kS mF il
def a5w:lQ=Gw N_next_in Lv 2:=jk rfl
def OX:MS:=
 ZG cG il lQ
def a5x:lR=Gw N_coming OX 2:=jk rfl
def DR:MS:=
 UO
def a5y:bQ=Gw N_with_word DR 3:=jk rfl
def OV:MS:=
 CP bQ
def a5z:rJ=Gw N_let_in OV 3:=jk rfl
def Bp:MS:=
 Yr bQ rJ
def yh:im=Gw N_brought_by Bp 3:=jk rfl
def Lu:MS:=
 Sf im lR
def a5A:du=Gw N_settled Lu 2:=jk rfl
def EY:MS:=
 AC
def uD:cR=Gw N_without_wait EY 2:=jk rfl
def EX:MS:=
 Tr du cD cR
def a5B:fN=Gw N_bring_ask EX 3:=jk rfl
def EW:MS:=
 Lj du cD cG bQ
def a5C:iO=Gw N_bring_up EW 3:=jk rfl
def Jq:MS:=
 AF du
def qO:bF=Gw N_settled_behind Jq 3:=jk rfl
def DX:MS:=
 AD
def a5D:ik=Gw N_turned DX 3:=jk rfl
noncomputable def qS:MS:=
 DC bF bQ ik Wd.reads.s "down"
def yk:gl=Gw N_bring_down qS 3:=jk rfl
def Bv:MS:=
 DC bF bQ ik Wd.out.s "out"
def vY:ft=Gw N_bring_leave Bv 3:=jk rfl
noncomputable def qR:MS:=
 HZ bF bQ cR cD
def yj:gk=Gw N_bring_stop qR 3:=jk rfl
def Eg:MS:=
 Mg
def a5E:iL=Gw N_one_less Eg 1:=jk rfl
noncomputable def qQ:MS:=
 qI bF iL
def yi:gj=Gw N_bring_tick qQ 3:=jk rfl
def OW:MS:=
 Ks (A1g fN iO gl ft gk gj)
def a5F:qp=Gw N_done OW 3:=jk rfl
def Ek:MS:=
 bp (Dj (iz "tuple" '0') (az On 1.00 '1'))
def vW:dJ=Gw N_is_tuple_of Ek 2:=jk rfl
def Ep:MS:=
 bp (Dj (iz "str" '0') (az SY '0' '1'))
def a5G:hJ=Gw N_is_word Ep 2:=jk rfl
def Js:MS:=
 bp (Dj (iz "int" '0') (SQ (iz "bool" '0')))
def a5H:jW=Gw N_is_whole Js 1:=jk rfl
noncomputable def qP:MS:=
 bp (Dj (ax 1 jW (ac '0' am)) (cU UF UF '1' '0' '2'))
def yg:dZ=Gw N_is_between qP 3:=jk rfl
def Ji:MS:=
 aF (bU (eD (ax 2 dJ (ac '1' (ac 1e0 am)))) (bp (ax 2 hJ (ac 5.4 (ac (aW (ac (!"tick") am)) am)))) ba) (aF (bU (eD (ax 2 dJ (ac '1' (ac 2e0 am)))) (bp (Dj (ax 2 hJ (ac 5.4 (ac (mC Td) am))) (ax 3 dZ (ac 5.3 9.5)))) ba) (aF (bU (eL (eD (ax 2 dJ (ac '1' 2.04)))) 2.72 ba) (aF (aN '1' (aQ 3 3.10)) (bp (Dj (ax 2 hJ (ac '2' (ac (mC XF) am))) (Dj (ax 3 dZ (ac '3' 9.5)) (AA (az HH '4' 3.1) (ax 3 dZ (ac '4' (ac 0e0 (ac (mC TF) am)))))))))))
def a5I:iN=Gw N_is_deed Ji 2:=jk rfl
def DZ:MS:=
 Ys cD
def a5J:jX=Gw N_can_do DZ 2:=jk rfl
def DU:MS:=
 aF (aN (ax 1 iW 5.5) 'c') (aF 1.24 (aF (hZ (eM 3.8) 6.7 (aF (bU (gE (eL (eD (ax 2 iN (ac '1' 8.4)))) (eL (eD (ax 2 jX (ac '3' 8.4))))) Iy ba) (aF (aN (ax 3 qp 2.75) (aQ 2 1.51)) (aF (dg (dH OG '4' (ac (aW (ac '3' (ac '7' (ac '8' am)))) am))) (aN '7' 'c'))))) (bp '4')))
def a5K:lP=Gw N_walked DU 3:=jk rfl
def VY:MS:=
 aF (aN (ax 3 lP 3.0) 'c') (aF (aN (lZ (eD '3') (az GD (az GD '3' (xN LP 1e0)) 1e0) (ax 1 iW 5.5)) 'd') (bp (aW (ac '4' (ac (bB 2.2 (ac (cT '3' (aQ 3 (ah '`' 4.3)) cf '2' [J,J,J]) am)) am)))))
def a5L:zH=Gw N_ran VY 3:=jk rfl
def Et:MS:=
 aF (aN 0e0 'c') (aF (dU '2' 3.13 (aF (bU (cM (aC (az On '5' '0')) (aC (az SY '4' (aW (ac (!"in") (ac (!"ends") am)))))) (bp (aW (ac '0' (ac '1' (ac '3' 5.8))))) ba) (bU (aC (az On '4' (!"in"))) (aN (az LV '3' 1e0) 'c') ba))) (bp (aW (ac '0' (ac '1' (ac '3' 2.83))))))
def a5M:gZ=Gw N_wait_told Et 3:=jk rfl
def DV:MS:=
 aF (aN (dD am) 'c') (aF 1.24 (aF (hZ (kD (ac '2' (ac (az GD (ax 3 zH 3.0) 1e0) am))) 6.7 (aF (dg (dH Tb '3' 8.4)) (bU (cM (aC (az SY 2.26 (mC XF))) (aC (az SY (aW (ac (!"waits") (ac 2.25 am))) '6'))) (dg (dH OG '4' (ac (aW (ac 2.25 (ac 2.26 (ac (bB (Gz Op) 4.0) am)))) am))) ba))) (bp (bB 2.2 (ac (cT '4' (aQ 3 (ah '`' 4.3)) cf (ax 3 gZ 4.2) [J,J,J,Y 3]) am)))))
def a5N:oh=Gw N_waited DV 3:=jk rfl
end K27
end
section
namespace K27
open MI L2
open M hiding jU iA mC af az aC cU eD cM gE eL Dj AA SQ lZ am ac aW eV dD xN bA bV bz bB iz ax ba aF bp dg bU ai aK ah aQ eX aN cC hZ ci dT cf dH eM jb kD gq dF dP dU el eh dE cT gY lO
def Eo(r:Rl)(ws:List Wd)(P:List En)(x:En)(Q:List En):Prop:=match r.w with
 | .rows=>P=[]
 | .passes=>(∀ y∈P,y.m+1<=r.b)/\∀ y∈P,IT r ws y.wr=false
 | .turns=>(x.m=1/\∀ y∈P,y.m≠1)\/((∀ y∈P++x::Q,y.m≠1)/\((x.wr=true/\∀ y∈P,y.wr=false)\/(P=[]/\∀ y∈P++x::Q,y.wr=false)))
 | _=>True
inductive StIs(r:Rl)(R:Rm):Prop
 | no (h:Xe r R=(R,[]))
 | up (g:Nat) (hg:R.1[g]?=Y .rising) (h:Xe r R=((R.1.set g .raised,R.2),[#["steps",g]]))
 | go (P:List En) (x:En) (Q:List En) (e:R.2=P++x::Q) (l:IT r R.1 x.wr=true) (f:Eo r R.1 P x Q) (h:Xe r R=((R.1.set x.g (if x.wr then .writes else .reads),P.map 1.06++Q),[#["in",x.g]]))
section
variable{r:Rl}{R:Rm}
def a5O{l:List Nat}{i:Nat}(h:i∈l.take 1):l.head?=Y i:=by
 cases l with
 | nil=>cases h
 | cons a l=>simp at h;subst h;rfl
def uW(h:Jf p es=[]):∀ y∈es,p y=false:=by
 have e:=ij (p:=p) (es:=es);rw[h] at e;exact acN.mp e.symm
theorem BR{P Q:List En}{x:En}(hd:(Jf p es).head?=Y i)(hs:es=P++x::Q)(hP:P.length=i):p x=true/\∀ y∈P,p y=false:=by
 rw[ij] at hd;obtain⟨h1,h2,h3⟩:=aco.mp hd;subst hs hP;refine#[by simpa using h2,λy hy=>?_];obtain⟨j,hj,rfl⟩:=acd.mp hy;have:=h3 j hj;rw[List.getElem_append_left hj] at this;simpa using this
def front{i:Nat}{l:List Nat}{P Q:List En}{ws:List Wd}{x:En}(h:Sq r ws es=i::l)(hs:es=P++x::Q)(hP:P.length=i):Eo r ws P x Q:=by
 have hm:i∈Je r es:=(aaA.mp (show i∈Sq r ws es by rw[h];exact aab)).1;have hx:es[i]?=Y x:=by rw[hs,<- hP];simp
 unfold Eo;cases hw:r.w with
 | rows=>
  unfold Je at hm;rw[hw] at hm;have:=a5O hm;cases es with
  | nil=>cases hx
  | cons a b=>
   rw[aar,acv] at this;cases this;exact abi hP
 | passes=>
  have e:=a3j (r:=r) (ws:=ws) (es:=es) hw;rw[h] at e;obtain⟨h1,j,h2,h3,h4⟩:=List.find?_eq_some_iff_getElem.mp e.symm;rw[aeQ] at h3;subst h3;have tk:es.take j=P:=by rw[hs,<- hP];simp
  unfold Hw at h1;rw[aag,tk] at h1;have hb:=maxL_le.mp (aaD h1.2);have mk:∀ y∈P,y.m+1<=r.b:=λy hy=>hb.2 _ 1.92;refine#[mk,λy hy=>?_];obtain⟨k,hk,rfl⟩:=acd.mp hy;have hk':k<j:=by rw[<- hP];exact hk
  have:=h4 k hk';rw[aeQ] at this;have ek:es[k]?=Y P[k]:=by rw[hs,aap hk];exact aae hk
  unfold Hw at this;rw[ek] at this
  have mt:AM (0::(es.take k).map λe=>e.m+1)<=r.b:=maxL_le.mpr ⟨hb.1,λz hz=>by
   obtain⟨u,hu,rfl⟩:=aai.mp hz;refine mk u ?_;rw[<- tk]
   exact(List.take_sublist_take_left (adC hk')).mem hu⟩
  rw[aaj mt,ael] at this;simpa using this
 | turns=>
  unfold Je at hm;rw[hw] at hm;have hd:=a5O hm;unfold GB at hd;split at hd
  ·rename_i n1;have t0:∀ y∈P++x::Q,y.m≠1:=λy hy=>by rw[<- hs] at hy;simpa using uW n1 y hy
   refine .inr #[t0,?_];split at hd
   ·rename_i n2;have w0:∀ y∈P++x::Q,y.wr=false:=λy hy=>by rw[<- hs] at hy;simpa using uW n2 y hy
    refine .inr #[?_,w0];have:=(BR hd hs hP).2;cases P with
    | nil=>rfl
    | cons a b=>have h1:=this a aab;rw[w0 a 0.3] at h1;cases h1
   ·have:=BR hd hs hP;exact .inl #[this.1,this.2]
  ·have:=BR hd hs hP;exact .inl #[by simpa using this.1,λy hy=>by simpa using this.2 y hy]
 | _=>trivial
theorem IM:StIs r R:=by
 cases ha:Ag R.1 with
 | cons g l=>exact .up g (mP (by rw[ha];exact aab)) (by unfold Xe;rw[ha])
 | nil=>
  cases hs:Sq r R.1 R.2 with
  | nil=>exact .no (by unfold Xe;rw[ha,hs])
  | cons i l=>
   have hm:i∈Sq r R.1 R.2:=by rw[hs];exact aab
   obtain⟨z,hl⟩:=aaA.mp hm;cases he:R.2[i]? with
   | none=>rw[he] at hl;cases hl
   | some x=>
    rw[he] at hl;obtain⟨h1,h2⟩:=aaa.mp he;have e:R.2=R.2.take i++x::R.2.drop (i+1):=by rw[<- h2,aep,abV]
    refine .go _ x _ e hl (front hs e (by rw[abO];omega)) ?_;unfold Xe;rw[ha,hs];dsimp only;rw[he];rfl
end
def Es(l:List En):Nat:=l.countP λe=>e.wr
def EV(l:List En):Nat:=l.countP λe=>!e.wr
def Ey(l:List En):Nat:=l.countP λe=>decide (e.m=1)
def sD{a b:List En}:Es (a++b)=Es a+Es b:=adr
theorem Ba{a b:List En}:EV (a++b)=EV a+EV b:=adr
def sE{a b:List En}:Ey (a++b)=Ey a+Ey b:=adr
theorem AY{e:En}{l:List En}:Es (e::l)=Es l+(if e.wr=true then 1 else 0):=acB
theorem AZ{e:En}{l:List En}:EV (e::l)=EV l+(if e.wr=true then 0 else 1):=by unfold EV;rw[acB];cases e.wr<;>rfl
def qM{e:En}{l:List En}:Ey (e::l)=Ey l+(if e.m=1 then 1 else 0):=by unfold Ey;rw[acB];by_cases h:e.m=1<;>simp[h]
def nWR(l:List En):Es l+EV l=l.length:=by
 induction l with
 | nil=>rfl
 | cons e l ih=>rw[AY,AZ,aar,<- ih];cases e.wr<;>simp<;>omega
def Hi(n:Nat):Nat->Nat
 | 0=>0
 | w+1=>Hi n w+(n - (w+1))
theorem Qj{n w:Nat}:∀ k,w+k+2<=n->Hi n w+k<=Hi n (w+k)
 | 0=>λz=>aas _
 | k+1=>λh=>by
  have:=Qj (n:=n) (w:=w) k 0.0;show _<=Hi n (w+k)+(n - (w+k+1));omega
def a5P{n w w':Nat}(h:w'<=w)(hw:w+2<=n):Hi n w'+(w - w')<=Hi n w:=by
 have:=Qj (n:=n) (w:=w') (w - w') 0.0
 rwa[Nat.add_sub_cancel' h] at this
def Hc(r:Rl):Nat:=if r.a=0 then 0 else 1
def MidW(n c:Nat)(ws:List Wd)(A:List En)(e:En)(B:List En):Prop:=
 Es A+2<=n/\(Wd.writes∈ws->c+Hi n (Es A)+(n - 2 - Es A)<=Hi n (n - 2))/\(Wd.writes∉ws->c+Hi n (Es A)+Ey (A++e::B)<=Hi n (n - 2))
inductive MidR(r:Rl)(n c:Nat)(ws:List Wd)(A:List En)(e:En)(B:List En):Prop
 | m (h:e.m=1) (l:c+EV A+2<=n+Hc r)
 | w (h:e.m≠1) (b:∀ y∈B,y.m≠1) (hw:Wd.writes∈ws) (l:c+EV A+2<=n+Hc r)
 | u (h:e.m≠1) (b:∀ y∈B,y.m≠1) (hw:Wd.writes∉ws) (l:c+EV A+3<=n+Hc r)
 | v (h:e.m≠1) (b:∀ y∈B,y.m≠1) (hw:Wd.writes∉ws) (a:r.a=0) (l:c+EV A+2<=n) (no:∀ y∈A++B,y.wr=false) (k:c=0\/IT r ws false=true)
def Mid(r:Rl)(n c:Nat)(ws:List Wd)(A:List En)(e:En)(B:List En):Prop:=match r.w with
 | .rows=>c+A.length+2<=n
 | .passes=>0<=e.m/\e.m<=r.b/\(e.wr=true->((c+A.length+2:Nat):Int)<=n+e.m)/\(e.wr=false->c+A.length+2<=n)
 | .turns=>(∀ y∈A++e::B,y.m=1->y.wr=false)/\(e.wr=true->MidW n c ws A e B)/\(e.wr=false->MidR r n c ws A e B)
 | _=>True
def He(r:Rl)(n:Nat)(wr:Bool):Nat:=match r.w with
 | .rows=>n - 2
 | .passes=>if wr then n - 2+r.b.toNat else n - 2
 | _=>if wr then Hi n (n - 2) else n - 2+Hc r
def Ez(w:Rw):Prop:=w=.rows\/w=.turns\/w=.passes
section
variable{r:Rl}{n c:Nat}{ws:List Wd}{A B P Q:List En}{e x:En}
def Mid.cap(h:Mid r n c ws A e B)(hw:Ez r.w)(h3:3<=n):c<=He r n e.wr:=by
 unfold Mid at h;unfold He;rcases hw with hw | hw | hw<;>rw[hw] at h ⊢<;>dsimp only at h ⊢
 ·omega
 ·cases q:e.wr with
  | true=>
   have:=h.2.1 q;show c<=Hi n (n - 2);by_cases z:Wd.writes∈ws
   ·have:=this.2.1 z;omega
   ·have:=this.2.2 z;omega
  | false=>
   have:=h.2.2 q;show c<=n - 2+Hc r;cases this<;>omega
 ·cases q:e.wr with
  | true=>have:=h.2.2.1 q;simp;omega
  | false=>have:=h.2.2.2 q;simp;omega
def wD(h:IT r ws b=true):Wd.writes∉ws:=λhm=>by
 have:=Cp ws;have h1:1<=ws.count Wd.writes:=acL.mpr hm;unfold IT at h;rw[aam 0.0] at h;cases h
def a5Q{g:Nat}(h:IT r ws false=true)(hg:ws[g]?=Y .out)(ha:r.a=0):IT r (ws.set g .reads) false=true:=by
 have c1:=rQ .reads .reads hg;have c2:=rQ .reads .rising hg;have c3:=rQ .reads .out hg;simp at c1 c2 c3;unfold IT at h ⊢;split at h
 ·cases h
 ·rename_i hn;rw[if_neg (by rw[abY];omega)];simp only[aaL,abE,aag,aaU] at h ⊢;exact#[by omega,by rw[ha];rfl]
def a5R(h:r.w≠.passes)(y:En):MI.bump r y=y:=by unfold MI.bump;rw[if_neg h,Int.add_zero]
def xD(h:r.w≠.passes)(l:List En):l.map 1.06=l:=by rw[show MI.bump r=id from funext (a5R h),List.map_id]
def pU{w:Wd}(hw:w≠.writes)(hn:Wd.writes∉ws):Wd.writes∉ws.set g w:=λh=>by
 rcases adZ h with z | z
 ·exact hn z
 ·exact hw z.symm
def a5S(h:A++e::B=P++x::Q):(P=A/\x=e/\Q=B)\/(∃ A2,A=P++x::A2/\Q=A2++e::B)\/∃ B1,P=A++e::B1/\B=B1++x::Q:=by
 rcases List.append_eq_append_iff.mp h with ⟨l,h1,h2⟩ | ⟨l,h1,h2⟩
 ·cases l with
  | nil=>rw[aaF] at h1;cases h2;exact .inl #[h1,rfl,rfl]
  | cons y l=>cases h2;exact .inr (.inr #[l,h1,rfl])
 ·cases l with
  | nil=>rw[aaF] at h1;cases h2;exact .inl #[h1.symm,rfl,rfl]
  | cons y l=>cases h2;exact .inr (.inl #[l,h1,rfl])
def Mid.ahead{A2:List En}(hf:Ez r.w)(h:Mid r n c ws (P++x::A2) e B)(f:Eo r ws P x (A2++e::B))(l:IT r ws x.wr=true)(hx:ws[x.g]?=Y .out) :
  Mid r n (c+1) (ws.set x.g (if x.wr then .writes else .reads)) (P.map 1.06++A2) e B:=by
 have hl:x.g<ws.length:=(aaa.mp hx).1;unfold Mid at h;unfold Mid;unfold Eo at f;rcases hf with hw | hw | hw
 ·rw[hw] at h ⊢;simp only[aal,aar,aaf] at h ⊢;omega
 ·have nb:=xD (r:=r) (by rw[hw];decide) P;rw[hw] at h f ⊢;dsimp only at h f ⊢;rw[nb];obtain⟨tg,hW,hR⟩:=h;have nw:=wD l;have sub:∀ y∈P++A2++e::B,y∈P++x::A2++e::B:=λy hy=>by simp only[aan,aav] at hy ⊢;rcases hy with (hy | hy) | hy | hy<;>simp[hy]
  refine#[λy hy=>tg y (sub y hy),λq=>?_,λq=>?_]
  ·obtain⟨h1,j,h3⟩:=hW q;have h3:=h3 nw;simp only[sD,AY,sE,qM] at h1 h3;rcases f with ⟨f1,f2⟩ | ⟨f1,⟨f2,f3⟩ | ⟨_,f3⟩⟩
   ·have xr:=tg x 0.3 f1;rw[xr] at h1 h3;simp only[aaL,abE,acK,aam f1] at h1 h3;refine#[by rw[sD];exact h1,λz=>absurd z (by rw[xr];exact pU 0.1 nw),λj=>?_];simp only[sD,sE,qM];omega
   ·rw[f2] at h1 h3;simp only[abT] at h1 h3;refine#[by rw[sD];omega,λj=>?_,λz=>absurd (by rw[f2];exact aax (aaw hl)) z];rw[sD];have e1:Hi n (Es P+(Es A2+1))=Hi n (Es P+Es A2)+(n - (Es P+Es A2+1)):=rfl;omega
   ·rw[f3 e 0.3] at q;cases q
  ·have goR:x.wr=false->c+EV (P++A2)+1=c+EV (P++x::A2)/\Wd.writes∉ws.set x.g (if x.wr=true then .writes else .reads):=λxr=>by
    rw[Ba,Ba,AZ,xr];exact#[by simp;omega,pU 0.1 nw]
   cases hR q with
   | m h k=>
    rcases f with ⟨f1,f2⟩ | ⟨f1,_⟩
    ·have:=goR (tg x 0.3 f1);exact .m h 0.0
    ·exact absurd h (f1 e 0.3)
   | w h b hw' k=>exact absurd hw' nw
   | u h b hw' k=>
    cases xr:x.wr with
    | false=>
     have:=goR xr;rw[xr] at this;exact .u h b this.2 0.0
    | true=>
     refine .w h b (aax (aaw hl)) ?_;rw[Ba,AZ,xr] at k;rw[Ba];simp at k;omega
   | v h b hw' a k no kk=>
    have xr:x.wr=false:=no x 0.3;have:=goR xr;rw[xr] at this l;rw[xr];exact .v h b this.2 a 0.0 (λy hy=>no y (by simp only[aan,aav] at hy ⊢;rcases hy with (hy | hy) | hy<;>simp[hy])) (.inr (a5Q l hx a))
 ·rw[hw] at h ⊢;dsimp only at h ⊢;obtain⟨h1,h2,h3,h4⟩:=h;simp only[aal,aar,aaf] at h3 h4 ⊢;exact#[h1,h2,λq=>by have:=h3 q;omega,λq=>by have:=h4 q;omega]
def Mid.behind{B1:List En}(hf:Ez r.w)(ha:0<=r.a)(h:Mid r n c ws A e (B1++x::Q))(f:Eo r ws (A++e::B1) x Q)(l:IT r ws x.wr=true)(hx:ws[x.g]?=Y .out) :
  Mid r n (c+1) (ws.set x.g (if x.wr then .writes else .reads)) (A.map 1.06) (MI.bump r e) (B1.map 1.06++Q):=by
 have hl:x.g<ws.length:=(aaa.mp hx).1;unfold Mid at h;unfold Mid;unfold Eo at f;rcases hf with hw | hw | hw
 ·rw[hw] at f;exact absurd f 0.3
 ·have nb:=xD (r:=r) (by rw[hw];decide);have nb1:=a5R (r:=r) (by rw[hw];decide);rw[hw] at h f ⊢;dsimp only at h f ⊢;rw[nb,nb,nb1];obtain⟨tg,hW,hR⟩:=h;have nw:=wD l;refine#[λy hy=>tg y (by simp only[aan,aav] at hy ⊢;rcases hy with hy | hy | hy | hy<;>simp[hy]),λq=>?_,λq=>?_]
  ·obtain⟨h1,j,h3⟩:=hW q;have h3:=h3 nw;simp only[sE,qM] at h3;rcases f with ⟨f1,f2⟩ | ⟨f1,⟨f2,f3⟩ | ⟨f2,_⟩⟩
   ·have xr:=tg x 0.3 f1;rw[aam f1] at h3;refine#[h1,λz=>absurd z (by rw[xr];exact pU 0.1 nw),λj=>?_];simp only[sE,qM];omega
   ·rw[f3 e 0.3] at q;cases q
   ·exact absurd f2 0.3
  ·cases hR q with
   | m h k=>
    rcases f with ⟨f1,f2⟩ | ⟨f1,_⟩
    ·exact absurd h (f2 e 0.3)
    ·exact absurd h (f1 e 0.3)
   | w h b hw' k=>exact absurd hw' nw
   | u h b hw' k=>
    rcases f with ⟨f1,f2⟩ | ⟨f1,⟨f2,f3⟩ | ⟨f2,_⟩⟩
    ·exact absurd f1 (b x 0.3)
    ·refine .w h (λy hy=>b y (by simp only[aan,aav] at hy ⊢;rcases hy with hy | hy<;>simp[hy])) ?_ 0.0;rw[f2];exact aax (aaw hl)
    ·exact absurd f2 0.3
   | v h b hw' a k no kk=>
    have xr:x.wr=false:=no x 0.3;rcases f with ⟨f1,f2⟩ | ⟨f1,⟨f2,f3⟩ | ⟨f2,_⟩⟩
    ·exact absurd f1 (b x 0.3)
    ·rw[xr] at f2;cases f2
    ·exact absurd f2 0.3
 ·rw[hw] at h f ⊢;dsimp only at h f ⊢;obtain⟨h1,h2,h3,h4⟩:=h;have bm:(MI.bump r e).m=e.m+1:=by unfold MI.bump;rw[aam hw]
  have f1:=f.1 e 0.3;refine#[by rw[bm];omega,by rw[bm];exact f1,λq=>?_,λq=>?_]
  ·have:=h3 q;rw[bm,aaf];omega
  ·have lr:=f.2 e 0.3;have q':e.wr=false:=q;rw[q'] at lr;cases xr:x.wr with
   | false=>rw[xr] at l;rw[lr] at l;cases l
   | true=>
    rw[xr] at l;unfold IT at l lr;split at l
    ·cases l
    ·rename_i hn;rw[if_neg hn] at lr;simp only[abT,aaU] at l;simp only[aaL,abE,aex,adk,aeg] at lr;rcases lr with lr | ⟨lr,lr2⟩<;>omega
end
section
variable{r:Rl}{n c:Nat}{ws ws':List Wd}{A B A' B':List En}{e:En}{R:Rm}
def a5T(h:Still r R)(hk:ROk R)(hb:0<=r.b):Sq r R.1 R.2=[]:=by
 have e:=a34 hk hb;rw[h.next.1] at e;cases hs:Sq r R.1 R.2 with
 | nil=>rfl
 | cons i l=>
  rw[hs,adU] at e;have hi:=og (aaA.mp (show i∈Sq r R.1 R.2 by rw[hs];exact aab)).1;rw[show PP R.2 (Y i)=Y (R.2[i].g) by unfold PP;simp[hi]] at e;cases e
def a5U{es:List En}(hf:Ez r.w)(hb:0<=r.b)(hn:es≠[]):∃ i,i∈Je r es:=by
 have h0:∃ a l,es=a::l:=by cases es with | nil=>exact absurd rfl hn | cons a l=>exact#[a,l,rfl]
 obtain⟨a,l,rfl⟩:=h0;unfold Je;rcases hf with hw | hw | hw<;>rw[hw]<;>dsimp only
 ·exact#[0,by rw[aar,acv];exact aab]
 ·have ne:GB (Jf (λe=>decide (e.m=1)) (a::l)) (GB (Jf (λe=>e.wr) (a::l)) (Jf (λe=>!e.wr) (a::l)))≠[]:=by
   unfold GB;split
   ·split
    ·rename_i h2;intro h3;have h2:=uW h2 a aab;have h3:=uW h3 a aab;rw[h2] at h3;cases h3
    ·assumption
   ·assumption
  generalize GB (Jf (λe=>decide (e.m=1)) (a::l)) (GB (Jf (λe=>e.wr) (a::l)) (Jf (λe=>!e.wr) (a::l)))=L at ne;cases L with
  | nil=>exact absurd rfl ne
  | cons i L=>exact#[i,by simp]
 ·exact#[0,aaA.mpr #[by simp,aaj (maxL_le.mpr #[hb,by simp])]]
def yK(h:Still r R)(hk:ROk R)(hf:Ez r.w)(hb:0<=r.b)(hn:R.2≠[]):∃ e∈R.2,IT r R.1 e.wr=false:=by
 obtain⟨i,hi⟩:=a5U hf hb hn;have hl:=og hi;refine#[R.2[i],abP hl,?_];cases q:IT r R.1 R.2[i].wr with
 | false=>rfl
 | true=>
  have:i∈Sq r R.1 R.2:=aaA.mpr #[hi,by rw[aae hl];exact q];rw[a5T h hk hb] at this;cases this
def a5V(h:Still r R)(hk:ROk R)(hf:Ez r.w)(hb:0<=r.b)(ha:0<=r.a)(hn:R.2≠[]):∃ (g:Nat) (w:Wd),R.1[g]?=Y w/\w≠Wd.out:=by
 obtain⟨e,u,hl⟩:=yK h hk hf hb hn;by_cases z:∃ w∈R.1,w≠Wd.out
 ·obtain⟨w,hw,hne⟩:=z;obtain⟨g,hg⟩:=abX.mp hw;exact#[g,w,hg,hne]
 ·exfalso;have al:R.1=ZB R.1.length .out:=List.eq_replicate_iff.mpr #[rfl,λw hw=>acO λq=>z #[w,hw,q]];have k1:R.1.count .out=R.1.length:=by rw[al];simp
  have ks:=Cp R.1;unfold IT at hl;rw[if_neg 0.0] at hl;split at hl
  ·have:=of_decide_eq_false hl;omega
  ·simp only[aex,adk,aeg] at hl;rcases hl with hl | ⟨h1,h2⟩<;>omega
def a5W(hk:ROk R){g:Nat}(hg:R.1[g]?=Y w)(hw:w≠.out):R.2.length+1<=R.1.length:=by
 have hl:=(aaa.mp hg).1;have:=sC R.1.length (g::R.2.map (·.g)) (aaV.mpr #[λz=>?_,hk.nd]) λx hx=>?_
 ·simpa using this
 ·obtain⟨e,he,q⟩:=aai.mp z;have:=hk.out e he;rw[q,hg] at this;exact hw 3.12
 ·rcases aav.mp hx with rfl | hx
  ·exact hl
  ·obtain⟨e,he,rfl⟩:=aai.mp hx;exact(aaa.mp (hk.out e he)).1
def a5X(hk:ROk R){g g':Nat}(hg:R.1[g]?=Y w)(hw:w≠.out)(hg':R.1[g']?=Y .out)(hs:Cg R.2 g'=false):R.2.length+2<=R.1.length:=by
 have hl:=(aaa.mp hg).1;have hl':=(aaa.mp hg').1;have:=sC R.1.length (g::g'::R.2.map (·.g)) (aaV.mpr #[λz=>?_,aaV.mpr #[λz=>?_,hk.nd]]) λx hx=>?_
 ·simpa using this
 ·rcases aav.mp z with q | z
  ·subst q;rw[hg] at hg';exact hw (aau hg')
  ·obtain⟨e,he,q⟩:=aai.mp z;have:=hk.out e he;rw[q,hg] at this;exact hw 3.12
 ·obtain⟨e,he,q⟩:=aai.mp z;exact db hs he q
 ·rcases aav.mp hx with rfl | hx
  ·exact hl
  rcases aav.mp hx with rfl | hx
  ·exact hl'
  ·obtain⟨e,he,rfl⟩:=aai.mp hx;exact(aaa.mp (hk.out e he)).1
structure Rest(r:Rl)(n c:Nat)(R:Rm)(A:List En)(e:En)(B:List En):Prop where
 es:R.2=A++e::B
 mid:Mid r n c R.1 A e B
 st:Still r R
 ok:ROk R
 ln:R.1.length=n
def Rest.calm(h:Rest r n c R A e B)(hf:Ez r.w)(hb:0<=r.b)(hw:r.w=.turns)(he:e.wr=false)(no:∀ y∈A++B,y.wr=false):IT r R.1 false=false:=by
 obtain⟨y,hy,hl⟩:=yK h.st h.ok hf hb (by rw[h.es];simp)
 have:y.wr=false:=by
  rw[h.es] at hy;rcases aan.mp hy with z | z
  ·exact no y (by simp[z])
  rcases aav.mp z with rfl | z
  ·exact he
  ·exact no y (by simp[z])
 rwa[this] at hl
def Rest.sub(h:Rest r n c R A e B)(hf:Ez r.w)(hb:0<=r.b)(a:A'.Sublist A)(b:B'.Sublist B)(hw:Wd.writes∈ws'↔Wd.writes∈R.1):Mid r n c ws' A' e B':=by
 have hm:=h.mid;unfold Mid at hm ⊢;have la:=a.length_le;have wa:Es A'<=Es A:=a.countP_le;have ra:EV A'<=EV A:=a.countP_le;rcases id hf with q | q | q
 ·rw[q] at hm ⊢;dsimp only at hm ⊢;omega
 ·rw[q] at hm ⊢;dsimp only at hm ⊢;obtain⟨tg,hW,hR⟩:=hm;have sl:(A'++e::B').Sublist (A++e::B):=a.append (b.cons_cons e);have ta:Ey (A'++e::B')<=Ey (A++e::B):=sl.countP_le;refine#[λy hy=>tg y (sl.mem hy),λz=>?_,λz=>?_]
  ·obtain⟨h1,h2,h3⟩:=hW z;have fm:=a5P (n:=n) wa h1;exact#[by omega,λk=>by have:=h2 (hw.mp k);omega,λk=>by have:=h3 (λz=>k (hw.mpr z));omega]
  ·cases hR z with
   | m h k=>exact .m h 0.0
   | w h' b' hw' k=>exact .w h' (λy hy=>b' y (b.mem hy)) (hw.mpr hw') 0.0
   | u h' b' hw' k=>exact .u h' (λy hy=>b' y (b.mem hy)) (λz=>hw' (hw.mp z)) 0.0
   | v h' b' hw' a' k no kk=>
    have c0:c=0:=by
     rcases kk with kk | kk
     ·exact kk
     ·rw[h.calm hf hb q z no] at kk;cases kk
    exact .v h' (λy hy=>b' y (b.mem hy)) (λz=>hw' (hw.mp z)) a' 0.0 (λy hy=>no y ((a.append b).mem hy)) (.inl c0)
 ·rw[q] at hm ⊢;dsimp only at hm ⊢;exact#[hm.1,hm.2.1,λz=>by have:=hm.2.2.1 z;omega,λz=>by have:=hm.2.2.2 z;omega]
def Rest.app(h:Rest r n c R A e B)(hf:Ez r.w)(hb:0<=r.b)(ha:0<=r.a){x:En}(hx:x.m=0)(hg:R.1[x.g]?=Y .out)(hs:Cg R.2 x.g=false):Mid r n c R.1 A e (B++[x]):=by
 have hm:=h.mid;unfold Mid at hm ⊢;rcases id hf with q | q | q<;>rw[q] at hm ⊢<;>dsimp only at hm ⊢
 ·exact hm
 ·obtain⟨tg,hW,hR⟩:=hm;have x1:x.m≠1:=by rw[hx];decide
  have mem:∀ y∈A++e::(B++[x]),y∈A++e::B\/y=x:=λy hy=>by simp only[aan,aav,aat] at hy ⊢;rcases hy with hy | hy | hy | hy<;>simp_all
  have bx:(∀ y∈B,y.m≠1)->∀ y∈B++[x],y.m≠1:=λk y hy=>by
   rcases aan.mp hy with z | z
   ·exact k y z
   ·rw[aat.mp z];exact x1
  refine#[λy hy z=>?_,λz=>?_,λz=>?_]
  ·rcases mem y hy with k | k
   ·exact tg y k z
   ·rw[k] at z;exact absurd z x1
  ·obtain⟨h1,h2,h3⟩:=hW z;refine#[h1,h2,λk=>?_];have:=h3 k;simp only[sE,qM,if_neg x1,show Ey []=0 from rfl] at this ⊢;omega
  ·cases hR z with
   | m h k=>exact .m h k
   | w h' b' hw' k=>exact .w h' (bx b') hw' k
   | u h' b' hw' k=>exact .u h' (bx b') hw' k
   | v h' b' hw' a' k no kk=>
    have c0:c=0:=by
     rcases kk with kk | kk
     ·exact kk
     ·rw[h.calm hf hb q z no] at kk;cases kk
    cases xw:x.wr with
    | false=>
     refine .v h' (bx b') hw' a' k (λy hy=>?_) (.inl c0);simp only[aan,aat] at hy;rcases hy with hy | hy | hy
     ·exact no y (by simp[hy])
     ·exact no y (by simp[hy])
     ·rw[hy];exact xw
    | true=>
     obtain⟨g,w,h1,h2⟩:=a5V h.st h.ok hf hb ha (by rw[h.es];simp);have:=a5X h.ok h1 h2 hg hs;rw[h.ln,h.es,aal,aar] at this;have:=nWR A;exact .u h' (bx b') hw' 0.0
 ·exact hm
def Bw(e:En):En:=if e.wr then e else { e with m:=1 }
theorem GO(w:Wd)(es:List En):Jb r w es=if r.w=.turns/\w=.writes then es.map Bw else es:=rfl
def jO(e:En):(Bw e).wr=e.wr:=by unfold Bw;split<;>rfl
theorem Bo(e:En):(Bw e).g=e.g:=by unfold Bw;split<;>rfl
def Rest.mark(h:Rest r n c R A e B)(hw:r.w=.turns){g:Nat}(hg:R.1[g]?=Y .writes){ws':List Wd}:Mid r n c ws' (A.map Bw) (Bw e) (B.map Bw):=by
 have hm:=h.mid;unfold Mid at hm ⊢;rw[hw] at hm ⊢;dsimp only at hm ⊢;obtain⟨tg,hW,hR⟩:=hm;have wr:=aax hg;have wA:Es (A.map Bw)=Es A:=by unfold Es;rw[abZ];congr 1;funext e;exact jO e
 have rA:EV (A.map Bw)=EV A:=by unfold EV;rw[abZ];congr 1;funext e;show(!(Bw e).wr)=_;rw[jO]
 have tE:∀ y∈A++e::B,(Bw y).m=1->y.wr=false:=λy hy z=>by
  cases q:y.wr with
  | false=>rfl
  | true=>
   have:Bw y=y:=by unfold Bw;rw[aam q]
   rw[this] at z;rw[tg y hy z] at q;cases q
 have all:A.map Bw++Bw e::B.map Bw=(A++e::B).map Bw:=by simp
 have tN:Ey ((A++e::B).map Bw)<=EV (A++e::B):=by
  unfold Ey EV;rw[abZ];exact aev λy hy z=>by rw[tE y hy (aaD z)];rfl
 have ln:=a5W h.ok hg 0.1;rw[h.es,h.ln] at ln;refine#[λy hy z=>?_,λz=>?_,λz=>?_]
 ·rw[all] at hy;obtain⟨u,hu,rfl⟩:=aai.mp hy;rw[jO];exact tE u hu z
 ·rw[jO] at z;obtain⟨h1,h2,j⟩:=hW z;have h2:=h2 wr;have s:=nWR (A++e::B);have s2:Es (A++e::B)=Es A+Es B+1:=by rw[sD,AY,z];simp;omega
  refine#[by rw[wA];exact h1,λj=>by rw[wA];exact h2,λj=>?_];rw[wA,all];omega
 ·rw[jO] at z;have m1:(Bw e).m=1:=by unfold Bw;rw[z];rfl
  refine .m m1 ?_;rw[rA];cases hR z with
  | m _ k=>exact k
  | w _ _ _ k=>exact k
  | u _ _ k _=>exact absurd wr k
  | v _ _ k _ _ _ _=>exact absurd wr k
end
section
variable{r:Rl}{n c g:Nat}{ws:List Wd}{A B:List En}{e:En}{R:Rm}
def oH{x:Ev}{l:List Ev}(h:(decide (x.g=g)&&Ni x.w)=false)(h0:QX x.w=0):Nv g c (x::l)=Nv g c l:=by
 rw[Nv,h,if_neg aeI,h0,acK]
def gD{g':Nat}{l:List Ev}(h:(Ni w||decide (QX w≠0))=false):Nv g c (#[w,g']::l)=Nv g c l:=by
 rw[adk] at h;exact oH (by show(decide (g'=g)&&Ni w)=false;rw[h.1,abh]) (by simpa using h.2)
def pQ{g':Nat}{l:List Ev}(h:g'≠g)(h0:QX w=0):Nv g c (#[w,g']::l)=Nv g c l:=
 oH (by show(decide (g'=g)&&_)=false;rw[aao h,abv]) h0
def qC{g':Nat}{l:List Ev}(h:g'≠g):Nv g c (#["in",g']::l)=Nv g (c+1) l:=by
 rw[Nv,if_neg (by rw[show decide ((#["in",g']:Ev).g=g)=false from aao h,abv];exact aeI)]
 congr 1
def qD{l:List Ev}(h:Ni w=true):(Nv g c (#[w,g]::l)).1=c:=by
 rw[Nv,aam (by rw[show decide ((#[w,g]:Ev).g=g)=true from aaj rfl];exact h)]
def se{l:List Ev}:∀ gs:List Nat,(g∈gs->(Nv g c ((gs.map λk=>(#["ends",k]:Ev))++l)).1=c)/\(g∉gs->Nv g c ((gs.map λk=>(#["ends",k]:Ev))++l)=Nv g c l)
 | []=>#[λh=>(by cases h),λw=>rfl]
 | k::gs=>by
  have ih:=se gs (l:=l);by_cases z:k=g
  ·subst z;exact#[λw=>qD (by decide +kernel),λh=>absurd aab h]
  ·refine#[λh=>?_,λh=>?_]
   ·rw[List.map_cons,acC,pQ z (by decide +kernel)];exact ih.1 ((aav.mp h).resolve_left (Ne.symm z))
   ·rw[List.map_cons,acC,pQ z (by decide +kernel)];exact ih.2 λq=>h (aac _ q)
def a5Y{k:Nat}{w':Wd}(hg:ws[k]?=Y w)(h:w≠.writes)(h':w'≠.writes):Wd.writes∈ws.set k w'↔Wd.writes∈ws:=by
 have:=rQ w' .writes hg;rw[if_neg h,if_neg h'] at this;rw[<- acL,<- acL];omega
def Mid.raise{k:Nat}(hf:Ez r.w)(h:Mid r n c ws A e B)(hg:ws[k]?=Y .rising):Mid r n c (ws.set k .raised) A e B:=by
 have iff:=a5Y (w':=.raised) hg 0.1 0.1;unfold Mid at h ⊢;rcases hf with q | q | q<;>rw[q] at h ⊢<;>dsimp only at h ⊢
 ·exact h
 ·refine#[h.1,λz=>?_,λz=>?_]
  ·obtain⟨h1,h2,h3⟩:=h.2.1 z;exact#[h1,λk=>h2 (iff.mp k),λk=>h3 λz=>k (iff.mpr z)]
  ·cases h.2.2 z with
   | m h k=>exact .m h k
   | w h b hw k=>exact .w h b (iff.mpr hw) k
   | u h b hw k=>exact .u h b (λz=>hw (iff.mp z)) k
   | v h b hw a k no kk=>
    refine .v h b (λz=>hw (iff.mp z)) a k no (.inl (kk.resolve_right λl=>?_));unfold IT at l;have:=a3q hg;split at l
    ·cases l
    ·simp only[aaL,abE,aag,aaU] at l;omega
 ·exact h
inductive Goes(r:Rl)(n c g:Nat)(wr:Bool)(R':Rm)(es:List Ev):Prop
 | on (c':Nat) (A:List En) (e:En) (B:List En) (q:R'.2=A++e::B) (hg:e.g=g) (hw:e.wr=wr) (m:Mid r n c' R'.1 A e B) (t:∀ l,Nv g c (es++l)=Nv g c' l)
 | off (t:∀ l,(Nv g c (es++l)).1<=He r n wr)
def ny(hf:Ez r.w)(ha:0<=r.a)(h3:3<=n):∀ (k:Nat) {R:Rm} {c:Nat} {A B:List En} {e:En},ROk R->R.2=A++e::B->Mid r n c R.1 A e B->Goes r n c e.g e.wr (JM r k R).1 (JM r k R).2
 | 0,R,c,A,B,e,ok,q,m=>.on c A e B q rfl rfl m λl=>rfl
 | k+1,R,c,A,B,e,ok,q,m=>by
  show Goes r n c e.g e.wr (JM r k (Xe r R).1).1 ((Xe r R).2++(JM r k (Xe r R).1).2);have ok1:=(sh (r:=r) ok).1;have out:=ok.out;cases IM (r:=r) (R:=R) with
  | no h=>rw[h];exact ny hf ha h3 k ok q m
  | up j hj h=>
   rw[h] at ok1 ⊢;have ih:=ny hf ha h3 k (R:=(R.1.set j .raised,R.2)) ok1 q (m.raise hf hj);have sk:∀ l,Nv e.g c (#["steps",j]::l)=Nv e.g c l:=λl=>gD (by decide +kernel);cases ih with
   | on c' A' e' B' q' hg hw m' t=>exact .on c' A' e' B' q' hg hw m' λl=>(sk _).trans (t l)
   | off t=>exact .off λl=>by show(Nv e.g c (#["steps",j]::(_++l))).1<=_;rw[sk];exact t l
  | go P x Q q2 l f h=>
   rw[h] at ok1 ⊢;have hx:=out x (by rw[q2];simp);have nd:=ok.nd;rcases a5S (q.symm.trans q2) with ⟨_,rfl,_⟩ | ⟨A2,rfl,rfl⟩ | ⟨B1,rfl,rfl⟩
   ·exact .off λl=>by
     show(Nv x.g c (#["in",x.g]::_)).1<=_;rw[qD (by decide +kernel)];exact m.cap hf h3
   ·have ne:x.g≠e.g:=λz=>by
     rw[q] at nd;simp only[aaI,List.map_cons,aay,acC,abd,aaV,aan,aav,aai] at nd;exact nd.2.1.1 (.inr (.inl z))
    have ih:=ny hf ha h3 k (e:=e) ok1 (show _=(P.map 1.06++A2)++e::B by simp) (m.ahead hf f l hx);cases ih with
    | on c' A' e' B' q' hg hw m' t=>exact .on c' A' e' B' q' hg hw m' λl=>(qC ne).trans (t l)
    | off t=>exact .off λl=>by show(Nv e.g c (#["in",x.g]::(_++l))).1<=_;rw[qC ne];exact t l
   ·have ne:x.g≠e.g:=λz=>by
     rw[q] at nd;simp only[aaI,List.map_cons,abd,aaV,aan,aav,aai] at nd;exact nd.2.1.1 (.inr (.inl z.symm))
    have ih:=ny hf ha h3 k (e:=MI.bump r e) ok1 (show _=A.map 1.06++MI.bump r e::(B1.map 1.06++Q) by simp) (m.behind hf ha f l hx);cases ih with
    | on c' A' e' B' q' hg hw m' t=>exact .on c' A' e' B' q' hg hw m' λl=>(qC ne).trans (t l)
    | off t=>exact .off λl=>by show(Nv e.g c (#["in",x.g]::(_++l))).1<=_;rw[qC ne];exact t l
end
section
variable{r:Rl}{n c g:Nat}{ws:List Wd}{A B:List En}{e:En}{R:Rm}
def a5Z{f:En->En}(hm:∀ y,(f y).m=y.m)(l:List En):Ey (l.map f)=Ey l:=by
 unfold Ey;rw[abZ];congr 1;funext y;show decide ((f y).m=1)=_;rw[hm]
def a60{f:En->En}(hw:∀ y,(f y).wr=y.wr)(l:List En):Es (l.map f)=Es l:=by
 unfold Es;rw[abZ];congr 1;funext y;exact hw y
theorem AW{f:En->En}(hw:∀ y,(f y).wr=y.wr)(l:List En):EV (l.map f)=EV l:=by
 unfold EV;rw[abZ];congr 1;funext y;show(!(f y).wr)=_;rw[hw]
def Mid.map{f:En->En}(hm:∀ y,(f y).m=y.m)(hw:∀ y,(f y).wr=y.wr)(h:Mid r n c ws A e B):Mid r n c ws (A.map f) (f e) (B.map f):=by
 have al:∀ {p:En->Prop} {l:List En},(∀ y,p y->p (f y))->(∀ y∈l,p y)->∀ y∈l.map f,p y:=λhp k y hy=>by
  obtain⟨u,hu,rfl⟩:=aai.mp hy;exact hp u (k u hu)
 have ap:A.map f++f e::B.map f=(A++e::B).map f:=by simp
 unfold Mid at h ⊢;split
 ·rename_i q;rw[q] at h;simpa using h
 ·rename_i q;rw[q] at h;dsimp only at h;rw[hm,hw,aaf];exact h
 ·rename_i q;rw[q] at h;dsimp only at h;obtain⟨h1,h2,h3⟩:=h;rw[hw,ap];refine#[al (λy k=>by rw[hm,hw];exact k) h1,λz=>?_,λz=>?_]
  ·unfold MidW at h2 ⊢;rw[a60 hw,ap,a5Z hm];exact h2 z
  ·have bt:(∀ y∈B,y.m≠1)->∀ y∈B.map f,y.m≠1:=al λy k=>by rw[hm];exact k
   cases h3 z with
   | m h k=>exact .m (by rw[hm];exact h) (by rw[AW hw];exact k)
   | w h b hw' k=>exact .w (by rw[hm];exact h) (bt b) hw' (by rw[AW hw];exact k)
   | u h b hw' k=>exact .u (by rw[hm];exact h) (bt b) hw' (by rw[AW hw];exact k)
   | v h b hw' a k no kk=>exact .v (by rw[hm];exact h) (bt b) hw' a (by rw[AW hw];exact k) (by rw[<- aaI];exact al (λy k=>by rw[hw];exact k) no) kk
 ·trivial
def Mid.words(q:r.w≠.turns)(h:Mid r n c ws A e B):Mid r n c ws' A e B:=by
 unfold Mid at h ⊢;cases z:r.w with
 | turns=>exact absurd z q
 | _=>rw[z] at h;exact h
def a61:∀ {l:List En} {x y:En},(l.map (·.g)).Nodup->x∈l->y∈l->x.g=y.g->x=y
 | a::l,x,y,nd,hx,hy,q=>by
  rw[List.map_cons,aaV] at nd;rcases aav.mp hx with e1 | h1<;>rcases aav.mp hy with e2 | h2
  ·rw[e1,e2]
  ·rw[e1] at q;exact absurd (aai.mpr #[y,h2,q.symm]) nd.1
  ·rw[e2] at q;exact absurd (aai.mpr #[x,h1,q]) nd.1
  ·exact a61 nd.2 h1 h2 q
def mn(hf:Ez r.w)(ha:0<=r.a)(h3:3<=n)(ok:ROk R)(q:R.2=A++e::B)(m:Mid r n c R.1 A e B):Goes r n c e.g e.wr (JK r R).1 (JK r R).2:=ny hf ha h3 _ ok q m
inductive Stays(r:Rl)(n c g:Nat)(wr:Bool)(R':Rm)(es:List Ev):Prop
 | on (c':Nat) (A:List En) (e:En) (B:List En) (q:Rest r n c' R' A e B) (hg:e.g=g) (hw:e.wr=wr) (t:∀ l,Nv g c (es++l)=Nv g c' l)
 | off (t:∀ l,(Nv g c (es++l)).1<=He r n wr)
def Goes.rest(h:Goes r n c g wr R es)(st:Still r R)(ok:ROk R)(ln:R.1.length=n):Stays r n c g wr R es:=by
 cases h with
 | on c' A e B q hg hw m t=>exact .on c' A e B #[q,m,st,ok,ln] hg hw t
 | off t=>exact .off t
def Stays.pre{fs:List Ev}(h:Stays r n c g wr R es)(sk:∀ l,Nv g c (fs++l)=Nv g c l):Stays r n c g wr R (fs++es):=by
 cases h with
 | on c' A e B q hg hw t=>exact .on c' A e B q hg hw λl=>by rw[aay,sk];exact t l
 | off t=>exact .off λl=>by rw[aay,sk];exact t l
def Stays.post{fs:List Ev}(h:Stays r n c g wr R es)(sk:∀ c l,Nv g c (fs++l)=Nv g c l):Stays r n c g wr R (es++fs):=by
 cases h with
 | on c' A e B q hg hw t=>exact .on c' A e B q hg hw λl=>by rw[aay,t,sk]
 | off t=>exact .off λl=>by rw[aay];exact t _
def sH{p:En->Bool}(hp:p e=true):(A++e::B).filter p=A.filter p++e::B.filter p:=by
 rw[adq,aaG,aam hp]
def Rest.out(h:Rest r n c R A e B):R.1[e.g]?=Y .out:=h.ok.out e (by rw[h.es];simp)
def a62(hf:Ez r.w)(ha:0<=r.a)(hb:0<=r.b)(h3:3<=n){d:Dd}(h:Rest r n c R A e B)(hd:d.Ok n)(hx:XU r R d=Y x):Stays r n c e.g e.wr x.1 x.2:=by
 have st:=qu h.ok hb h.st hx;have okx:=eZ h.ok hx;have can:=iQ hx;have ho:=h.out;unfold XU at hx;rw[can] at hx;cases d with
 | tick=>
  cases hx;unfold OI at st okx ⊢;dsimp only at st okx ⊢;have fm:∀ l:List En,(l.map PR).filter (λe=>decide (e.t≠Y 0))=(l.filter λe=>decide ((PR e).t≠Y 0)).map PR:=λl=>by rw[List.filter_map];rfl
  by_cases z:(PR e).t=Y 0
  ·refine .off λl=>?_;rw[aay,show(((R.2.map PR).filter λe=>decide (e.t=Y 0)).map λe=>(#["ends",e.g]:Ev))=(((R.2.map PR).filter λe=>decide (e.t=Y 0)).map (·.g)).map λk=>#["ends",k] by rw[aaX];rfl];have hm:e.g∈((R.2.map PR).filter λe=>decide (e.t=Y 0)).map (·.g):=aai.mpr #[PR e,aaA.mpr #[aai.mpr #[e,by rw[h.es];simp,rfl],aaj z],rfl];rw[(se _).1 hm];exact h.mid.cap hf h3
  ·have q:(R.2.map PR).filter (λe=>decide (e.t≠Y 0))=(A.filter λe=>decide ((PR e).t≠Y 0)).map PR++PR e::(B.filter λe=>decide ((PR e).t≠Y 0)).map PR:=by
    rw[fm,h.es,sH (by simpa using z)];simp
   have m:=(h.sub (ws':=R.1) hf hb abj abj Iff.rfl (A':=A.filter λe=>decide ((PR e).t≠Y 0)) (B':=B.filter λe=>decide ((PR e).t≠Y 0))).map (f:=PR) (λo=>rfl) (λo=>rfl);have ok0:ROk (R.1,(R.2.map PR).filter λe=>decide (e.t≠Y 0)):=(ROk.mapE (ws:=R.1) (es:=R.2) h.ok PR λo=>rfl).filter _;have gs:=(mn (e:=PR e) hf ha h3 ok0 q m).rest st okx.1 (okx.2.trans h.ln);refine Stays.pre gs λl=>?_;rw[show(((R.2.map PR).filter λe=>decide (e.t=Y 0)).map λe=>(#["ends",e.g]:Ev))=(((R.2.map PR).filter λe=>decide (e.t=Y 0)).map (·.g)).map λk=>#["ends",k] by rw[aaX];rfl];refine(se _).2 λhm=>?_;obtain⟨u,hu,e1⟩:=aai.mp hm;obtain⟨hu,ht⟩:=aaA.mp hu;obtain⟨v,hv,rfl⟩:=aai.mp hu
   have:v=e:=by
    have nd:=h.ok.nd;have e1:v.g=e.g:=e1;exact a61 nd hv (by rw[h.es];simp) e1
   rw[this] at ht;exact z (aaD ht)
 | ask wr k t=>
  cases hx
  have hc:R.1[k]?=Y .out/\Cg R.2 k=false:=by
   unfold IW at can;rw[aag,Bool.not_eq_true'] at can;exact#[aaD can.1,can.2]
  have ne:k≠e.g:=λz=>db hc.2 (e:=e) (by rw[h.es];simp) z.symm;have m:=h.app hf hb ha (x:=ZV wr k t) rfl hc.1 hc.2;have ok0:ROk (R.1,R.2++[ZV wr k t]):=mN h.ok hc.1 hc.2;have q:R.2++[ZV wr k t]=A++e::(B++[ZV wr k t]):=by rw[h.es];simp
  have sok:=dS (r:=r) ok0;have gs:=(mn hf ha h3 ok0 q m).rest (iS ok0 hb) sok.1 (sok.2.trans h.ln);unfold OH at st okx ⊢;dsimp only at st okx ⊢;split
  ·exact gs
  ·rename_i s1;rw[if_neg s1] at st okx;split
   ·rename_i s2;rw[aam s2] at st okx;cases gs with
    | on c' A' e' B' q' hg hw t'=>
     have pe:(λe:En=>decide (e.g≠k)) e'=true:=aaj (by rw[hg];exact Ne.symm ne);refine .on c' (A'.filter λe=>decide (e.g≠k)) e' (B'.filter λe=>decide (e.g≠k)) #[?_,q'.sub hf hb abj abj Iff.rfl,st,okx.1,okx.2.trans h.ln] hg hw λl=>?_
     ·exact(congrArg (List.filter _) q'.es).trans (sH pe)
     ·rw[aay,t'];exact gD (by decide +kernel)
    | off t'=>exact .off λl=>by rw[aay];exact t' _
   ·exact gs.post λc l=>gD (by decide +kernel)
 | act k j=>
  by_cases hu:k=.up/\(r.c=0\/Wd.rising∈R.1)
  ·dsimp only at hx;rw[if_neg 0.1,aam hu] at hx;cases hx;exact .on c A e B h rfl rfl λl=>gD (by decide +kernel)
  ·dsimp only at hx;rw[if_neg 0.1,if_neg hu] at hx;cases hj:R.1[j]? with
   | none=>rw[hj] at hx;cases hx
   | some w=>
    rw[hj] at hx;cases hx;by_cases ne:j=e.g
    ·subst ne;rw[ho] at hj;cases hj
     have ks:k=.stop:=by
      unfold IW at can;cases k<;>simp[ho] at can ⊢
     subst ks;refine .off λl=>?_;show(Nv e.g c (#["ends",e.g]::_)).1<=_;rw[qD (by decide +kernel)];exact h.mid.cap hf h3
    ·have pe:(λe:En=>decide (e.g≠j)) e=true:=aaj (Ne.symm ne);have ok0:=rY (r:=r) (k:=k) (w:=w) (g:=j) h.ok (XT k w);have th:XT k w≠.writes:=by cases k<;>cases w<;>decide
     have m0:∃ A' e' B',XX r k w j R.2=A'++e'::B'/\e'.g=e.g/\e'.wr=e.wr/\Mid r n c (R.1.set j (XT k w)) A' e' B':=by
      unfold XX;rw[GO];by_cases mk:(k=.down\/k=.leave)/\r.w=.turns/\w=.writes
      ·rw[aam mk.1,aam mk.2];obtain⟨o,tw,rfl⟩:=mk;refine#[_,Bw e,_,?_,Bo e,jO e,h.mark tw hj];rw[abc.mpr λy hy=>?_,h.es]
       ·simp
       ·obtain⟨u,hu',rfl⟩:=aai.mp hy;rw[Bo];exact aaj λz=>by have:=h.ok.out u hu';rw[z,hj] at this;cases this
      ·have le:(if k=.down\/k=.leave then(if r.w=.turns/\w=.writes then R.2.map Bw else R.2) else R.2)=R.2:=by
        split
        ·rename_i k1;rw[if_neg λz=>mk #[k1,z]]
        ·rfl
       rw[le,h.es,sH pe];refine#[_,e,_,rfl,rfl,rfl,?_];by_cases ww:w=.writes
       ·refine Mid.words (λtw=>mk #[?_,tw,ww]) (h.sub (ws':=R.1) hf hb abj abj Iff.rfl);subst ww;unfold IW at can;cases k<;>simp[hj] at can ⊢;obtain⟨u,hu',hu''⟩:=aaO.mp can;have:=h.ok.out u hu';rw[aaD hu'',hj] at this;cases this
       ·exact h.sub hf hb abj abj (a5Y hj ww th)
     obtain⟨A',e',B',q,hg,hw,m⟩:=m0;have gs:=mn (e:=e') hf ha h3 ok0 q m;rw[hg,hw] at gs;have gs:=gs.rest st okx.1 (okx.2.trans h.ln);unfold XY;dsimp only;refine Stays.post (Stays.pre gs λl=>?_) λc l=>?_
     ·cases k with
      | up=>rfl
      | down=>exact gD (by decide +kernel)
      | leave=>exact gD (by decide +kernel)
      | stop=>exact pQ ne (by decide +kernel)
     ·split
      ·exact gD (by decide +kernel)
      ·rfl
def a63(hf:Ez r.w)(ha:0<=r.a)(hb:0<=r.b)(h3:3<=n)(w:Ws r R l xs):∀ {c:Nat} {A B:List En} {e:En},(∀ d∈l,d.Ok n)->Rest r n c R A e B->(Nv e.g c (CH xs)).1<=He r n e.wr:=by
 induction w with
 | nil=>intro c A B e u h;exact h.mid.cap hf h3
 | cons hx t ih=>
  intro c A B e hd h;rw[iX];cases a62 hf ha hb h3 h (hd _ aab) hx with
  | on c' A' e' B' q hg hw tt=>
   rw[tt,<- hg,<- hw];exact ih (λd z=>hd d 1.71) q
  | off tt=>exact tt _
def Tg(r:Rl)(es:List En):Prop:=r.w=.turns->∀ y∈es,y.m=1->y.wr=false
def Tg.sub{fs:List En}(h:Tg r es)(s:∀ y∈fs,y∈es):Tg r fs:=λq y hy=>h q y (s y hy)
def Tg.map{f:En->En}(h:Tg r es)(hm:∀ y,(f y).m=y.m)(hw:∀ y,(f y).wr=y.wr):Tg r (es.map f):=λq y hy z=>by
 obtain⟨u,hu,rfl⟩:=aai.mp hy;rw[hw];exact h q u hu ((hm u).symm.trans z)
def a64(h:Tg r R.2):Tg r (Xe r R).1.2:=by
 cases IM (r:=r) (R:=R) with
 | no e=>rw[e];exact h
 | up j _ e=>rw[e];exact h
 | go P x Q q _ _ e=>
  rw[e];intro tw;rw[show(P.map 1.06++Q)=P++Q by rw[xD (by rw[tw];decide)]];exact h.sub (λy hy=>by rw[q];rcases aan.mp hy with z | z<;>simp[z]) tw
theorem Am:∀ (k:Nat) {R:Rm},Tg r R.2->Tg r (JM r k R).1.2
 | 0,_,h=>h
 | k+1,_,h=>Am k (a64 h)
def a65{d:Dd}(h:Tg r R.2)(hx:XU r R d=Y x):Tg r x.1.2:=by
 have can:=iQ hx;unfold XU at hx;rw[can] at hx;cases d with
 | tick=>
  cases hx;exact Am _ ((h.map (f:=PR) (λw=>rfl) λw=>rfl).sub λy hy=>(aaA.mp hy).1)
 | ask wr k t=>
  cases hx
  have h1:Tg r (JK r (R.1,R.2++[ZV wr k t])).1.2:=Am _ λq y hy z=>by
   rcases aan.mp hy with hy | hy
   ·exact h q y hy z
   ·rw[aat.mp hy] at z;cases z
  unfold OH;dsimp only;split
  ·exact h1
  ·split
   ·exact h1.sub λy hy=>(aaA.mp hy).1
   ·exact h1
 | act k j=>
  dsimp only at hx;rw[if_neg 0.1] at hx;split at hx
  ·cases hx;exact h
  ·split at hx
   ·cases hx;refine Am _ ?_;show Tg r (XX r k _ j R.2);unfold XX;refine Tg.sub (es:=if k=.down\/k=.leave then Jb r _ R.2 else R.2) ?_ λy hy=>(aaA.mp hy).1;split
    ·rw[GO];split
     ·intro q y hy z;obtain⟨u,hu,rfl⟩:=aai.mp hy;rw[jO];cases qw:u.wr with
      | false=>rfl
      | true=>rw[show Bw u=u from by unfold Bw;rw[aam qw]] at z;rw[h q u hu z] at qw;cases qw
     ·exact h
    ·exact h
   ·cases hx
def qF:∀ (k:Nat) {R:Rm} {A:List En} {e:En},ROk R->R.2=A++[e]->(∃ A',(JM r k R).1.2=A'++[e])\/Cg (JM r k R).1.2 e.g=false
 | 0,_,A,_,_,q=>.inl #[A,q]
 | k+1,R,A,e,ok,q=>by
  have ok1:=(sh (r:=r) ok).1;show(∃ A',(JM r k (Xe r R).1).1.2=A'++[e])\/Cg (JM r k (Xe r R).1).1.2 e.g=false;cases IM (r:=r) (R:=R) with
  | no h=>rw[h];exact qF k ok q
  | up j _ h=>rw[h] at ok1 ⊢;exact qF k ok1 q
  | go P x Q q2 _ _ h=>
   rw[h] at ok1 ⊢;rcases a5S (q.symm.trans q2) with ⟨rfl,rfl,rfl⟩ | ⟨A2,rfl,rfl⟩ | ⟨B1,_,z⟩
   ·refine .inr (vt k ?_);unfold Cg;rw[acR];intro y hy z;have nd:=ok.nd;rw[q] at nd;simp only[aaI,List.map_cons,ack,abd,aat] at nd;rw[aaF] at hy;obtain⟨u,hu,rfl⟩:=aai.mp hy;exact nd.2.2 u.g (aai.mpr #[u,hu,rfl]) x.g rfl (aaD z)
   ·exact qF k ok1 (show _=(P.map 1.06++A2)++[e] by simp)
   ·cases B1<;>cases z
def a66(hf:Ez r.w)(ha:0<=r.a)(hb:0<=r.b)(ok:ROk R)(ln:R.1.length=n)(st:Still r R)(tg:Tg r R.2){k:Nat}(hx:XU r R (.ask wr k t)=Y x)(hw:UZ x.2=true) :
  ∃ A e,Rest r n 0 x.1 A e []/\e.g=k/\e.wr=wr:=by
 have st':=qu ok hb st hx;have okx:=eZ ok hx;have tg':=a65 tg hx;have can:=iQ hx;unfold XU at hx;rw[can] at hx;cases hx
 have hc:R.1[k]?=Y .out/\Cg R.2 k=false:=by
  unfold IW at can;rw[aag,Bool.not_eq_true'] at can;exact#[aaD can.1,can.2]
 have ok0:ROk (R.1,R.2++[ZV wr k t]):=mN ok hc.1 hc.2;unfold OH at st' okx tg' hw ⊢;dsimp only at st' okx tg' hw ⊢;have nw:UZ (JK r (R.1,R.2++[ZV wr k t])).2=false:=uR (jC _);split
 ·rename_i s1;rw[aam s1] at hw;rw[nw] at hw;cases hw
 ·rename_i s1;rw[if_neg s1] at st' okx tg' hw;split
  ·rename_i s2;rw[aam s2] at hw
   have:UZ ((JK r (R.1,R.2++[ZV wr k t])).2++[#["no",k]])=false:=by
    unfold UZ at nw ⊢;rw[acp,nw];show(false||(("no":Str)==CG||false))=false;decide +kernel
   rw[this] at hw;cases hw
  ·rename_i s2;rw[if_neg s2] at st' okx tg';rcases qF (r:=r) (2*R.1.length) (A:=R.2) (e:=ZV wr k t) ok0 rfl with ⟨A',q⟩ | z
   ·have q:(JK r (R.1,R.2++[ZV wr k t])).1.2=A'++ZV wr k t::[]:=q;refine#[A',ZV wr k t,#[q,?_,st',okx.1,okx.2.trans ln],rfl,rfl];generalize hR:(JK r (R.1,R.2++[ZV wr k t])).1=R' at *;have ln':R'.1.length=n:=okx.2.trans ln;obtain⟨g1,w1,h1,h2⟩:=a5V st' okx.1 hf hb ha (by rw[q];simp);have l1:=a5W okx.1 h1 h2;rw[ln',q,aal,aaW] at l1;have sm:=nWR A';unfold Mid;rcases id hf with tw | tw | tw<;>rw[tw]<;>dsimp only
    ·omega
    ·have ta:Ey (A'++[ZV wr k t])<=EV A':=by
      rw[sE,show Ey [ZV wr k t]=0 from rfl,acK];unfold Ey EV;exact aev λy hy z=>by rw[tg' tw y (by rw[q];simp[hy]) (aaD z)];rfl
     have fl:=Qj (n:=n) (w:=Es A') (n - 2 - Es A') 0.0;rw[show Es A'+(n - 2 - Es A')=n - 2 by omega] at fl;refine#[λy hy=>by rw[<- q] at hy;exact tg' tw y hy,λj=>#[by omega,λj=>by omega,λj=>by omega],λwf=>?_];have m1:(ZV wr k t).m≠1:=by show(0:Int)≠1;decide
     by_cases hwr:Wd.writes∈R'.1
     ·exact .w m1 (λy hy=>by cases hy) hwr 0.0
     ·by_cases a0:r.a=0
      ·by_cases no:∀ y∈A'++[],y.wr=false
       ·exact .v m1 (λy hy=>by cases hy) hwr a0 0.0 no 4.6
       ·have:1<=Es A':=by
         refine Nat.pos_of_ne_zero λz=>no λy hy=>?_;rw[aaF] at hy;have:=List.countP_eq_zero.mp z y hy;simpa using this
        exact .u m1 (λy hy=>by cases hy) hwr 0.0
      ·have:Hc r=1:=by unfold Hc;rw[if_neg a0]
       exact .u m1 (λy hy=>by cases hy) hwr 0.0
    ·exact#[by show(0:Int)<=0;decide,hb,λj=>by show((0+A'.length+2:Nat):Int)<=n+0;omega,λj=>by omega]
   ·exact absurd z s1
def a67(hf:Ez r.w)(ha:0<=r.a)(hb:0<=r.b)(h3:3<=n)(w:Ws r R l xs):ROk R->R.1.length=n->Still r R->Tg r R.2->(∀ d∈l,d.Ok n)->∀ b∈QY l xs,(Nv b.1 0 b.2.2).1<=He r n (b.2.1==("write":Str)):=by
 induction w with
 | nil=>intro u u u u u b h;cases h
 | @cons R d x l xs hx t ih=>
  intro ok ln st tg hd b h;have okx:=eZ ok hx;have ih:=ih okx.1 (okx.2.trans ln) (qu ok hb st hx) (a65 tg hx) (λd z=>hd d 1.71);cases d with
  | tick=>exact ih b h
  | act k g=>exact ih b h
  | ask wr g tt=>
   rw[QY] at h;split at h
   ·rename_i hw;rcases aav.mp h with rfl | h
    ·obtain⟨A,e,q,rfl,rfl⟩:=a66 hf ha hb ok ln st tg hx hw;rw[oF];exact a63 hf ha hb h3 t (λd z=>hd d 1.71) q
    ·exact ih b h
   ·exact ih b h
def a68{r:Rl}{n:Nat}(hb:0<=r.b):Still r (JZ n):=by
 have s:=lV (r:=r) (R:=JZ n) hV hb;unfold Still;generalize UP r (JZ n)=o at s;generalize (Xe r (JZ n)).1=x at s;generalize (Xe r (JZ n)).2=y at s;cases s with
 | up g h=>
  have:(ZB n Wd.out)[g]?=Y .rising:=h;rw[aei] at this;split at this<;>cases this
 | go i e h=>cases h
 | no=>rfl
end
def Mb:Str:="in"
def FE:Str:="ends"
def a69(h:Ni w=true):w=Mb\/w=FE:=by
 unfold Ni at h;rw[acs,beq_iff_eq,beq_iff_eq] at h;exact h
noncomputable abbrev Bg:=List (Nat×Nat)
noncomputable abbrev Fd:=List (Nat×Str×Nat)
def JT(x:Nat×Str×Nat):Nat×Str×Nat:=(x.1,x.2.1,x.2.2+1)
def WI(fd:Fd)(bg:Bg):Fd:=bg.foldl (λfd p=>fd.modify p.2 JT) fd
noncomputable def gone(g:Nat)(bg:Bg):Bg:=bg.filter λp=>decide (p.1≠g)
def WH(x:E3)(z:Fd×Bg):Fd×Bg:=
 if x.2.w=Mb then(WI z.1 (gone x.2.g z.2),gone x.2.g z.2)
 else if x.2.w=FE then(z.1,gone x.2.g z.2)
 else if Jw x=true then(z.1++[(x.2.g,x.1,0)],z.2++[(x.2.g,z.1.length)])
 else z
def RD:List E3->Fd×Bg->Fd×Bg
 | [],z=>z
 | x::L,z=>RD L (WH x z)
structure Gd(z:Fd×Bg):Prop where
 nd:(z.2.map (·.1)).Nodup
 at_:∀ p∈z.2,∃ w c,z.1[p.2]?=Y (p.1,w,c)
def FF(b:Nat×Str×List Ev):Nat×Str×Nat:=(b.1,b.2.1,(Nv b.1 0 b.2.2).1)
def ZW(bg:Bg)(l:List Ev)(j:Nat)(x:Nat×Str×Nat):Nat×Str×Nat:=if (x.1,j)∈bg then(x.1,x.2.1,(Nv x.1 x.2.2 l).1) else x
def Io(x:E3)(K:List Nat):List Nat:=if Ni x.2.w=true then K.filter λk=>decide (k≠x.2.g) else if Jw x=true then K++[x.2.g] else K
def Fr:List Nat->List E3->Prop
 | _,[]=>True
 | K,x::L=>(Jw x=true->x.2.g∉K)/\Fr (Io x K) L
def a6a:∀ {fd:Fd},(WI fd bg).length=fd.length:=by
 induction bg with
 | nil=>intro fd;rfl
 | cons p bg ih=>intro fd;show(WI 2.81 bg).length=_;rw[ih,adp]
def xF{j:Nat}:∀ {bg:Bg} {fd:Fd},(bg.map (·.2)).Nodup->(WI fd bg)[j]?=if j∈bg.map (·.2) then fd[j]?.map JT else fd[j]?
 | [],fd,_=>by simp[WI]
 | p::bg,fd,nd=>by
  rw[List.map_cons,aaV] at nd;have ih:=xF (j:=j) (bg:=bg) (fd:=fd.modify p.2 JT) nd.2;show(WI 2.81 bg)[j]?=_
  have md:(fd.modify p.2 JT)[j]?=if p.2=j then fd[j]?.map JT else fd[j]?:=by
   rw[aeA];by_cases e:p.2=j
   ·simp only[aam e];cases fd[j]?<;>rfl
   ·simp only[if_neg e];cases fd[j]?<;>rfl
  rw[ih,md];by_cases e:p.2=j
  ·subst e;rw[if_neg nd.1,aam rfl,aam 0.3]
  ·rw[if_neg e];by_cases m:j∈bg.map (·.2)
   ·rw[aam m,aam (by rw[List.map_cons];exact aac _ m)]
   ·rw[if_neg m,if_neg (by rw[List.map_cons,aav];exact λz=>z.elim (λq=>e q.symm) m)]
def Gd.val(h:Gd z):(z.2.map (·.2)).Nodup:=by
 obtain⟨fd,bg⟩:=z;have nd:=h.nd;have at_:=h.at_;dsimp only at nd at_ ⊢;clear h
 induction bg with
 | nil=>exact acy
 | cons p bg ih=>
  rw[List.map_cons,aaV] at nd ⊢;refine#[λm=>?_,ih nd.2 λq hq=>at_ q (aac _ hq)];obtain⟨q,hq,e⟩:=aai.mp m;obtain⟨w,c,h1⟩:=at_ p aab;obtain⟨w',c',h2⟩:=at_ q (aac _ hq);rw[e,h1] at h2;have:p.1=q.1:=congrArg (·.1) (aau h2);exact nd.1 (aai.mpr #[q,hq,this.symm])
def gone_mem{p:Nat×Nat}:p∈gone g bg↔p∈bg/\p.1≠g:=by
 unfold gone;rw[aaA,aaU]
def sY:(gone g bg).map (·.1)=(bg.map (·.1)).filter λk=>decide (k≠g):=by
 unfold gone;rw[List.filter_map];rfl
def Gd.gone{fd:Fd}{bg:Bg}(h:Gd (fd,bg))(g:Nat):Gd (fd,gone g bg):=⟨by
 show((K27.gone g bg).map (·.1)).Nodup
 rw[sY];exact h.nd.filter _,λp hp=>h.at_ p (gone_mem.mp hp).1⟩
def Gd.bump{fd:Fd}{bg:Bg}(h:Gd (fd,bg)):Gd (WI fd bg,bg):=⟨h.nd,λp hp=>by
 obtain⟨w,c,e⟩:=h.at_ p hp;have e:fd[p.2]?=Y (p.1,w,c):=e;refine#[w,c+1,?_];show(WI fd bg)[p.2]?=_
 rw[xF h.val,aam (aai.mpr #[p,hp,rfl]),e];rfl⟩
def Gd.add{fd:Fd}{bg:Bg}(h:Gd (fd,bg)){g:Nat}{w:Str}(hn:g∉bg.map (·.1)):Gd (fd++[(g,w,0)],bg++[(g,fd.length)]):=by
 refine#[?_,λp hp=>?_]
 ·show((bg++[(g,fd.length)]).map (·.1)).Nodup;rw[aaI,abd];exact#[h.nd,by simp,λa ha b hb=>by rw[List.map_cons,ack,aat] at hb;rw[hb];exact λz=>hn (by rw[<- show a=g from z];exact ha)]
 ·rcases aan.mp hp with hp | hp
  ·obtain⟨w',c,e⟩:=h.at_ p hp;have e:fd[p.2]?=Y (p.1,w',c):=e;exact#[w',c,by show(fd++_)[p.2]?=_;rw[aap (aaa.mp e).1];exact e]
  ·rw[aat.mp hp];exact#[w,0,by show(fd++[(g,w,0)])[fd.length]?=_;simp]
def Gd.step(h:Gd z)(hf:Jw x=true->x.2.g∉z.2.map (·.1)):Gd (WH x z):=by
 unfold WH;split
 ·exact(h.gone _).bump
 ·split
  ·exact h.gone _
  ·split
   ·rename_i q;exact h.add (hf q)
   ·exact h
def pS:(WH x z).2.map (·.1)=Io x (z.2.map (·.1)):=by
 unfold WH Io Ni;by_cases h1:x.2.w=Mb
 ·rw[aam h1,aam (by rw[h1];rfl)];exact sY
 ·rw[if_neg h1];have n1:(x.2.w==("in":Str))=false:=aaQ.mpr h1;by_cases h2:x.2.w=FE
  ·rw[aam h2,aam (by rw[h2];decide +kernel)];exact sY
  ·have n2:(x.2.w==("ends":Str))=false:=aaQ.mpr h2;rw[if_neg h2,n1,n2,if_neg (show ¬ (false||false)=true by decide)];split
   ·rw[aaI];rfl
   ·rfl
def Gd.run:∀ {L:List E3} {z:Fd×Bg},Gd z->Fr (z.2.map (·.1)) L->Gd (RD L z)
 | [],_,h,_=>h
 | x::L,z,h,f=>by
  show Gd (RD L (WH x z));exact Gd.run (h.step f.1) (by rw[pS];exact f.2)
def a6b:ZW bg [] j x=x:=by unfold ZW;split<;>rfl
def a6c{e:Ev}{w:Str}(h:e.w=w):e=#[w,e.g]:=by cases e;cases h;rfl
def tR{e:Ev}{w:Str}{g:Nat}{l:List Ev}(h:e.w=w)(hg:e.g=g)(hw:Ni w=true):(Nv g c (e::l)).1=c:=by
 rw[a6c h,hg];exact qD hw
def a6d{e:Ev}{g:Nat}{l:List Ev}(h:e.w=Mb)(hg:e.g≠g):Nv g c (e::l)=Nv g (c+1) l:=by
 rw[a6c h];exact qC hg
def a6e:∀ (L:List E3) {fd:Fd} {bg:Bg},Gd (fd,bg)->Fr (bg.map (·.1)) L->(RD L (fd,bg)).1=fd.mapIdx (ZW bg (L.map (·.2)))++(Dm L).map FF
 | [],fd,bg,_,_=>by
  show fd=_;rw[show(Dm []).map FF=[] from rfl,aaF,ack];refine acx λj=>?_;rw[aby];cases fd[j]? with
  | none=>rfl
  | some x=>show Y x=Y (ZW bg [] j x);rw[a6b]
 | x::L,fd,bg,h,f=>by
  have ih:=a6e L (fd:=(WH x (fd,bg)).1) (bg:=(WH x (fd,bg)).2) (h.step f.1) (by rw[pS];exact f.2);revert ih;show(RD L (WH x (fd,bg))).1=_->(RD L (WH x (fd,bg))).1=_;intro ih;refine abn ih ?_;clear ih;rw[List.map_cons]
  have hd:∀ {g':Nat} {c:Nat} {w:Str} {l:List Ev},x.2.w=w->QX w=0->(Ni w=true->x.2.g≠g')->Nv g' c (x.2::l)=Nv g' c l:=λ{g' c w l} e1 e2 e3=>by
   refine oH ?_ (by rw[e1];exact e2);rw[e1];cases q:Ni w with
   | false=>rw[abh]
   | true=>rw[aao (e3 q),abv]
  unfold WH;by_cases h1:x.2.w=Mb
  ·rw[aam h1];have na:Jw x=false:=by unfold Jw;rw[h1];rfl
   rw[Dm,na,if_neg aeI]
   congr 1
   refine acx λj=>?_;rw[aby,aby,xF (h.gone x.2.g).val];cases hx:fd[j]? with
   | none=>simp
   | some y=>
    have mem:∀ {k},(k,j)∈bg->k=y.1:=λ{k} hk=>by
     obtain⟨w,c,e⟩:=h.at_ _ hk;have e:fd[j]?=Y (k,w,c):=e;rw[hx] at e;rw[aau e]
    by_cases hm:(y.1,j)∈gone x.2.g bg
    ·rw[aam (aai.mpr #[_,hm,rfl])];obtain⟨m1,m2⟩:=gone_mem.mp hm;show Y (ZW (gone x.2.g bg) _ j (JT y))=Y 2.89;unfold ZW;rw[aam (show((JT y).1,j)∈gone x.2.g bg from hm),aam m1];rw[a6d h1 (Ne.symm m2)];rfl
    ·have nj:j∉(gone x.2.g bg).map (·.2):=λz=>by
      obtain⟨p,hp,e⟩:=aai.mp z;have:=(gone_mem.mp hp).1;have e1:p=(p.1,j):=by rw[<- e]
      rw[e1] at this;rw[e1,mem this] at hp;exact hm hp
     rw[if_neg nj];show Y (ZW (gone x.2.g bg) _ j y)=Y 2.89;unfold ZW;rw[if_neg hm];by_cases m1:(y.1,j)∈bg
     ·rw[aam m1];have m2:y.1=x.2.g:=acO λz=>hm (gone_mem.mpr #[m1,z]);rw[tR h1 m2.symm (by decide +kernel)]
     ·rw[if_neg m1]
  ·rw[if_neg h1];by_cases h2:x.2.w=FE
   ·rw[aam h2];have na:Jw x=false:=by unfold Jw;rw[h2];rfl
    rw[Dm,na,if_neg aeI]
    congr 1
    refine acx λj=>?_;rw[aby,aby];cases hx:fd[j]? with
    | none=>rfl
    | some y=>
     show Y (ZW (gone x.2.g bg) _ j y)=Y 2.89;unfold ZW;by_cases hm:(y.1,j)∈gone x.2.g bg
     ·obtain⟨m1,m2⟩:=gone_mem.mp hm;rw[aam hm,aam m1,hd h2 (by decide +kernel) λu=>Ne.symm m2]
     ·rw[if_neg hm];by_cases m1:(y.1,j)∈bg
      ·rw[aam m1];have m2:y.1=x.2.g:=acO λz=>hm (gone_mem.mpr #[m1,z]);rw[tR h2 m2.symm (by decide +kernel)]
      ·rw[if_neg m1]
   ·rw[if_neg h2]
    have ne:Ni x.2.w=false:=by
     cases q:Ni x.2.w with
     | false=>rfl
     | true=>exact((a69 q).elim h1 h2).elim
    have o0:QX x.2.w=0:=by unfold QX;exact if_neg λz=>h1 (beq_iff_eq.mp z)
    have same:∀ (g c:Nat) (l:List Ev),Nv g c (x.2::l)=Nv g c l:=λg c l=>oH (by rw[ne,abh]) o0;have nw:∀ j y,ZW bg (x.2::L.map (·.2)) j y=ZW bg (L.map (·.2)) j y:=λj y=>by unfold ZW;rw[same]
    rw[Dm];cases na:Jw x with
    | false=>
     rw[if_neg aeI,if_neg aeI]
     congr 1
     exact congrArg (λf=>fd.mapIdx f) (funext λj=>funext λy=>(nw j y).symm)
    | true=>
     rw[aam rfl,aam rfl,List.map_cons,List.mapIdx_append];dsimp only;rw[aay]
     congr 1
     ·refine acx λj=>?_;rw[aby,aby];cases hx:fd[j]? with
      | none=>rfl
      | some y=>
       show Y (ZW _ _ j y)=Y 2.89;rw[nw];unfold ZW
       have:(y.1,j)∈bg++[(x.2.g,fd.length)]↔(y.1,j)∈bg:=by
        rw[aan,aat];refine#[λz=>z.elim id λz=>?_,.inl];have:=(aaa.mp hx).1;have ej:j=fd.length:=congrArg (·.2) z;omega
       by_cases m:(y.1,j)∈bg
       ·rw[aam m,aam (this.mpr m)]
       ·rw[if_neg m,if_neg λz=>m (this.mp z)]
     ·show ZW _ _ _ (x.2.g,x.1,0)::(Dm L).map FF=_;unfold ZW;rw[aam 0.3];rfl
section
variable{r:Rl}{R:Rm}{k:Nat}
def oJ:∀ (m:Nat) {R:Rm},Cg R.2 k=true->Cg (JM r m R).1.2 k=true\/(#["in",k]:Ev)∈(JM r m R).2
 | 0,_,h=>.inl h
 | m+1,R,h=>by
  show Cg (JM r m (Xe r R).1).1.2 k=true\/(#["in",k]:Ev)∈(Xe r R).2++(JM r m (Xe r R).1).2;cases IM (r:=r) (R:=R) with
  | no e=>rw[e];exact oJ m h
  | up j _ e=>
   rw[e];exact(oJ m (R:=(R.1.set j .raised,R.2)) h).imp id λz=>aaM _ z
  | go P x Q q _ _ e=>
   rw[e];by_cases z:x.g=k
   ·exact .inr (aaK _ (by rw[z];exact aab))
   ·refine(oJ m (R:=(_,P.map 1.06++Q)) ?_).imp id λz=>aaM _ z;unfold Cg at h ⊢;rw[aaO] at h ⊢;obtain⟨y,hy,e1⟩:=h;rw[q] at hy;rcases aan.mp hy with hy | hy
    ·exact#[MI.bump r y,aaK _ 1.92,e1]
    ·rcases aav.mp hy with rfl | hy
     ·exact absurd (aaD e1) z
     ·exact#[y,aaM _ hy,e1]
def Kd(k:Nat)(es:List Ev):Prop:=∃ e∈es,e.g=k/\Ni e.w=true
def lh(h:Cg R.2 k=true):Cg (JK r R).1.2 k=true\/Kd k (JK r R).2:=
 (oJ _ h).imp id λz=>#[_,z,rfl,show Ni "in" = true by decide +kernel]
def oI{es:List En}{y:En}(h:y∈es)(e:y.g=k):Cg es k=true:=aaO.mpr #[y,h,aaj e]
def a6f{d:Dd}(hk:ROk R)(hx:XU r R d=Y x)(h:Cg R.2 k=true):Cg x.1.2 k=true\/Kd k x.2:=by
 have can:=iQ hx;unfold XU at hx;rw[can] at hx;obtain⟨y,hy,e⟩:=aaO.mp h;have e:=aaD e;have app:∀ {a b c:List Ev},Kd k b->Kd k (a++b++c):=λ⟨z,hz,q⟩=>#[z,aaK _ (aaM _ hz),q]
 cases d with
 | tick=>
  cases hx;unfold OI;dsimp only;by_cases z:(PR y).t=Y 0
  ·exact .inr #[#["ends",k],aaK _ (aai.mpr #[PR y,aaA.mpr #[aai.mpr #[y,hy,rfl],aaj z],by rw[<- e];rfl]),rfl,show Ni "ends" = true by decide +kernel]
  ·refine(lh (R:=(R.1,(R.2.map PR).filter λe=>decide (e.t≠Y 0))) (oI (y:=PR y) (aaA.mpr #[aai.mpr #[y,hy,rfl],by simpa using z]) e)).imp id λq=>?_;have:=app (a:=((R.2.map PR).filter λe=>decide (e.t=Y 0)).map λe=>#["ends",e.g]) (c:=[]) q
   rwa[aaF] at this
 | ask wr g t=>
  cases hx
  have ne:g≠k:=λz=>by
   unfold IW at can;rw[aag,Bool.not_eq_true'] at can;exact db can.2 hy (by rw[z];exact e)
  have st:=lh (r:=r) (R:=(R.1,R.2++[ZV wr g t])) (oI (y:=y) (aaK _ hy) e);unfold OH;dsimp only;split
  ·exact st
  ·split
   ·rcases st with st | st
    ·left;obtain⟨u,hu,e1⟩:=aaO.mp st;have e1:=aaD e1;exact oI (y:=u) (aaA.mpr #[hu,aaj (by rw[e1];exact Ne.symm ne)]) e1
    ·exact .inr (app (a:=[]) st)
   ·exact st.imp id λq=>app (a:=[]) q
 | act a j=>
  dsimp only at hx;rw[if_neg 0.1] at hx;split at hx
  ·cases hx;exact .inl h
  ·split at hx
   ·rename_i w hw;cases hx;unfold XY;dsimp only;by_cases z:j=k
    ·subst z;have ho:R.1[j]?=Y .out:=by rw[<- e];exact hk.out y hy
     have ks:a=.stop:=by
      unfold IW at can;cases a<;>simp[ho] at can ⊢
     subst ks;exact .inr #[#["ends",j],aaK _ (aaK _ aab),rfl,show Ni "ends" = true by decide +kernel]
    ·have:Cg (XX r a w j R.2) k=true:=by
      unfold XX
      have hm:∃ u∈(if a=.down\/a=.leave then Jb r w R.2 else R.2),u.g=k:=by
       split
       ·rw[GO];split
        ·exact#[Bw y,aai.mpr #[y,hy,rfl],by rw[Bo];exact e]
        ·exact#[y,hy,e]
       ·exact#[y,hy,e]
      obtain⟨u,hu,e1⟩:=hm;exact oI (y:=u) (aaA.mpr #[hu,aaj (by rw[e1];exact Ne.symm z)]) e1
     exact(lh (R:=(R.1.set j (XT a w),_)) this).imp id λq=>app q
   ·cases hx
end
section
variable{r:Rl}{R:Rm}
theorem BW{w:Str}:∀ (es:List Ev) {K:List Nat},(∀ e∈es,Jw (w,e)=false)->(∀ K',(∀ k∈K',k∈K/\∀ e∈es,¬ (e.g=k/\Ni e.w=true))->Fr K' L)->Fr K (es.map (λe=>((w,e):E3))++L)
 | [],K,_,h=>h K λk hk=>#[hk,λe he=>(nomatch he)]
 | e::es,K,ha,h=>by
  have a0:=ha e aab;refine#[λz=>(by rw[a0] at z;cases z),BW es (λe' he=>ha e' (aac _ he)) λK' hK=>h K' λk hk=>?_];obtain⟨h1,h2⟩:=hK k hk;unfold Io at h1;rw[a0] at h1
  have h0:k∈K/\¬ (e.g=k/\Ni e.w=true):=by
   by_cases q:Ni e.w=true
   ·rw[aam q,aaA,aaU] at h1;exact#[h1.1,λz=>h1.2 z.1.symm]
   ·rw[if_neg q,if_neg aeI] at h1;exact#[h1,λz=>q z.2]
  exact#[h0.1,λe' he=>by rcases aav.mp he with rfl | he;exact h0.2;exact h2 e' he]
def a6g(hx:XU r R (.ask wr g t)=Y x)(hw:UZ x.2=true):Cg x.1.2 g=true:=by
 have can:=iQ hx;unfold XU at hx;rw[can] at hx;cases hx;have nw:UZ (JK r (R.1,R.2++[ZV wr g t])).2=false:=uR (jC _);unfold OH at hw ⊢;dsimp only at hw ⊢;split
 ·rename_i s1;rw[aam s1,nw] at hw;cases hw
 ·rename_i s1;rw[if_neg s1] at hw;split
  ·rename_i s2;rw[aam s2] at hw
   have:UZ ((JK r (R.1,R.2++[ZV wr g t])).2++[#["no",g]])=false:=by
    unfold UZ at nw ⊢;rw[acp,nw];show(false||(("no":Str)==CG||false))=false;decide +kernel
   rw[this] at hw;cases hw
  ·exact adz _ ▸ s1
def a6h(wr:Bool)(g:Nat):Jw 1.33=true:=by
 show((CG:Str)==CG&&Sk (SJ wr))=true;rw[Ab,show((CG:Str)==CG)=true from by decide +kernel];rfl
def a6i(w:Ws r R l xs):∀ {K:List Nat},ROk R->(∀ k∈K,Cg R.2 k=true)->Fr K 1.73:=by
 induction w with
 | nil=>intros;trivial
 | @cons R d x l xs hx t ih=>
  intro K ok hK;have ok':=(eZ ok hx).1;have stay:∀ k∈K,(∀ e∈x.2,¬ (e.g=k/\Ni e.w=true))->Cg x.1.2 k=true:=λk hk h=>(a6f ok hx (hK k hk)).resolve_right λ⟨e,he,q⟩=>h e he q;rw[PN]
  have other:(∀ e∈x.2,Jw (Ja d,e)=false)->Fr K (x.2.map (λe=>1.58)++PN l xs):=λha=>
   BW x.2 ha λK' h=>ih ok' λk hk=>stay k (h k hk).1 (h k hk).2
  have word:Sk (Ja d)=false->∀ e∈x.2,Jw (Ja d,e)=false:=λh e u=>by show(_&&Sk (Ja d))=false;rw[h,abh]
  cases d with
  | tick=>exact other (word (by decide +kernel))
  | act k g=>exact other (word (CB k))
  | ask wr g tt=>
   rcases Cz hx with a | ⟨fs,a,e⟩
   ·exact other λy hy=>by show(y.w==CG&&_)=false;rw[a y hy];rfl
   ·have hh:UZ x.2=true:=by
     rw[e];unfold UZ;rw[acp,abe];rw[show((CG:Str)==CG)=true from by decide +kernel,adD,adE]
    have gs:=a6g hx hh;have can:=iQ hx
    have gn:Cg R.2 g=false:=by
     unfold IW at can;rw[aag,Bool.not_eq_true'] at can;exact can.2
    rw[e,aaI,aay];refine BW fs (λy hy=>by show(y.w==CG&&_)=false;rw[a y hy];rfl) λK' h=>?_;show Fr K' (1.33::PN l xs)
    have kk:Io 1.33 K'=K'++[g]:=by
     unfold Io;rw[if_neg (show ¬ Ni CG=true by decide +kernel),aam (a6h wr g)]
    refine#[λu z=>?_,?_]
    ·have:=hK g (h g z).1;rw[gn] at this;cases this
    ·rw[kk];refine ih ok' λk hk=>?_;rcases aan.mp hk with hk | hk
     ·refine stay k (h k hk).1 λy hy q=>?_;rw[e] at hy;rcases aan.mp hy with hy | hy
      ·exact(h k hk).2 y hy q
      ·rw[aat.mp hy] at q;exact absurd q.2 (show ¬ Ni CG=true by decide +kernel)
     ·rw[aat.mp hk];exact gs
def a6j(w:Ws r R l xs)(ok:ROk R):(RD 1.73 ([],[])).1=(QY l xs).map FF:=by
 rw[a6e 1.73 (fd:=[]) (bg:=[]) #[acy,λp h=>(nomatch h)] (a6i w ok λk h=>(nomatch h)),a45 w];rfl
def Lt5(L:List E3):Prop:=∀ x∈L,Jw x=true->x.2.g<5
def a6k{n:Nat}(h5:n<=5)(w:Ws r R l xs):(∀ d∈l,d.Ok n)->Lt5 1.73:=by
 induction w with
 | nil=>intro u x h;cases h
 | @cons R d x l xs hx t ih=>
  intro hd y hy ha;rw[PN] at hy;rcases aan.mp hy with hy | hy
  ·obtain⟨e,he,rfl⟩:=aai.mp hy;have wt:(e.w==CG)=true/\Sk (Ja d)=true:=by unfold Jw at ha;rw[aag] at ha;exact ha
   have dk:=hd d aab;cases d with
   | tick=>exact absurd wt.2 (by decide +kernel)
   | act k g=>rw[show Sk 2.29=false from CB k] at wt;cases wt.2
   | ask wr g tt=>
    rcases Cz hx with a | ⟨fs,a,q⟩
    ·rw[a e he] at wt;cases wt.1
    ·rw[q] at he;rcases aan.mp he with he | he
     ·rw[a e he] at wt;cases wt.1
     ·rw[aat.mp he];exact aaH dk.1 h5
  ·exact ih (λd z=>hd d 1.71) y hy ha
end
def qb:IC cx:=λS r m h h0 h1=>by rw[a5l];exact a1n rfl h h0 h1
def left{ns:List Int}{k:Int}(h0:0<=k)(h1:k<=100000):∃ a b,jh [.rol 2.0,.int k] S=Y (.ref S.length,S++[.lst [.int a,.int b,.int 0]])/\0<=a/\0<=b/\b<2147483647:=by
 rw[a5k];exact a1p (N:=N__law_left) (cellAt:=fO) (far:=jY) rfl h0 h1 (λS k h=>by rw[uF];exact a1o (N:=N__law_cell_at) rfl h) (λS=>by rw[a5j];exact a1m (N:=N__law_far) rfl)
def a6l(S:aa)(ws:List Wd)(i:Nat)(w:Wd)(h:i<ws.length)(hl:ws.length<=100):eW [Mx ws,.int (i:Int),w.d] S=Y 1.74:=by
 rw[a5o];exact a1D (N:=N__law_put) rfl h hl
def seOk:Na gz jg eW:=
 #[λS r es hl=>by rw[wc];exact a1P (N:=N__law_fronts) rfl hl,λS r ws wr=>by rw[a5p];exact a1F (N:=N__law_lets) rfl,a6l]
def yN:XZ dh:=λS r R h hl=>by
 rw[uE];exact a21 seOk (N:=N__law_settled) rfl h hl
def doOk:qak jZ ip dh gy eW:=
 ⟨λS R dd hl hd=>by rw[a5q];exact a29 (N:=N__law_can) rfl hl hd,
 λS r R wr g t h hl hw hs=>by rw[ym];exact a2h yN (N:=N__law_asked) rfl h hl hw hs,
 yN,λS r w es hl=>by rw[vZ];exact a2a (N:=N__law_marked) rfl hl,a6l⟩
def rowOk:RowOk ji di:=
 ⟨λS r n P h1 h5=>by rw[a5n];exact a23 qb (N:=N__law_deed) rfl P h1 0.0,
 λS rl R dd h hl hd=>by rw[a5r];exact a2u doOk (N:=N__law_done) rfl h hl hd⟩
def rule(P:Pk S r):∃ (rl:Rl) (S':aa),hU [.ref r] S=Y (rl.d,S')/\rl.Ok/\Pk S' r/\Keep r S S':=by
 rw[a5m];obtain⟨x,a,b,c,S',e,R,P',K⟩:=a1v (pick:=cx) qb (N:=N__law_rule) rfl P;obtain⟨w,rfl⟩:=a1y R.w;exact#[#[w,a,b,c],S',e,#[R.a0,R.a5,R.b0,R.b9,R.c0,R.c1],P',K]
theorem Uo:RU cG:=λS R l hl=>by rw[vX];exact a2B (N:=N_guests_with) rfl hl
def vh:FI cD:=λS R g hl=>by rw[vV];exact a2D Uo (N:=N_waiting) rfl hl
theorem Cr:QT il:=#[λS r R g hl=>by rw[yZ];exact a2G vh (N:=N_can_go) rfl hl,λS r ws hl=>by rw[yZ];exact a39 (λS=>by rw[vV];exact a38 Uo (N:=N_waiting) rfl hl) (N:=N_can_go) rfl]
def a6m(S:aa)(r:Rl)(R:Rm)(hl:R.1.length<=100)(hl2:R.2.length<=100):lQ [r.d,Dk R] S=Y (CQ (UR r R),S):=by
 rw[a5w];exact a2S (λS r R hl=>by rw[a5v];exact a2Q Cr (N:=N_next_past) rfl hl) (λS w es hw hl=>by rw[a5u];exact a2O (N:=N_foremost) rfl hw hl) Cr (N:=N_next_in) rfl hl hl2
def a6n(S:aa)(r:Rl)(R:Rm)(hl:R.1.length<=100)(hl2:R.2.length<=100):lR [r.d,Dk R] S=Y 2.31:=by
 rw[a5x];exact a3f Uo Cr a6m (N:=N_coming) rfl hl hl2
theorem Kh(S:aa)(R:Rm)(g:Nat)(w:Wd)(h:g<R.1.length)(hl:R.1.length<=100):bQ [Dk R,.int (g:Int),w.d] S=Y (Dk (R.1.set g w,R.2),S):=by
 rw[a5y];exact a3a (N:=N_with_word) rfl h hl
def stOk:qad im lR:=⟨a6n,λS r R v R' l h hl s=>by
 rw[yh]
 exact a3g Kh (λS r R i e h hi hl=>by rw[a5z];exact a3e Kh (N:=N_let_in) rfl h hi hl) (N:=N_brought_by) rfl h hl s⟩
def a6o{r:Rl}(hb:0<=r.b)(h:ROk R)(hl:R.1.length<=50):du [r.d,Dk R] S=Y (.tup [Dk (JK r R).1,EI (JK r R).2],S++[.lst ((JK r R).2.map Ev.d)]):=by
 rw[a5A];exact a3h stOk hb (N:=N_settled) rfl h hl
theorem NP:Kc du:=λS r R hb h hl=>a6o hb h hl
def woOk:A1c cR:=λS R g hl=>by rw[uD,show EY=AC from rfl];exact a3u (N:=N_without_wait) rfl hl
theorem Sz:VF bF:=λS r R l hb h hl h4=>by rw[qO,show Jq=AF du from rfl];exact a3v NP (N:=N_settled_behind) rfl hb h hl h4
def tuOk:TuOk ik:=λS r R g w hw hl=>by rw[a5D,show DX=AD from rfl];exact a3y (N:=N_turned) rfl hw hl
def olOk(S:aa)(t:Option Int):iL [IU t] S=Y (IU (t.map (· - 1)),S):=by rw[a5E,show Eg=Mg from rfl];exact a3E (N:=N_one_less) rfl
def deOk:DeOk du cD cG bQ:=#[NP,vh,Uo,Kh]
def brOk:BrOk fN iO gl ft gk gj:=
 ⟨λS r R wr g t hb h hl hw hs=>by rw[a5B,show EX=Tr du cD cR from rfl];exact a3z NP vh woOk (N:=N_bring_ask) rfl hb h hl hw hs,
 λS r R g hb h hl hw=>by rw[a5C,show EW=Lj du cD cG bQ from rfl];exact a3A deOk (N:=N_bring_up) rfl hb h hl hw,
 λS r R g w hb h hl hw ho=>by rw[yk,show qS=DC bF bQ ik Wd.reads.s "down" from rfl];exact a3B Sz Kh tuOk (N:=N_bring_down) rfl hb h hl hw ho 4.6 rfl 0.1 rfl,
 λS r R g w hb h hl hw ho=>by rw[vY,show Bv=DC bF bQ ik Wd.out.s "out" from rfl];exact a3B Sz Kh tuOk (N:=N_bring_leave) rfl hb h hl hw ho 3.22 rfl 0.1 rfl,
 λS r R g w hb h hl hw hc=>by rw[yj,show qR=HZ bF bQ cR cD from rfl];exact a3D Sz Kh woOk vh (N:=N_bring_stop) rfl hb h hl hw hc,
 λS r R hb h hl=>by rw[yi,show qQ=qI bF iL from rfl];exact a3F Sz olOk (N:=N_bring_tick) rfl hb h hl⟩
def pdone{r:Rl}{dd:Dd}(hb:0<=r.b)(h:ROk R)(hl:R.1.length<=50)(hd:dd.Ok R.1.length)(hx:XU r R dd=Y x):∃ T,qp [r.d,Dk R,dd.d] S=Y (Tj x,S++T):=by
 rw[a5F,show OW=Ks (A1g fN iO gl ft gk gj) from rfl];exact a3G brOk (N:=N_done) rfl hb h hl hd hx
def tofOk:WK dJ:=λS xs k=>by rw[vW,show Ek=AE from rfl];exact a3H (N:=N_is_tuple_of) rfl
def a6p:RT hJ:=λS x ys h=>by rw[a5G,show Ep=SW from rfl];exact a3I (N:=N_is_word) rfl h
def betOk:WM dZ:=λS i lo hi=>by rw[yg,show qP=HB jW from rfl];exact a3K (λS i=>by rw[a5H,show Js=LG from rfl];exact a3J (N:=N_is_whole) rfl) (N:=N_is_between) rfl
def a6q{dd:Dd}(hd:dd.Ok n):iN [.int (n:Int),dd.d] S=Y 3.7:=by
 rw[a5I,show Ji=XI dJ hJ dZ from rfl];exact a3L tofOk a6p betOk (N:=N_is_deed) rfl hd
def canDo{R:Rm}{dd:Dd}(hl:R.1.length<=100)(hd:dd.Ok R.1.length)(hc:IW R dd=true):jX [Dk R,dd.d] S=Y 3.7:=by
 rw[a5J,show DZ=Ys cD from rfl];by_cases ht:dd=.tick
 ·subst ht;exact a3M (N:=N_can_do) rfl
 ·rw[a3p vh (N:=N_can_do) rfl hl hd ht,hc]
def a6r{r:Rl}{dd:Dd}(h:ROk R)(hl:R.1.length<=50)(hd:dd.Ok R.1.length):∃ T,di [r.d,Dk R,dd.d] S=Y (WX (XU r R dd),S++T):=rowOk.dn S r R dd h hl hd
def a6s(S:aa)(n:Nat)(h5:n<=5):iW [.int (n:Int)] S=Y 1.56:=by rw[a5t,show Jh=Kf from rfl];exact a3O (N:=N_empty) rfl h5
def rnOk:VG iN jX qp iW:=#[λS n dd hd=>a6q hd,λS R dd hl hd hc=>canDo hl hd hc,λS r R dd x hb h hl hd hx=>pdone hb h hl hd hx,a6s]
def ranOk{r:Rl}{n:Nat}(hb:0<=r.b)(h5:n<=5)(w:Ws r (JZ n) l xs)(hd:∀ d∈l,d.Ok n)(hl:l.length<=200):∃ S',zH [r.d,.int (n:Int),.tup 0.8] S=Y (Oe (JZ n) xs,S')/\∀ i,i<S.length->S'[i]?=S[i]?:=by
 obtain⟨S1,e1,q1,K1⟩:∃ S',lP [r.d,.int (n:Int),.tup 0.8] S=Y (.ref S.length,S')/\S'[S.length]?=Y (.lst ((FX (JZ n) xs).map Ko))/\∀ i,i<S.length->S'[i]?=S[i]?:=by
  rw[a5K,show DU=Kg iN jX qp iW from rfl];exact a3R rnOk hb (N:=N_walked) rfl h5 w hd 0.0
 refine#[S1,?_,K1];rw[a5L,show VY=AG lP iW from rfl];exact a3W a6s (N:=N_ran) rfl h5 (by rw[w.len];omega) e1 q1
def a6t:IB gZ:=λS g w l=>by rw[a5M,show Et=Xz from rfl];exact a40 (N:=N_wait_told) rfl
def a6u{r:Rl}{n:Nat}(hb:0<=r.b)(h5:n<=5)(w:Ws r (JZ n) l xs)(hd:∀ d∈l,d.Ok n)(hl:l.length<=200):∃ S',oh [r.d,.int (n:Int),.tup 0.8] S=Y (.tup ((QY l xs).map qE),S')/\∀ i,i<S.length->S'[i]?=S[i]?:=by
 rw[a5N,show DV=Dz zH gZ from rfl];exact a4e a6t (N:=N_waited) rfl w (w.few hV (by simp[JZ];exact h5)) hl λS=>ranOk hb h5 w hd hl
def qaf{q:Nat}(P:Pk S r)(h:q≠r):Pk (S.set q c) r:=by
 obtain⟨a,b,d,e,z⟩:=P;exact#[a,b,d,by rw[aaq h];exact e,z]
def a6v{r:Rl}{n:Nat}(hf:Ez r.w)(h3:3<=n)(h5:n<=5)(hb:0<=r.b)(hb':r.b<=9) :
  jf [r.d,.int (n:Int)] S=Y (.tup [.int (He r n false:Nat),.int (He r n true:Nat)],S):=by
 obtain⟨w,a,b,c⟩:=r;rw[a5s,ca (show [(Rl.mk w a b c).d,D.int (n:Int)].length=2 from rfl),show FV N_told_most [(Rl.mk w a b c).d,D.int (n:Int)]=[Y (.tup [.str w.s,.int a,.int b,.int c]),Y 1.3,J,J,J,J,J] from rfl];have mu:∀ S (i j:Int),0<=i->i<=5->Tt S (.int i) (.int j)=Y (.int (i*j)):=λS i j h0 h1=>iP (nL 0.0 0.0);have dv:∀ S (i:Int),Fo S (.int i) (.int 2)=Y (.int (i / 2)):=λS i=>HJ 0.1 0.1;have bt:((b.toNat:Nat):Int)=b:=Int.toNat_of_nonneg hb;have hn:n=3\/n=4\/n=5:=by omega
 by_cases ha:a=0
 ·subst ha;rcases hf with q | q | q<;>cases q<;>rcases hn with rfl | rfl | rfl<;>simp (decide:=true) [Er,Rw.s,a1x,ju,mu,dv,He,Hc,Hi,bt]
 ·rcases hf with q | q | q<;>cases q<;>rcases hn with rfl | rfl | rfl<;>simp (decide:=true) [Er,Rw.s,a1x,ju,mu,dv,He,Hc,Hi,bt,ha,aaQ.mpr ha]
def A1p:MS:=bU (cM (aC (az On 1.67 (!"stop"))) (aC (az Zq (ax 2 cx (ac '0' (ac 4e0 am))) 0e0))) (aN (aW (ac (!"leave") (ac (az GD '7' 1e0) am))) 'g') ba
def A1q:MS:=bU (cM (aC (az SY 1.67 (aW (ac (!"read") (ac (!"write") am))))) (aC (az Zq (ax 2 cx (ac '0' 2.04)) 0e0))) (aN (az OE (bz '7' bA (bV 2e0)) (aW 2.83)) 'g') ba
def A1r:MS:=aF (aN (ax 3 di (ac '1' (ac '4' (ac '7' am)))) 'h') (bU (aC (az qr '8' 3.1)) (aF (dg (dH OG '5' (ac '7' am))) (aN (az GD '8' 0e0) 'd')) ba)
def Bx:MS:=aF (aN (ax 2 ji (ac '0' 3.8)) 'g') (aF A1p (aF A1q A1r))
section
variable{S:aa}{p n:Nat}{d:Dd}{a1 a2 a3 a4 a5 a6 a8:Option D}
def a6w(P:Pk S p)(hd:d.Ok n):∃ (d':Dd) (S':aa),A1p [Y (.ref p),a1,a2,a3,a4,a5,a6,Y d.d,a8] S=Y (.nx [Y (.ref p),a1,a2,a3,a4,a5,a6,Y d'.d,a8] S')/\d'.Ok n/\Pk S' p/\Keep p S S':=by
 have d0:GD S d.d (.int 0)=Y 1.57:=dd0 d;by_cases hs:(Ja d==("stop":Str))=true
 ·obtain⟨m,S2,e2,m0,m4,P2,K2⟩:=qb S _ 4 P 0.1 0.1
  obtain⟨k,g,rfl⟩:∃ k g,d=.act k g:=by
   cases d with
   | tick=>exact absurd hs (by decide +kernel)
   | ask wr g t=>
    cases wr with
    | false=>exact absurd hs (show ¬ (("read":Str)=="stop")=true by decide +kernel)
    | true=>exact absurd hs (show ¬ (("write":Str)=="stop")=true by decide +kernel)
   | act k g=>exact#[k,g,rfl]
  by_cases h0:0<m
  ·refine#[.act .leave g,S2,?_,hd,P2,K2];have d1:GD S2 (Dd.act k g).d (.int 1)=Y 0.4:=rfl;simp![A1p,dm,d0,cr,hs,gi,e2,Fl,aaj h0,d1];rfl
  ·refine#[.act k g,S2,?_,hd,P2,K2];simp![A1p,dm,d0,cr,hs,gi,e2,Fl,aao h0]
 ·refine#[d,S,?_,hd,P,Keep.refl];simp![A1p,dm,d0,cr,Bool.not_eq_true _ |>.mp hs,ig]
def a6x(P:Pk S p)(hd:d.Ok n):∃ (d':Dd) (S':aa),A1q [Y (.ref p),a1,a2,a3,a4,a5,a6,Y d.d,a8] S=Y (.nx [Y (.ref p),a1,a2,a3,a4,a5,a6,Y d'.d,a8] S')/\d'.Ok n/\Pk S' p/\Keep p S S':=by
 have d0:GD S d.d (.int 0)=Y 1.57:=dd0 d;have dw:=Co (S:=S) d;cases d with
 | ask wr g t=>
  have dw:SY S 9.4 (.tup [.str "read",.str "write"])=Y 8.3:=dw;obtain⟨m,S2,e2,m0,m4,P2,K2⟩:=qb S _ 3 P 0.1 0.1;by_cases h0:0<m
  ·refine#[.ask wr g J,S2,?_,#[hd.1,λk h=>by cases h],P2,K2];have sl:∀ (l h:Option Int),Dn (Dd.ask wr g t).d l (h,S2)=Y (.tup (XB [.str (SJ wr),.int (g:Int),IU t] l h),S2):=λl h=>rfl;have ct:XB [.str (SJ wr),.int (g:Int),IU t] J (Y 2)=[.str (SJ wr),.int (g:Int)]:=rfl;have ad:OE S2 (.tup [.str (SJ wr),.int (g:Int)]) (.tup [.non])=Y (Dd.ask wr g J).d:=fQ 0.3;simp![A1q,dm,d0,dw,gi,e2,Fl,aaj h0,cE,eQ,cL,eO,dj,dq,sl,ct,uG,ad]
  ·refine#[.ask wr g t,S2,?_,hd,P2,K2];simp![A1q,dm,d0,dw,gi,e2,Fl,aao h0]
 | tick=>
  have dw:SY S (.str (Ja .tick)) (.tup [.str "read",.str "write"])=Y 3.9:=dw;refine#[.tick,S,?_,hd,P,Keep.refl];simp![A1q,dm,d0,dw,ig]
 | act k g=>
  have dw:SY S (.str 2.29) (.tup [.str "read",.str "write"])=Y 3.9:=dw;refine#[.act k g,S,?_,hd,P,Keep.refl];simp![A1q,dm,d0,dw,ig]
end
def QV:MS:=aF (aN (aW (ac (az Tt (aW (ac (!"out") am)) '2') 1.70)) 'd') (aF (aN (dD am) 'e') (aF (hZ (cC 4.0) 'f' Bx) (bp (bB 2.2 (ac '5' am)))))
def sI:eY=Gw N__law_long_row QV 4:=jk rfl
def a6y{n m:Nat}{rl:Rl}(P:Pk S r)(h1:1<=n)(h5:n<=5)(hm:m<=400) :
  ∃ (l:List Dd) (R:Rm) (S':aa),eY [.ref r,rl.d,.int (n:Int),.int (m:Int)] S=Y (.tup 0.8,S')/\Behind rl n l R/\l.length<=m/\Pk S' r:=by
 rw[sI,ca (show [D.ref r,rl.d,D.int (n:Int),D.int (m:Int)].length=4 from rfl),show FV N__law_long_row [D.ref r,rl.d,D.int (n:Int),D.int (m:Int)]=[Y (.ref r),Y rl.d,Y 1.3,Y 1.88,J,J,J,J,J] from rfl];have hq:S.length≠r:=λz=>by have:=P.lt;omega
 have kr:∀ S,Wc ([.int (m:Int)],S)=Y (FW 0 m,S):=λS=>by rw[sS 0.0 0.0,abf]
 have e0:=HW (S:=S) (n:=n) (i:=2) (env:=[Y (.ref r),Y rl.d,Y 1.3,Y 1.88,J,J,J,J,J]) h5 (by simp only[ak,bJ,bN,bM,oj,ob,aj])
 obtain⟨env',S',e2,R,l,o6,o7,o8,rfl,P3,hc,B,hle⟩:=forR (tg:=ai 6) (p:=Bx) (lo:=0) (λi env T=>∃ (R:Rm) (l:List Dd) (o6 o7 o8:Option D),env=[Y (.ref r),Y rl.d,Y 1.3,Y 1.88,Y (Dk R),Y 0.6,o6,o7,o8]/\Pk T r/\T[S.length]?=Y (.lst 0.8)/\Behind rl n l R/\l.length<=i) m
  (λi hi env T hI=>by
   obtain⟨R,l,o6,o7,o8,rfl,P,hc,B,hle⟩:=hI;obtain⟨ok,hn⟩:=B.ok;obtain⟨d1,S1,e1,od1,P1,K1⟩:=rowOk.de T r n P h1 h5;obtain⟨d2,S2,e2,od2,P2,K2⟩:=a6w (a1:=Y rl.d) (a2:=Y 1.3) (a3:=Y 1.88) (a4:=Y (Dk R)) (a5:=Y 0.6) (a6:=Y (.int (0+(i:Int)))) (a8:=o8) P1 od1;obtain⟨d3,S3,e3,od,P3,K3⟩:=a6x (a1:=Y rl.d) (a2:=Y 1.3) (a3:=Y 1.88) (a4:=Y (Dk R)) (a5:=Y 0.6) (a6:=Y (.int (0+(i:Int)))) (a8:=o8) P2 od2;obtain⟨T2,e4⟩:=rowOk.dn S3 rl R d3 ok 0.0 (by rw[hn];exact od);have K:=Keep.trans K1 (Keep.trans K2 K3);have hql:S.length<T.length:=(aaa.mp hc).1
   have c1:(S3++T2)[S.length]?=Y (.lst 0.8):=by
    rw[aap (by rw[K.2];exact hql),K.1 _ hq,hc]
   cases hd:XU rl R d3 with
   | none=>
    rw[hd] at e4;have e4':di [rl.d,Dk R,d3.d] S3=Y (.non,S3++T2):=e4;refine#[_,_,_,_,aP,?_,R,l,Y (.int (0+(i:Int))),Y d3.d,Y .non,rfl,P3.appT,c1,B,by omega];simp only[Bx,A1r,aR,bq,aJ,ar,ak,bJ,bN,bM,oj,ob,aj,aq,ay,ao,bj,e1,bu,aP,eR,eU,bL,aH,e2,e3,bO,e4',aZ,aE,aG,av,bd,au,rK,qk,aaS,aD,bE,bi]
   | some x=>
    rw[hd] at e4;have e4':di [rl.d,Dk R,d3.d] S3=Y (.tup [Dk x.1,EI x.2],S3++T2):=e4
    have ap:OG 0.6 [d3.d] (S3++T2)=Y (.non,(S3++T2).set S.length (.lst ((l++[d3]).map Dd.d))):=by
     rw[lS c1 2.8];simp
    have km:∀ f ms env,YU f ms env (.ref S.length,S3++T2)=(ms env (S3++T2)).bind (IS f 0.6):=λf ms env=>oR c1;have hql2:S.length<(S3++T2).length:=(aaa.mp c1).1;refine#[_,_,_,_,aP,?_,x.1,l++[d3],Y (.int (0+(i:Int))),Y d3.d,Y (.tup [Dk x.1,EI x.2]),rfl,qaf P3.appT hq,aaw hql2,B.snoc od hd,by simp;omega]
    simp only[Bx,A1r,aR,bq,aJ,ar,ak,bJ,bN,bM,oj,ob,aj,aq,ay,ao,bj,e1,bu,aP,eR,eU,bL,aH,e2,e3,bO,e4',aZ,aE,aG,av,bd,au,rK,qk,aaY,aD,bR,ia,jz,km,dX,ap,ie,fIx_t,at2])
  _ _ #[JZ n,[],J,J,J,rfl,P.appT,gC,.nil,abG _]
 refine#[l,R,S',?_,B,hle,P3];simp only[QV,aR,bq,e0,ob,bu,aP,eR,eU,bL,aH,mD,ay,Uc,sK,jI,ar,ak,bJ,bN,bM,oj,aj,aq,ao,kr,sU]
 erw [e2]
 simp only[ob,aH,aX,bX,ar,ay,ak,bJ,bN,bM,oj,aj,aq,ao,bY,zI hc,bH,aM]
def LY(bg:Bg):List (bK×D):=bg.map λp=>(.inl (p.1:Int),.int (p.2:Int))
def HS(x:Nat×Str×Nat):Cell:=.lst [.int (x.1:Int),.str x.2.1,.int (x.2.2:Int)]
structure Hd(S:aa)(F b:Nat)(rs:List Nat)(fd:Fd)(bg:Bg):Prop where
 f:S[F]?=Y (.lst (rs.map .ref))
 d:S[b]?=Y (.dct ((LY bg).map (·.1)) ((LY bg).map (·.2)))
 ln:rs.length=fd.length
 at_:∀ (j q:Nat) x,rs[j]?=Y q->fd[j]?=Y x->S[q]?=Y (HS x)
 nd:rs.Nodup
 nF:F∉rs
section
variable{S:aa}{F b:Nat}{rs:List Nat}{fd:Fd}{bg:Bg}
def Hd.app(h:Hd S F b rs fd bg)(T:aa):Hd (S++T) F b rs fd bg:=
 have ap:∀ {i:Nat} {x:Cell},S[i]?=Y x->(S++T)[i]?=Y x:=λh=>by rw[aap (aaa.mp h).1];exact h
 #[ap h.f,ap h.d,h.ln,λj q x a c=>ap (h.at_ j q x a c),h.nd,h.nF]
def Hd.get(h:Hd S F b rs fd bg){j:Nat}(e:fd[j]?=Y x):∃ q,rs[j]?=Y q/\S[q]?=Y (HS x)/\q≠b/\q≠F:=by
 have hj:j<rs.length:=by rw[h.ln];exact(aaa.mp e).1
 have hq:=aae hj;refine#[_,hq,h.at_ _ _ _ hq e,λz=>?_,λz=>h.nF (z ▸ abP hj)];have:=h.at_ _ _ _ hq e;rw[z,h.d] at this;cases this
theorem Ch{g:Nat}:∀ {bg:Bg} {i:Nat},(bg.map (·.1)).Nodup->(g,i)∈bg->Oi (LY bg) 2.48=Y 6.3
 | p::bg,i,nd,h=>by
  rw[List.map_cons,aaV] at nd;unfold LY Oi;rw[List.map_cons];dsimp only;rcases aav.mp h with rfl | h
  ·exact aam rfl
  ·have:¬ 2.15=.inl (g:Int):=λz=>nd.1 (by
    have:p.1=g:=aek (adP z)
    rw[this];exact aai.mpr #[_,h,rfl])
   rw[if_neg this];exact Ch nd.2 h
theorem HV{g:Nat}:∀ {bg:Bg},g∉bg.map (·.1)->Oi (LY bg) 2.48=J/\EM (LY bg) 2.48=false/\gone g bg=bg
 | [],_=>#[rfl,rfl,rfl]
 | p::bg,h=>by
  rw[List.map_cons,aav,not_or] at h;have:¬ 2.15=.inl (g:Int):=λz=>h.1 (aek (adP z)).symm;obtain⟨a,c,e⟩:=HV h.2;refine#[?_,?_,?_]
  ·unfold LY Oi;rw[List.map_cons];dsimp only;rw[if_neg this];exact a
  ·unfold LY EM;rw[List.map_cons];dsimp only;rw[if_neg this];exact c
  ·unfold gone;rw[aaG,aam (aaj (Ne.symm h.1))];congr 1
def a6z{g:Nat}:∀ {bg:Bg},LI (LY bg) 2.48=LY (gone g bg)
 | []=>rfl
 | p::bg=>by
  have ih:=a6z (g:=g) (bg:=bg);unfold LY LI;rw[List.map_cons];dsimp only;unfold gone;rw[aaG];by_cases e:p.1=g
  ·rw[aam (by rw[e]),if_neg (by simp[e])];exact ih
  ·have ne:¬ 2.15=.inl (g:Int):=λz=>e (aek (adP z));rw[if_neg ne,aam (aaj e),List.map_cons];exact congrArg _ ih
def a6A(h:Hd S F b rs fd bg)(nd:(bg.map (·.1)).Nodup)(g:Nat):∃ v S',Do (.ref b) [.int (g:Int),.non] S=Y (v,S')/\Hd S' F b rs fd (gone g bg):=by
 have hF:b≠F:=λz=>by have:=h.d;rw[z,h.f] at this;cases this
 by_cases m:g∈bg.map (·.1)
 ·obtain⟨⟨g',i⟩,hm,rfl⟩:=aai.mp m;have vd:=Ch nd hm;refine#[.int (i:Int),S.set b (.dct ((LY (gone g' bg)).map (·.1)) ((LY (gone g' bg)).map (·.2))),?_,#[?_,aaw (aaa.mp h.d).1,h.ln,λj q x a c=>?_,h.nd,h.nF]]
  ·simp only[Do,h.d,OA,nu];show(Option.some (Sum.inl (g':Int)):Option bK).bind _=_;simp only[ob,vd,a6z]
  ·rw[aaq hF];exact h.f
  ·obtain⟨q',h1,h2,h3,w⟩:=h.get c;rw[a] at h1;cases h1;rw[aaq (Ne.symm h3)];exact h2
 ·obtain⟨vd,w,e⟩:=HV m;refine#[.non,S,?_,by rw[e];exact h];simp only[Do,h.d,OA,nu];show(Option.some (Sum.inl (g:Int)):Option bK).bind _=_;simp only[ob,vd]
def a6B{a0 a1 a2 a3 a4 a5 a6 a7 a8 a9:Option D}:∀ (l:Bg) {S:aa} {fd:Fd} {a10:Option D},Hd S F b rs fd bg->(∀ p∈l,Oi kvs (.inl (p.1:Int))=Y (.int (p.2:Int))/\p.2<fd.length) ->
  ∃ b10 S',JV 10 F kvs ((LY l).map (·.1)) [a0,a1,a2,a3,a4,a5,a6,a7,a8,a9,a10] S=Y (.nx [a0,a1,a2,a3,a4,a5,a6,a7,a8,a9,b10] S')/\Hd S' F b rs (WI fd l) bg
 | [],S,fd,a10,h,_=>#[a10,S,rfl,h]
 | p::l,S,fd,a10,h,hv=>by
  obtain⟨v1,v2⟩:=hv p aab;obtain⟨q,h1,h2,h3,h4⟩:=h.get (aae v2)
  have hix:AK (rs.map D.ref) (p.2:Int)=Y (.ref q):=by
   rw[Iw 0.0 (by rw[aaf,h.ln];omega)];simp only[List.getElem_map,abf,(aaa.mp h1).2]
  have b1:FC F (.int (p.2:Int)) S=Y (S.set q (HS (JT fd[p.2]))):=by
   unfold FC;simp only[h.f,hix,h2,HS];rfl
  have hd':Hd (S.set q (HS (JT fd[p.2]))) F b rs 2.81 bg:=by
   refine#[?_,?_,by rw[adp];exact h.ln,λj q' x a c=>?_,h.nd,h.nF]
   ·rw[aaq h4];exact h.f
   ·rw[aaq h3];exact h.d
   ·rw[aeA] at c;by_cases e:p.2=j
    ·subst e;rw[h1] at a;cases a;rw[aae v2] at c;have:x=JT fd[p.2]:=by simpa using c.symm
     rw[this];exact aaw (aaa.mp h2).1
    ·have c':fd[j]?=Y x:=by
      cases z:fd[j]? with
      | none=>rw[z] at c;cases c
      | some y=>rw[z] at c;simpa[e] using c
     have nq:q≠q':=λz=>by
      subst z;obtain⟨u1,u2⟩:=aaa.mp h1;obtain⟨w1,w2⟩:=aaa.mp a;exact e ((adH h.nd).mp (u2.trans w2.symm))
     rw[aaq nq];exact h.at_ _ _ _ a c'
  obtain⟨b10,S',e,h'⟩:=a6B l (a10:=Y (.int (p.1:Int))) hd' λy hy=>#[(hv y 1.60).1,by rw[adp];exact(hv y 1.60).2]
  refine#[b10,S',?_,h'];show((Oi kvs (.inl (p.1:Int))).bind λx=>(FC F x S).bind λS'=>_)=_;rw[v1,ob,b1,ob];exact e
end
def A1s:ME:=dP Do '5' (ac '9' 2.83)
def A1t:MS:=bU (aC (az On '8' (!"in"))) (aF (dg A1s) (iA 4 5 10)) ba
def A1u:MS:=bU (aC (az On '8' (!"ends"))) (dg A1s) ba
def A1v:MS:=aF (aN (bB (Gz Op) 5.8) (lO '5' '9')) (dg (dH OG '4' (ac (dD (ac '9' (ac 2.24 2.50))) am)))
def A1w:MS:=bU (cM (aC (az On '8' (!"waits"))) (aC (az SY 2.24 (aW (ac (!"read") (ac (!"write") am)))))) A1v ba
def WS:MS:=aF A1t (aF A1u A1w)
def A1x:MS:=aF (aN (ax 3 di 2.75) (aQ 2 (ah 'c' 1.69))) (dU '7' 1.72 WS)
noncomputable def qT:MS:=aF (aN (aW (ac (az Tt (aW (ac (!"out") am)) '1') 1.70)) 'c') (aF 1.24 (aF (aN (dF []) 'e') (aF (dU '2' 'f' A1x) (bp '4'))))
def yl:io=Gw N__law_waits qT 3:=jk rfl
section
variable{S:aa}{F b:Nat}{rs:List Nat}{fd:Fd}{bg:Bg}{d:Dd}{a0 a1 a2 a3 a7 a10:Option D}
def qa0:iA 4 5 10 env S=M.iA 4 5 10 env S:=by rw[nT]
def a6C(d:Dd):SY S 1.57 (.tup [.str "read",.str "write"])=Y (.bl (Sk (Ja d))):=by
 rw[Co];cases d with
 | tick=>exact congrArg (λb=>Y (D.bl b)) (show false=Sk "tick" by decide +kernel)
 | act k g=>rw[show Sk 2.29=false from CB k]
 | ask wr g t=>rw[show Sk (Ja (.ask wr g t))=true from Ab wr]
def a6D(h:Hd S F b rs fd bg)(gd:Gd (fd,bg))(e:Ev)(hf:Jw (Ja d,e)=true->e.g∉bg.map (·.1)/\bg.length<=400/\fd.length<900) :
  ∃ b10 S' rs',WS [a0,a1,a2,a3,Y (.ref F),Y (.ref b),Y d.d,a7,Y 1.31,Y 2.59,a10] S=Y (.nx [a0,a1,a2,a3,Y (.ref F),Y (.ref b),Y d.d,a7,Y 1.31,Y 2.59,b10] S')/\Hd S' F b rs' (WH (Ja d,e) (fd,bg)).1 (WH (Ja d,e) (fd,bg)).2:=by
 have d0:∀ S,GD S d.d (.int 0)=Y 1.57:=λS=>dd0 d;have ww:=λS=>a6C (S:=S) d;have km:∀ f ms env,Pr f ms env (.ref b,S)=(ms env S).bind (IS f (.ref b)):=λf ms env=>a17 h.d;unfold WH;by_cases h1:e.w=Mb
 ·rw[aam h1];obtain⟨v,S1,p1,hd1⟩:=a6A h gd.nd e.g;have gg:=gd.gone e.g
  obtain⟨b10,S2,e2,hd2⟩:=a6B (a0:=a0) (a1:=a1) (a2:=a2) (a3:=a3) (a4:=Y (.ref F)) (a5:=Y (.ref b)) (a6:=Y d.d) (a7:=a7) (a8:=Y 1.31) (a9:=Y 2.59) (a10:=a10) (kvs:=LY (gone e.g bg)) (gone e.g bg) hd1 λp hp=>by
   refine#[Ch gg.nd hp,?_];obtain⟨w,c,q⟩:=gg.at_ p hp;exact(aaa.mp q).1
  refine#[b10,S2,rs,?_,hd2];have q1:(e.w==("in":Str))=true:=beq_iff_eq.mpr h1;have q2:(e.w==("ends":Str))=false:=by rw[h1];decide +kernel
  have q3:(e.w==("waits":Str))=false:=by rw[h1];decide +kernel
  have bm:M.iA 4 5 10 [a0,a1,a2,a3,Y (.ref F),Y (.ref b),Y d.d,a7,Y 1.31,Y 2.59,a10] S1=Y (.nx [a0,a1,a2,a3,Y (.ref F),Y (.ref b),Y d.d,a7,Y 1.31,Y 2.59,b10] S2):=by
   rw[<- e2];unfold M.iA;show(match S1[b]? with | some 7.6=>_ | _=>J)=_;rw[hd1.d];dsimp only;rw[nu];rfl
  simp![WS,A1t,A1u,A1w,A1s,cr,q1,ia,wv,km,dX,p1,ie,qa0,bm,q2,dm,q3,ig]
 ·rw[if_neg h1];have q1:(e.w==("in":Str))=false:=aaQ.mpr h1;by_cases h2:e.w=FE
  ·rw[aam h2];obtain⟨v,S1,p1,hd1⟩:=a6A h gd.nd e.g;have q2:(e.w==("ends":Str))=true:=beq_iff_eq.mpr h2;have q3:(e.w==("waits":Str))=false:=by rw[h2];decide +kernel
   refine#[a10,S1,rs,?_,hd1];simp![WS,A1t,A1u,A1w,A1s,cr,q1,q2,ia,wv,km,dX,p1,ie,dm,q3,ig]
  ·rw[if_neg h2];have q2:(e.w==("ends":Str))=false:=aaQ.mpr h2;cases aw:Jw (Ja d,e) with
   | false=>
    rw[if_neg aeI];refine#[a10,S,rs,?_,h];have aw:(e.w==("waits":Str)&&Sk (Ja d))=false:=aw;simp![WS,A1t,A1u,A1w,cr,q1,q2,dm];cases q3:(e.w==("waits":Str)) with
    | false=>simp only[ig,ob,bE,bi]
    | true=>
     rw[q3,acr] at aw;simp![gi,d0,ww,aw]
   | true=>
    rw[aam rfl];obtain⟨f1,f2,f3⟩:=hf aw;have aw:(e.w==("waits":Str)&&Sk (Ja d))=true:=aw;rw[aag] at aw;obtain⟨vd,hk,u⟩:=HV f1;have hbF:b≠F:=λz=>by have:=h.d;rw[z,h.f] at this;cases this
    have fl:Gz Op [.ref F] S=Y (.int (fd.length:Nat),S):=by rw[a1u h.f,aaf,h.ln]
    have pd:HA (LY bg) (.inl 1.8) (.int (fd.length:Int))=LY (bg++[1.66]):=by
     unfold HA;rw[hk];unfold LY;rw[aaI];rfl
    generalize hS1:S.set b (.dct ((LY (bg++[1.66])).map (·.1)) ((LY (bg++[1.66])).map (·.2)))=S1
    have ks:∀ env,BH (.ref b) (.int (fd.length:Int)) env (.int 1.8,S)=Y (env,S1):=λenv=>by
     unfold BH;simp only[h.d,OA,nu];show(Option.some (Sum.inl 1.8):Option bK).bind _=_;simp only[ob];rw[aam (by rw[aaf];unfold LY;rw[aaf];omega),pd,hS1]
    have lb:=(aaa.mp h.d).1;have sF:S1[F]?=Y (.lst (rs.map .ref)):=by rw[<- hS1,aaq hbF];exact h.f
    have sl:S1.length=S.length:=by rw[<- hS1,abY]
    have sd:S1[b]?=Y (.dct ((LY (bg++[1.66])).map (·.1)) ((LY (bg++[1.66])).map (·.2))):=by rw[<- hS1];exact aaw lb
    have kl:∀ xs:List D,xs.length<=1000->Ms (xs,S1)=Y (.ref S1.length,S1++[.lst xs]):=λxs hx=>nU hx;have k3:Ms ([.int 1.8,.str (Ja d),.int 0],S1)=Y (.ref S1.length,S1++[HS 2.23]):=kl _ 0.3;have lF:=(aaa.mp sF).1;have ap2:∀ {i:Nat} {x:Cell},S1[i]?=Y x->(S1++[HS 2.23])[i]?=Y x:=λh=>by rw[aap (aaa.mp h).1];exact h
    have fa:OG (.ref F) [.ref S1.length] (S1++[HS 2.23])=Y (.non,(S1++[HS 2.23]).set F (.lst ((rs++[S1.length]).map .ref))):=by
     rw[lS (ap2 sF) (by rw[aaf,h.ln];omega),aaI];rfl
    have kr:∀ f ms env,YU f ms env (.ref F,S1)=(ms env S1).bind (IS f (.ref F)):=λf ms env=>oR sF
    have rlt:∀ q∈rs,q<S1.length/\q≠F/\q≠b:=λq hq=>by
     obtain⟨j,hj,rfl⟩:=acd.mp hq;have hj':j<fd.length:=by rw[<- h.ln];exact hj
     have hx:=aae hj';obtain⟨q',z1,z2,z3,z4⟩:=h.get hx;rw[aae hj] at z1;cases z1;exact#[by rw[sl];exact(aaa.mp z2).1,z4,z3]
    refine#[a10,(S1++[HS 2.23]).set F (.lst ((rs++[S1.length]).map .ref)),rs++[S1.length],?_,#[aaw (by rw[aal];omega),?_,by rw[aal,aal,h.ln];rfl,λj q x a c=>?_,?_,?_]]
    ·have q3:=aw.1;simp![WS,A1t,A1u,A1w,A1v,cr,q1,q2,dm,q3,gi,d0,ww,aw.2,bX,bY,fl,Up,Pv,ks,ia,jz,kr,mD,k3,dX,fa,ie]
    ·rw[aaq (Ne.symm hbF)];exact ap2 sd
    ·by_cases hj:j<rs.length
     ·rw[aap hj] at a;rw[aap (by rw[<- h.ln];exact hj)] at c;obtain⟨z1,z2,z3⟩:=rlt q (aax a);rw[aaq (Ne.symm z2)];refine ap2 ?_;rw[<- hS1,aaq (Ne.symm z3)];exact h.at_ _ _ _ a c
     ·rw[aaZ 0.0] at a;rw[aaZ (by rw[<- h.ln];omega)] at c
      have j0:j - rs.length=0:=by
       have:=(aaa.mp a).1;simp at this;omega
      rw[j0] at a;rw[<- h.ln,j0] at c;cases a;cases c;rw[aaq 0.0];exact acH
    ·rw[abd];exact#[h.nd,by simp,λx hx y hy=>by rw[aat.mp hy];exact aaT (rlt x hx).1]
    ·intro z;rcases aan.mp z with z | z
     ·exact h.nF z
     ·have:=aat.mp z;omega
end
structure Lf(z:Fd×Bg)(L:List E3):Prop where
 gd:Gd z
 fr:Fr (z.2.map (·.1)) L
 lt:Lt5 L
 ln:z.1.length+(Dm L).length<=200
 kl:∀ k∈z.2.map (·.1),k<5
def Lf.few{x:E3}{L:List E3}(h:Lf z (x::L))(ha:Jw x=true):x.2.g∉z.2.map (·.1)/\z.2.length<=400/\z.1.length<900:=by
 have:=sC 5 _ h.gd.nd h.kl;rw[aaf] at this;have:=h.ln;exact#[h.fr.1 ha,by omega,by omega]
def Lf.step{x:E3}{L:List E3}(h:Lf z (x::L)):Lf (WH x z) L:=by
 have k:=pS (z:=z) (x:=x);refine#[h.gd.step h.fr.1,by rw[k];exact h.fr.2,λy hy=>h.lt y 1.60,?_,λj hj=>?_]
 ·have ln:=h.ln;rw[Dm] at ln;unfold WH;split
  ·show(WI _ _).length+_<=_;rw[a6a];split at ln
   ·rw[aar] at ln;omega
   ·exact ln
  ·split
   ·split at ln
    ·rw[aar] at ln;exact aaJ (adS _) ln
    ·exact ln
   ·split
    ·rename_i q;rw[aam q,aar] at ln;show(z.1++[_]).length+_<=_;rw[aal,aaW];omega
    ·rename_i q;rw[if_neg q] at ln;exact ln
 ·rw[k] at hj;unfold Io at hj;split at hj
  ·exact h.kl j (aaA.mp hj).1
  ·split at hj
   ·rename_i q;rcases aan.mp hj with hj | hj
    ·exact h.kl j hj
    ·rw[aat.mp hj];exact h.lt x aab q
   ·exact h.kl j hj
section
variable{F b:Nat}{d:Dd}{a0 a1 a2 a3 a7:Option D}
def a6E{L:List E3}:∀ (es:List Ev) {S:aa} {rs:List Nat} {z:Fd×Bg} {a8 a9 a10:Option D},Hd S F b rs z.1 z.2->Lf z (es.map (λe=>1.58)++L) ->
  ∃ b8 b9 b10 S' rs' z',AI 1.72 WS (es.map Ev.d) [a0,a1,a2,a3,Y (.ref F),Y (.ref b),Y d.d,a7,a8,a9,a10] S=Y (.nx [a0,a1,a2,a3,Y (.ref F),Y (.ref b),Y d.d,a7,b8,b9,b10] S')/\Hd S' F b rs' z'.1 z'.2/\Lf z' L/\RD (es.map (λe=>1.58)++L) z=RD L z'
 | [],S,rs,z,a8,a9,a10,h,lf=>#[a8,a9,a10,S,rs,z,lK,h,lf,rfl]
 | e::es,S,rs,z,a8,a9,a10,h,lf=>by
  obtain⟨b10,S1,rs1,e1,h1⟩:=a6D (d:=d) (a0:=a0) (a1:=a1) (a2:=a2) (a3:=a3) (a7:=a7) (a10:=a10) h lf.gd e (λha=>lf.few ha);obtain⟨c8,c9,c10,S2,rs2,z2,e2,h2,lf2,r2⟩:=a6E es (a8:=Y 1.31) (a9:=Y 2.59) (a10:=b10) h1 lf.step;refine#[c8,c9,c10,S2,rs2,z2,?_,h2,lf2,r2];rw[List.map_cons,dN,show e.d=.tup [.str e.w,.int 1.8] from rfl,cn];simp only[bC,aP,ob,eR,eU,cQ,bP,jS,e1,iV,e2]
def a6F{z:Fd×Bg}{x:Rm×List Ev}{L:List E3}{a8 a9 a10:Option D}(h:Hd S F b rs z.1 z.2)(lf:Lf z (x.2.map (λe=>1.58)++L))(ok:ROk R)(h5:R.1.length<=5)(hd:d.Ok R.1.length)(hx:XU r R d=Y x) :
  ∃ b7 b8 b9 b10 S' rs' z',A1x [Y r.d,a1,a2,Y (Dk R),Y (.ref F),Y (.ref b),Y d.d,a7,a8,a9,a10] S=Y (.nx [Y r.d,a1,a2,Y (Dk x.1),Y (.ref F),Y (.ref b),Y d.d,b7,b8,b9,b10] S')/\Hd S' F b rs' z'.1 z'.2/\Lf z' L/\RD (x.2.map (λe=>1.58)++L) z=RD L z':=by
 obtain⟨T,e1⟩:=a6r (S:=S) (r:=r) ok 0.0 hd;rw[hx] at e1;have e1':di [r.d,Dk R,d.d] S=Y (.tup [Dk x.1,EI x.2],S++T):=e1;obtain⟨c8,c9,c10,S2,rs2,z2,e2,h2,lf2,r2⟩:=a6E (d:=d) (a0:=Y r.d) (a1:=a1) (a2:=a2) (a3:=Y (Dk x.1)) (a7:=Y (EI x.2)) (a8:=a8) (a9:=a9) (a10:=a10) x.2 (h.app T) lf;refine#[Y (EI x.2),c8,c9,c10,S2,rs2,z2,?_,h2,lf2,r2];have kf:∀ g p env S,YY g p env (EI x.2,S)=AI g p (x.2.map Ev.d) env S:=λg p env S=>rfl;simp![A1x,bO,e1',cn,bC,cQ,bP,kN,kf,e2]
theorem RF{n:Nat}(h5:n<=5)(w:Ws r R l xs):∀ {S:aa} {rs:List Nat} {z:Fd×Bg} {a6 a7 a8 a9 a10:Option D},ROk R->R.1.length=n->(∀ d∈l,d.Ok n)->Hd S F b rs z.1 z.2->Lf z 1.73 ->
  ∃ b3 b6 b7 b8 b9 b10 S' rs',AI 'f' A1x 0.8 [Y r.d,a1,a2,Y (Dk R),Y (.ref F),Y (.ref b),a6,a7,a8,a9,a10] S=Y (.nx [Y r.d,a1,a2,b3,Y (.ref F),Y (.ref b),b6,b7,b8,b9,b10] S')/\Hd S' F b rs' (RD 1.73 z).1 (RD 1.73 z).2:=by
 induction w with
 | @nil R=>
  intro S rs z a6 a7 a8 a9 a10 ok ln hd h lf;exact#[Y (Dk R),a6,a7,a8,a9,a10,S,rs,lK,h]
 | @cons R d x l xs hx t ih=>
  intro S rs z a6 a7 a8 a9 a10 ok ln hd h lf;obtain⟨ok',ln'⟩:=eZ ok hx;obtain⟨b7,b8,b9,b10,S1,rs1,z1,e1,h1,lf1,r1⟩:=a6F (d:=d) (a1:=a1) (a2:=a2) (a7:=a7) (a8:=a8) (a9:=a9) (a10:=a10) h lf ok 0.0 (by rw[ln];exact hd d aab) hx;obtain⟨c3,c6,c7,c8,c9,c10,S2,rs2,e2,h2⟩:=ih (a6:=Y d.d) (a7:=b7) (a8:=b8) (a9:=b9) (a10:=b10) ok' (ln'.trans ln) (λd z=>hd d 1.71) h1 lf1;refine#[c3,c6,c7,c8,c9,c10,S2,rs2,?_,by rw[PN,r1];exact h2];rw[List.map_cons,dN];simp only[aP,ob,eR,eU,jS,e1,iV,e2]
end
def a6G{n:Nat}(h5:n<=5)(w:Ws r (JZ n) l xs)(hd:∀ d∈l,d.Ok n)(hl:l.length<=200) :
  ∃ F b rs bg S',io [r.d,.int (n:Int),.tup 0.8] S=Y (.ref F,S')/\Hd S' F b rs ((QY l xs).map FF) bg:=by
 rw[yl,ca (show [r.d,D.int (n:Int),D.tup 0.8].length=3 from rfl),show FV N__law_waits [r.d,D.int (n:Int),D.tup 0.8]=[Y r.d,Y 1.3,Y 2.61,J,J,J,J,J,J,J,J] from rfl];have e0:=HW (S:=S) (n:=n) (i:=1) (env:=[Y r.d,Y 1.3,Y 2.61,J,J,J,J,J,J,J,J]) h5 (by simp only[ak,bJ,bN,bM,oj,ob,aj]);have kd:KO ([],S++[.lst []])=Y (.ref (S++[Cell.lst []]).length,S++[.lst []]++[.dct [] []]):=zm (l:=[]) acy 0.1;have mp:∀ env S,Oh [] env S=Y ([],S):=λz z=>rfl
 have hd0:Hd (S++[.lst []]++[.dct [] []]) S.length (S++[Cell.lst []]).length [] [] []:=by
  refine#[?_,acH,rfl,λj q x a=>by simp at a,acy,by simp];rw[aap 0.3];exact acH
 have lf:Lf ([],[]) 1.73:=⟨#[acy,λp h=>(nomatch h)],a6i w hV λk h=>(nomatch h),a6k h5 w hd,by
  show 0+_<=200;rw[a45 w];have:=rW (l:=l) (xs:=xs)
  omega,λk h=>(nomatch h)⟩
 obtain⟨b3,b6,b7,b8,b9,b10,S',rs,e,h⟩:=RF (a1:=Y 1.3) (a2:=Y 2.61) (a6:=J) (a7:=J) (a8:=J) (a9:=J) (a10:=J) h5 w hV (by simp[JZ]) hd hd0 lf;rw[a6j w hV] at h;refine#[_,_,rs,_,S',?_,h];simp only[qT,aR,bq,e0,ob,bu,aP,eR,eU,bL,aH,mD,ay,Uc,Eu,mp,kd,kN,ak,bJ,bN,bM,oj,aj,Ue,e,aX,bH,aM]
def a6H{tg:MG}{b:MS}{c:Nat}(I:bn->aa->Prop)(hc:∀ env S,I env S->S[c]?=Y 1.5)(st:∀ d∈xs,∀ env S,I env S->∃ env1 S1 env2 S2,tg d env S=Y (env1,S1)/\b env1 S1=Y (.nx env2 S2)/\I env2 S2):∀ (k i f:Nat) (env:bn) (S:aa),i+k=xs.length->k<f->I env S->∃ env' S',MK tg b c f i env S=Y 2.91/\I env' S'
 | 0,i,f+1,env,S,hk,hf,hI=>#[env,S,a19 (hc _ _ hI) 0.0,hI]
 | k+1,i,f+1,env,S,hk,hf,hI=>by
  have hi:i<xs.length:=by omega
  obtain⟨env1,S1,env2,S2,e1,e2,h2⟩:=st xs[i] (abP _) env S hI;obtain⟨env',S',e,h'⟩:=a6H I hc st k (i+1) f env2 S2 0.0 0.0 h2;refine#[env',S',?_,h'];rw[a1a (hc _ _ hI) (aae hi),e1,ob,YE,e2,ob,TZ,e]
def A1y:MS:=aN (az OE (aW (ac (az GD (eV (ac (!"rows") (ac (!"turns") (ac (!"passes") (ac (!"turns") am))))) (ax 2 cx (ac '2' (ac 4e0 am)))) am)) (bz '3' (bV 1e0) bA)) 'c'
def A1z:MS:=aN (az OE (bz '3' bA (bV 2e0)) (aW (ac (az Tt (az GD '3' 2e0) (bB (Gz Om) (ac (az On (az GD '3' 0e0) (!"passes")) am))) (ac (az GD '3' 3e0) am)))) 'c'
def A10:ME:=az GD (eV (ac 40e0 (ac 80e0 (ac 160e0 am)))) (ax 2 cx (ac '2' 2.04))
def A11:ME:=ci (dT (ax 3 oh (ac '3' (ac '4' (ac '5' am))))) '`' cf (bB 2.46 (ac 1.20 am)) [J]
def A12:MS:=bU (aC (az Zq ';' (az GD '6' (bB (Gz Om) (ac (az On ':' (!"write")) am))))) 2.72 ba
def A13:MS:=dU '7' (jU 3 7.9) A12
def A14:MS:=bU (aC (az LQ '8' '7')) 2.72 ba
noncomputable def turn:MS:=aF (aN (ax 2 jh 2.69) 'b') (aF (aN (ax 1 hU 3.8) 'c') (aF A1y (aF A1z (aF (aN (az OE 3e0 (ax 2 cx (ac '2' 2.04))) 'd') (aF (aN (ax 4 eY (ac '2' (ac '3' (ac '4' (ac A10 am))))) 'e') (aF (aN (ax 2 jf (ac '3' 5.8)) 'f') (aF (aN (ax 3 io (ac '3' (ac '4' (ac '5' am)))) 'g') (aF (aN A11 'h') (aF A14 A13)))))))))
def VZ:MS:=aF (hZ (cC (ac (bB (Gz XD) (ac 2e0 (ac (bB (Gz JE) (ac 1.00 2.04)) am))) am)) 'a' turn) (bp (mC 8.3))
def a6I:Fh=Gw FO VZ 1:=jk rfl
def a6J{q:Int}(h0:0<=q)(h1:q<3):∃ k:Nat,AK [D.int 40,D.int 80,D.int 160] q=Y 1.89/\k<=160:=by
 have:q=0\/q=1\/q=2:=by omega
 rcases this with rfl | rfl | rfl
 ·exact#[40,rfl,by decide]
 ·exact#[80,rfl,by decide]
 ·exact#[160,rfl,by decide]
theorem Cy{q:Int}(h0:0<=q)(h1:q<4):∃ w:Rw,AK [D.str "rows",D.str "turns",D.str "passes",D.str "turns"] q=Y 1.30/\Ez w:=by
 have:q=0\/q=1\/q=2\/q=3:=by omega
 rcases this with rfl | rfl | rfl | rfl
 ·exact#[.rows,rfl,.inl rfl]
 ·exact#[.turns,rfl,.inr 4.6]
 ·exact#[.passes,rfl,.inr 3.22]
 ·exact#[.turns,rfl,.inr 4.6]
def NW(b:Nat×Str×List Ev):D:=.lst [.int (b.1:Int),.str b.2.1,.int ((Nv b.1 0 b.2.2).1:Int)]
section
variable{S:aa}{n:Nat}{r:Rl}{l:List Dd}{xs:Rs}{F b:Nat}{rs:List Nat}{bg:Bg}{a0 a1 a2 a8 a9 a10 a11:Option D}
def ne_ok(h:Hd S F b rs ((QY l xs).map FF) bg):LQ S (.lst ((QY l xs).map NW)) (.ref F)=Y 3.9:=by
 have g1:KS S (.lst ((QY l xs).map NW))=.lst ((QY l xs).map NW):=by
  show D.lst (((QY l xs).map NW).map (SR S))=_;rw[aaX];rfl
 have g2:KS S (.ref F)=.lst ((QY l xs).map NW):=by
  have d0:SR S (.ref F)=.lst (rs.map .ref):=by simp only[SR,h.f]
  unfold KS;rw[d0];dsimp only
  congr 1
  refine acx λj=>?_;have ln:=h.ln;rw[aaf] at ln;rw[aaX,aaP,aaP];by_cases hj:j<rs.length
  ·have e1:=aae hj;have hj':j<(QY l xs).length:=by omega
   have e2:=aae hj';have:=h.at_ j _ _ e1 (by rw[aaP,e2];rfl);rw[e1,e2];show Y (SR S (.ref rs[j]))=Y _;simp only[SR,this,HS];rfl
  ·rw[adf 0.0,adf 0.0];rfl
 have ok:Dl 40 (.lst ((QY l xs).map NW))=true:=by
  show((QY l xs).map NW).all (Dl 39)=true;rw[aaE];intro d hd;obtain⟨b,z,rfl⟩:=aai.mp hd;rfl
 unfold LQ;rw[g1,g2,aam #[ok,ok],ow 40 _ ok];rfl
def lo_ok(h:Hd S F b rs ((QY l xs).map FF) bg)(hl:(QY l xs).length<=200)(cap:∀ b∈QY l xs,(Nv b.1 0 b.2.2).1<=He r n (b.2.1==("write":Str))){a3 a4 a5:Option D} :
  ∃ b9 b10 b11 S',A13 [a0,a1,a2,a3,a4,a5,Y 1.6,Y (.ref F),a8,a9,a10,a11] S=Y (.nx [a0,a1,a2,a3,a4,a5,Y 1.6,Y (.ref F),a8,b9,b10,b11] S'):=by
 have ln:=h.ln;rw[aaf] at ln
 obtain⟨env',S',e,b9,b10,b11,rfl,z⟩:=a6H (tg:=jU 3 7.9) (b:=A12) (c:=F) (xs:=rs.map D.ref) (λenv T=>∃ b9 b10 b11,env=[a0,a1,a2,a3,a4,a5,Y 1.6,Y (.ref F),a8,b9,b10,b11]/\T=S)
  (λenv T ⟨_,_,_,_,q⟩=>by rw[q];exact h.f)
  (λd hd env T ⟨b9,b10,b11,e1,e2⟩=>by
   subst e1 e2;obtain⟨q,hq,rfl⟩:=aai.mp hd;obtain⟨j,hj,rfl⟩:=acd.mp hq;have hj':j<(QY l xs).length:=by omega
   have cl:=h.at_ j _ _ (aae hj) (by rw[aaP,aae hj'];rfl);have cp:=cap _ (abP hj');generalize (QY l xs)[j]=x at cl cp;obtain⟨g,w,es⟩:=x;have cl:T[rs[j]]?=Y (.lst [.int (g:Int),.str w,.int ((Nv g 0 es).1:Int)]):=cl;have cp:(Nv g 0 es).1<=He r n (w==("write":Str)):=cp
   have tg:∀ gs env,jU 3 gs (.ref rs[j]) env T=gs [.int (g:Int),.str w,.int ((Nv g 0 es).1:Int)] env T:=λgs env=>by
    rw[nR];unfold M.jU;dsimp only;rw[cl];rfl
   refine#[[a0,a1,a2,a3,a4,a5,Y 1.6,Y (.ref F),a8,Y 0.4,Y (.str w),Y (.int ((Nv g 0 es).1:Int))],T,[a0,a1,a2,a3,a4,a5,Y 1.6,Y (.ref F),a8,Y 0.4,Y (.str w),Y (.int ((Nv g 0 es).1:Int))],T,?_,?_,Y 0.4,Y (.str w),Y (.int ((Nv g 0 es).1:Int)),rfl,rfl]
   ·rw[tg];simp only[bC,aP,ob,eR,eU,cQ,bP]
   ·have ix:GD T 1.6 (.int (if (w==("write":Str))=true then 1 else 0))=Y (.int (He r n (w==("write":Str)):Nat)):=by
     cases(w==("write":Str))<;>rfl
    have gt:decide (((He r n (w==("write":Str)):Nat):Int)<((Nv g 0 es).1:Int))=false:=aao 0.0
    simp![A12,bX,cr,bY,mH,ix,Fl,gt])
  rs.length 0 2000 [a0,a1,a2,a3,a4,a5,Y 1.6,Y (.ref F),a8,a9,a10,a11] S 2.8 0.0 #[_,_,_,rfl,rfl]
 refine#[b9,b10,b11,S',?_];simp only[A13,kN,ak,bJ,bN,bM,oj,ob,aj,Uf,e]
end
def a6K{ns:List Int}{k:Int}{a2 a3 a4 a5 a6 a7 a8 a9 a10 a11:Option D}(h0:0<=k)(h1:k<=100000) :
  ∃ b2 b3 b4 b5 b6 b7 b8 b9 b10 b11 S',turn [Y 2.63,Y (.int k),a2,a3,a4,a5,a6,a7,a8,a9,a10,a11] S=Y (.nx [Y 2.63,Y (.int k),b2,b3,b4,b5,b6,b7,b8,b9,b10,b11] S'):=by
 obtain⟨p,q,e1,p0,q0,q1⟩:=left (S:=S) (ns:=ns) h0 h1;have P1:=qag (S:=S) (c:=0) p0 q0 q1;obtain⟨⟨w0,a,c,u⟩,S2,e2,Rk,P2,K2⟩:=rule P1;have e2:hU [.ref S.length] (S++[.lst [.int p,.int q,.int 0]])=Y (.tup [.str w0.s,.int a,.int c,.int u],S2):=e2;obtain⟨j,S3,e3,j0,j4,P3,K3⟩:=qb _ _ 4 P2 0.1 0.1;obtain⟨w,ew,hf⟩:=Cy j0 j4;obtain⟨m,S4,e4,m0,m3,P4,K4⟩:=qb _ _ 3 P3 0.1 0.1;obtain⟨n,hn⟩:∃ n:Nat,3+m=(n:Int):=#[(3+m).toNat,by omega]
 obtain⟨i,S5,e5,i0,i3,P5,K5⟩:=qb _ _ 3 P4 0.1 0.1;obtain⟨z,ez,hz⟩:=a6J i0 i3;have c0:0<=c:=Rk.b0;have c9:c<=9:=Rk.b9
 obtain⟨t,ht,t0,t9⟩:∃ t:Int,c*(if (w.s==("passes":Str))=true then 1 else 0)=t/\0<=t/\t<=9:=by
  by_cases hp:(w.s==("passes":Str))=true
  ·exact#[c,by rw[aam hp,Int.mul_one],c0,c9]
  ·exact#[0,by rw[if_neg hp,Int.mul_zero],by decide,by decide]
 have rD:(Rl.mk w a t u).d=.tup [.str w.s,.int a,.int t,.int u]:=rfl;obtain⟨l,R,S6,e6,B,hlen,P6⟩:=a6y (rl:=#[w,a,t,u]) (n:=n) (m:=z) P5 0.0 0.0 0.0;obtain⟨⟨xs,ws,hR⟩,hd⟩:=B.ws;have a0:=Rk.a0;have e7:=a6v (S:=S6) (r:=#[w,a,t,u]) (n:=n) hf 0.0 0.0 t0 t9;obtain⟨F,b,rs,bg,S7,e8,hdl⟩:=a6G (S:=S6) 0.0 ws hd 0.0;obtain⟨S8,e9,K9⟩:=a6u (S:=S7) (r:=#[w,a,t,u]) t0 0.0 ws hd 0.0
 have hd8:Hd S8 F b rs ((QY l xs).map FF) bg:=by
  have kp:∀ {i:Nat} {x:Cell},S7[i]?=Y x->S8[i]?=Y x:=λh=>by rw[K9 _ (aaa.mp h).1];exact h
  exact#[kp hdl.f,kp hdl.d,hdl.ln,λj q x a c=>kp (hdl.at_ j q x a c),hdl.nd,hdl.nF]
 have bl:=rW (l:=l) (xs:=xs)
 have fd:A11 [Y 2.63,Y (.int k),Y 0.6,Y (Rl.mk w a t u).d,Y 1.3,Y 2.61,Y 5.0,Y (.ref F),a8,a9,a10,a11] S7=Y (.lst ((QY l xs).map NW),S8):=by
  have kc:=fL (S:=S8) (t:=cf) (e:=bB 2.46 (ac 1.20 am)) (cap:=[J]) (env:=[Y 2.63,Y (.int k),Y 0.6,Y (Rl.mk w a t u).d,Y 1.3,Y 2.61,Y 5.0,Y (.ref F),a8,a9,a10,a11]) (rest:=[]) (a:=J) (enc:=qE) (p:=λo=>true) (f:=NW) (xs:=QY l xs) rfl 0.0 (λo o=>by rw[iU]) (λx o o=>by
   have sl:∀ l h,Dn (qE x) l (h,S8)=Y (.tup (XB [.int (x.1:Int),.str x.2.1,.int ((Nv x.1 0 x.2.2).1:Int),Nk (Nv x.1 0 x.2.2).2] l h),S8):=λl h=>rfl;have ct:XB [.int (x.1:Int),.str x.2.1,.int ((Nv x.1 0 x.2.2).1:Int),Nk (Nv x.1 0 x.2.2).2] J (Y 3)=[.int (x.1:Int),.str x.2.1,.int ((Nv x.1 0 x.2.2).1:Int)]:=rfl;simp only[bX,ar,cE,ak,bJ,oj,ob,aj,eQ,cL,eO,dj,bd,dq,sl,ct,aq,ay,ao,bY,UA]
   rfl)
  rw[abc.mpr (λo o=>rfl)] at kc;simp![A11,cw,er,bO,e9,Hs,kc]
 have cap:∀ b∈QY l xs,(Nv b.1 0 b.2.2).1<=He #[w,a,t,u] n (b.2.1==("write":Str)):=a67 (r:=#[w,a,t,u]) hf (show 0<=a from Rk.a0) t0 0.0 ws hV (by simp[JZ]) (a68 (r:=#[w,a,t,u]) t0) (λo y hy=>by simp[JZ] at hy) hd;obtain⟨b9,b10,b11,S9,e10⟩:=lo_ok (a0:=Y 2.63) (a1:=Y (.int k)) (a2:=Y 0.6) (a3:=Y (Rl.mk w a t u).d) (a4:=Y 1.3) (a5:=Y 2.61) (a8:=Y (.lst ((QY l xs).map NW))) (a9:=a9) (a10:=a10) (a11:=a11) hd8 0.0 cap;have ne:=ne_ok hd8
 have wd:A1y [Y 2.63,Y (.int k),Y 0.6,Y (.tup [.str w0.s,.int a,.int c,.int u]),a4,a5,a6,a7,a8,a9,a10,a11] S2=Y (.nx [Y 2.63,Y (.int k),Y 0.6,Y 4.1,a4,a5,a6,a7,a8,a9,a10,a11] S3):=by
  have ix:GD S3 (.lst [.str "rows",.str "turns",.str "passes",.str "turns"]) (.int j)=Y 1.30:=by rw[Wx];exact ew
  have ct:XB [D.str w0.s,D.int a,D.int c,D.int u] (Y 1) J=[D.int a,D.int c,D.int u]:=rfl;have ad:OE S3 (.tup [.str w.s]) (.tup [.int a,.int c,.int u])=Y 4.1:=fQ 0.3;simp![A1y,jo,kL4,e3,ix,uG,cE,eQ,dj,dq,cL,eO,ls,ct,ad]
 have tm:A1z [Y 2.63,Y (.int k),Y 0.6,Y 4.1,a4,a5,a6,a7,a8,a9,a10,a11] S3=Y (.nx [Y 2.63,Y (.int k),Y 0.6,Y 1.17,a4,a5,a6,a7,a8,a9,a10,a11] S3):=by
  have x0:GD S3 4.1 (.int 0)=Y 1.30:=rfl;have x2:GD S3 4.1 (.int 2)=Y (.int c):=rfl;have x3:GD S3 4.1 (.int 3)=Y (.int u):=rfl;have ct:XB [D.str w.s,D.int a,D.int c,D.int u] J (Y 2)=[D.str w.s,D.int a]:=rfl;have mu:Tt S3 (.int c) (.int (if (w.s==("passes":Str))=true then 1 else 0))=Y (.int t):=by rw[<- ht];exact iP (nL 0.0 0.0)
  have ad:OE S3 (.tup [.str w.s,.int a]) (.tup [.int t,.int u])=Y 1.17:=fQ 0.3;simp![A1z,cE,eQ,cL,eO,dj,dq,ls,ct,x2,bX,x0,cr,bY,mH,mu,x3,ad]
 have xl:∀ S,GD S (.lst [.int 40,.int 80,.int 160]) (.int i)=Y (.int (z:Int)):=λS=>by rw[Wx];exact ez
 rw[rD] at e6 e7 e8 e9 fd e10;refine#[Y 0.6,Y 1.17,Y 1.3,Y 2.61,Y 5.0,Y (.ref F),Y (.lst ((QY l xs).map NW)),b9,b10,b11,S9,?_];simp![turn,e1,rj,e2,wd,tm,e4,mJ,hn,A10,jo,kL3,e5,xl,PK,e6,e7,bO,e8,fd,A14,ne,e10]
theorem Pp:∀ ns:List Int,ns.length<=63->∃ S',Fh [.rol 2.0] []=Y (.bl true,S'):=λns hl=>by
 rw[a6I,ca (show [D.rol 2.0].length=1 from rfl),show FV FO [D.rol 2.0]=[Y 2.63,J,J,J,J,J,J,J,J,J,J,J] from rfl];obtain⟨k,hk,hk'⟩:∃ k:Int,(if (if (3:Int)<2.19 then(3:Int) else(ns.length:Int))>2 then(if (3:Int)<2.19 then(3:Int) else(ns.length:Int)) else 2)=k/\0<=k/\k<=26:=#[_,rfl,by split<;>split<;>omega]
 have k1:Wc ([.int k],[])=Y (FW 0 k.toNat,[]):=sS 0.0 0.0
 obtain⟨env',S',e,a1,a2,a3,a4,a5,a6,a7,a8,a9,a10,a11,rfl⟩:=a1q (tg:=ai 1) (p:=turn) (λenv z=>∃ a1 a2 a3 a4 a5 a6 a7 a8 a9 a10 a11,env=[Y 2.63,a1,a2,a3,a4,a5,a6,a7,a8,a9,a10,a11]) (FW 0 k.toNat) (λd hd env S hI=>by
  obtain⟨a1,a2,a3,a4,a5,a6,a7,a8,a9,a10,a11,rfl⟩:=hI;obtain⟨i,hi,rfl⟩:=a1r hd;obtain⟨b2,b3,b4,b5,b6,b7,b8,b9,b10,b11,S2,e⟩:=a6K (S:=S) (ns:=ns) (k:=0+(i:Int)) (a2:=a2) (a3:=a3) (a4:=a4) (a5:=a5) (a6:=a6) (a7:=a7) (a8:=a8) (a9:=a9) (a10:=a10) (a11:=a11) 0.0 0.0
  exact#[_,_,_,_,aP,e,_,_,_,_,_,_,_,_,_,_,_,rfl]) [Y 2.63,J,J,J,J,J,J,J,J,J,J,J] [] #[_,_,_,_,_,_,_,_,_,_,_,rfl]
 refine#[S',?_];simp only[VZ,aR,sK,jI,ar,bd,ob,bX,aq,ak,bJ,oj,aj,ay,ao,bY,Zi,UC,UE,aaf,hk,k1,sU,e,aH,aX,bH,aM]
end K27
end
end
namespace PySem.W.Fast
def tw5508588515885213092:=0
def tw15781055648372754678:=0
def tw6323569034314763709:=0
def tw15788916752726507509:=0
def tw8635538620046896651:=0
def tw9466728886238881313:=0
def tw626468985104853381:=0
def tw464042062878957740:=0
def tw10713939184794508256:=0
def tw2088961213816624387:=0
def tw9232117396132399911:=0
def tw7268035115071648165:=0
def tw7582165588960481586:=0
def tw16886036541851570788:=0
def tw14027493806149097786:=0
def tw12963798524993511404:=0
def tw1300570331111298178:=0
def tw17837845218318833782:=0
def tw1909013910918107685:=0
def tw1918497884457759110:=0
def tw12666444258719618289:=0
def tw3829808055781046554:=0
def tw11019076009543447049:=0
def tw9519572053951752079:=0
def tw4029306555466093889:=0
def tw17348499340860094639:=0
def tw5396048235675513352:=0
def tw12707039071962701207:=0
def tw5574819349520891236:=0
def tw6121796542101656046:=0
def tw8106412116795069580:=0
def tw14956597155020973201:=0
def tw9537346008272427159:=0
def tw14193292487668370646:=0
def tw11168574540783819663:=0
def tw3194550480142141576:=0
def tw14749810942651448982:=0
def tw3225999251613365687:=0
def tw5578677253087053501:=0
def tw14540081644617881906:=0
def tw1704866929796250703:=0
def tw9089650533906269064:=0
def tw12546411404826487971:=0
def tw17028189565836011654:=0
def tw3055167662534065657:=0
def tw12811132762747581795:=0
def tw3153400089477221001:=0
def tw14127070321129904929:=0
def tw5667539833868960830:=0
def tw888568330180734752:=0
def tw11085357805548269550:=0
def tw4618247321580916543:=0
def tw767953648157289290:=0
def tw6298457130880996296:=0
def tw16570813891630292455:=0
def tw7525197148853426840:=0
def tw2893787835199975708:=0
def tw667834282403844030:=0
def tw2605205556130654240:=0
def tw18014052867871613414:=0
def tw14291307320913283106:=0
def tw11110768918294152494:=0
def tw15743019914725850532:=0
def tw8491364183691174755:=0
def tw15511689608836197487:=0
def tw7065814794748137000:=0
def tw14170473831248152512:=0
def tw5655777215996367453:=0
def tw10806762451316034702:=0
def tw17048854964824674542:=0
def tw8068326214716286622:=0
def tw2671124331246728759:=0
def tw6809032378462664578:=0
def tw16225559407594819849:=0
def tw756113332854968582:=0
def tw6051680152557759152:=0
def tw4735134416067912417:=0
def tw4053301876696195588:=0
def tw4451109132048798111:=0
def tw9038615954220270356:=0
def tw15170540565944784074:=0
def tw10109578694061013250:=0
def tw13820838784552573303:=0
def tw18149563955615919614:=0
def tw5667715745132584706:=0
def tw2051636253858806909:=0
def tw17490362446019611616:=0
def tw929295490821714543:=0
def tw16108025771189989735:=0
def tw2926896742577630570:=0
def tw11642748209503401506:=0
def tw12265087061979433181:=0
def tw6191993964773131235:=0
def tw3095233370953449913:=0
def tw9040854504026246634:=0
def tw12600021133618456447:=0
def tw6664748364999822511:=0
def tw2281435845258570845:=0
def tw16821562322322728725:=0
def tw9973243647281925203:=0
def tw4965147453586777480:=0
def tw11551128024327251507:=0
def tw12240400101340259527:=0
def tw12133159764637507153:=0
def tw8178356651613136463:=0
def tw17500132937484007785:=0
def tw8013175228065014519:=0
def tw16763955102205345095:=0
def tw8433994945162451426:=0
def tw17053136977711916090:=0
def tw12799893898885562279:=0
def tw15345857025989814596:=0
def tw14517018164502830685:=0
def tw14580674908781428852:=0
end PySem.W.Fast
namespace PySem.W.Fast
def tw7068728316577230332:=0
def tw16646824739904152:=0
def tw7847043228693844082:=0
def tw3027990791256605647:=0
def tw16947503856728398163:=0
def tw5859281929857869266:=0
def tw11266011038713980367:=0
def tw6616704649197358571:=0
def tw14737397415001777913:=0
def tw9654297885278268586:=0
def tw12496018525141660958:=0
def tw10358612066921553288:=0
def tw3843189999582787532:=0
def tw2950854110585619189:=0
def tw3515837962369984122:=0
def tw14522217670158376916:=0
def tw17644323036469269247:=0
def tw11712520687571907940:=0
def tw10139143382831033862:=0
def tw3963337354152630728:=0
def tw9304658119755158903:=0
def tw7341492985157183299:=0
def tw6947695326414168065:=0
def tw14321822867687497699:=0
def tw1552494988955216782:=0
def tw10488049791268593357:=0
def tw5849327852631770607:=0
def tw10583774648970100260:=0
def tw16353477481512311504:=0
def tw1601505672479568190:=0
def tw16455893388034144506:=0
def tw2350999844588768098:=0
def tw4344139741844670916:=0
def tw3325712353633888478:=0
def tw17079337113975358276:=0
def tw4434293588676166614:=0
def tw15036011700670844119:=0
def tw17976379941782797132:=0
def tw15567751754496424742:=0
def tw16693933198424765908:=0
def tw16020137241914556776:=0
def tw8865128677732385600:=0
def tw9494496055682746271:=0
def tw254680539260741358:=0
def tw16043163625166712163:=0
def tw9728423581202296127:=0
def tw14153819642649546806:=0
def tw17815077903816779958:=0
def tw14550433986492425711:=0
def tw13311252920087408284:=0
def tw8772245045283809190:=0
def tw3515721516877817472:=0
def tw11766616359390433954:=0
def tw15335012209926021766:=0
def tw7070704837545531462:=0
def tw7730654368589015924:=0
def tw2574370845770444006:=0
def tw13439323650439912330:=0
def tw1874022771274832264:=0
def tw7102671684666652906:=0
def tw18411682042465159337:=0
def tw12244831435443856351:=0
def tw442354083514700921:=0
def tw10157416273980657660:=0
def tw9097665076627634916:=0
def tw754392499868481134:=0
def tw16329712182218166377:=0
def tw4940821157505975869:=0
def tw10158120980985597151:=0
def tw11470466914538535564:=0
def tw2537338584615997007:=0
def tw8301031613731596720:=0
def tw10604539108843231014:=0
def tw14892751843259766318:=0
def tw525187437539596957:=0
def tw6289924998674363232:=0
def tw1206137948182492282:=0
def tw12204608490900781164:=0
def tw9688915075264971456:=0
def tw4125517802089967143:=0
def tw6348258841734425021:=0
def tw5250028321037033222:=0
def tw14544482003457125202:=0
def tw16769556104261368889:=0
def tw13789763990826817927:=0
def tw11029492130428082567:=0
def tw822530065943217160:=0
def tw6373595076598855607:=0
def tw6989358235408476319:=0
def tw7048359876836068926:=0
def tw2691560347714552244:=0
def tw14419636597210887139:=0
def tw3480998711913543848:=0
def tw4127939488821146990:=0
def tw317273922748902889:=0
def tw5726085431050454989:=0
def tw9840684981814145362:=0
def tw4048404156369745706:=0
def tw7307744771059535227:=0
def tw744999143433837649:=0
def tw8811467636317226745:=0
def tw15802063543907779132:=0
def tw12149147151668201117:=0
def tw14128735903590882840:=0
def tw18365705758646157265:=0
def tw16042131456735813517:=0
def tw5997041624268935606:=0
def tw2323686611587705397:=0
def tw4831114460277502609:=0
def tw14878242340422268319:=0
def tw8251564898095613278:=0
def tw8439183462862283055:=0
def tw14342387899735169863:=0
def tw1693540474272680136:=0
def tw4553504254120212206:=0
def tw11881051711917368274:=0
def tw14791964180319434665:=0
def tw15144227295922434426:=0
def tw1666351672111450887:=0
def tw6616441740219113203:=0
def tw11620814186036126030:=0
def tw14660211572210656450:=0
def tw1808340855042907323:=0
def tw4442994797452923079:=0
def tw16031487397035439491:=0
def tw3073894287866741091:=0
def tw2309384542450912284:=0
def tw5810244865084790833:=0
def tw15086710241804416442:=0
def tw3770674260835957872:=0
def tw9071941738079893764:=0
def tw754173757446695481:=0
def tw16235393651500805253:=0
def tw13858972095545072438:=0
def tw14692695841538571051:=0
def tw5068608875988644140:=0
def tw5495261730038457073:=0
def tw14359934775139305818:=0
def tw6261035848968467540:=0
def tw17784568023142484109:=0
def tw17856605537153756842:=0
def tw13026520430464898487:=0
def tw11358763246190286453:=0
def tw8240391221146083852:=0
def tw8374032863560927834:=0
def tw2063734881313606041:=0
def tw17784098638210966922:=0
def tw12131038499106669025:=0
def tw10470282318192728918:=0
def tw9943207298468537175:=0
def tw2967773626675786628:=0
def tw6215045328661570456:=0
def tw4423915179402482969:=0
def tw12104835382870181758:=0
def tw10292772499518437507:=0
def tw6375964525642402756:=0
def tw14993397933654252022:=0
def tw14542955300824579528:=0
def tw6366172926045708469:=0
def tw8831387006635992281:=0
def tw16168055544579386250:=0
def tw5166349426599373652:=0
def tw12513887875114029562:=0
def tw2058090866706891864:=0
def tw2251940840413096498:=0
def tw1093521839850886957:=0
def tw12604258008953527619:=0
def tw14164159093479362210:=0
def tw14186590857635603738:=0
def tw929536639203602541:=0
def tw15223051108951775273:=0
def tw9194742286249989252:=0
def tw10411305074393880635:=0
def tw1180245453620769398:=0
def tw1561607548499527957:=0
def tw7144561696733859817:=0
def tw7429214969709298037:=0
def tw16284198984546590307:=0
def tw8939889800145748027:=0
def tw13260431267720188426:=0
def tw5507444083627117899:=0
def tw10604170929852424074:=0
def tw15200719131422728955:=0
def tw17828450276970156355:=0
def tw15175492168223578061:=0
def tw14201304450257917465:=0
def tw10833289200795157679:=0
def tw10646480980654584378:=0
def tw7389212058670976795:=0
def tw13836588232293095226:=0
def tw11830598192424771901:=0
def tw11310208202259740237:=0
def tw9312674750803646722:=0
def tw11577813668964949839:=0
def tw18260921817922506646:=0
def tw10781405402638689229:=0
def tw13981936577024596444:=0
def tw2985454156784831523:=0
def tw14889830350510771373:=0
def tw16701843613361003369:=0
def tw15927711538873143255:=0
def tw14303294048525523849:=0
def tw12747336333844361660:=0
def tw18346556040481514849:=0
def tw6576399502579705641:=0
def tw9363932704220246569:=0
def tw14303913380906822275:=0
def tw613454833552367173:=0
def tw8189774567663290586:=0
def tw2588910934185704974:=0
def tw15614321778912578269:=0
def tw15921106749738888528:=0
def tw8929167255162693915:=0
def tw16327164639527585316:=0
def tw13092855748395354285:=0
def tw6742087318866972883:=0
def tw3341757895885802742:=0
def tw15845130785843501580:=0
def tw2322599669883909348:=0
def tw14181282501074734955:=0
def tw11736693189158885463:=0
def tw13799545568062039972:=0
def tw16528282587527784581:=0
def tw6071655713906696512:=0
def tw3291500645163826855:=0
def tw13115967094387725051:=0
def tw8682298851116758923:=0
def tw13916148847536775196:=0
def tw7453532796939657618:=0
def tw3229158237307631318:=0
def tw16344713237441465344:=0
def tw8356998682684307192:=0
def tw5155966736333269737:=0
def tw2570833864003584817:=0
def tw4440920112734399789:=0
def tw12158516890526599633:=0
def tw9119953646888428866:=0
def tw11292657623338152719:=0
def tw11001049141665411206:=0
def tw10510480924933812911:=0
def tw9131038978118051792:=0
def tw1648652873490382825:=0
def tw15030578067607767921:=0
end PySem.W.Fast
noncomputable def PySem.W.Fast.tw2474877545307185117:PySem.Program:=PySem.Challenge.pw_manyreaders_k27_rows_within_the_numbers
theorem PySem.W.Fast.te2474877545307185117:PySem.Challenge.pw_manyreaders_k27_rows_within_the_numbers=W.Fast.tw2474877545307185117:=rfl
namespace K27
def c0:Kw:=gm 0
def c2:Kw:=gm 2
def c7:Kw:=gm 7
def c8:Kw:=gm 8
def c9:Kw:=gm 9
def c10:Kw:=gm 10
def c16:Kw:=gm 16
def c17:Kw:=gm 17
def c18:Kw:=gm 18
def c27:Kw:=gm 27
def c28:Kw:=gm 28
def c29:Kw:=gm 29
def c30:Kw:=gm 30
def c31:Kw:=gm 31
def c44:Kw:=gm 44
def c45:Kw:=gm 45
def c50:Kw:=gm 50
def pw2:td:={ PySem.Challenge.pw_manyreaders_k27_rows_within_the_numbers with main:={ PySem.Challenge.pw_manyreaders_k27_rows_within_the_numbers.main with body:=[c0,gK,c2,iF,fV,jG,fg,c7,c8,c9,c10,oM,fh,gI,eI,jD,c16,c17,c18,lG,jF,iG,gL,jE,lE,fW,lD,c27,c28,c29,c30,c31,jH,lH,sr,gM,iH,fZ,fj,fY,fX,iE,lC,dL,c44,c45,yP,lA,lB,gJ,c50,eK,gR,iJ,gP,gN,gT,fq,gQ,iI,eJ,iK,fo,gS,gc,gb,dR,yQ] } }
def lw:W.OpenLaw:={ PySem.Challenge.rw_manyreaders_k27_rows_within_the_numbers with prog:=pw2 }
theorem lw_eq:PySem.Challenge.rw_manyreaders_k27_rows_within_the_numbers=lw:=by kernel_rfl
end K27
namespace K27
open L2 MI M
noncomputable def oO:Str:="law_manyreaders_k27_rows_within_the_numbers"
noncomputable def md1:Str:="manyreaders.fair"
noncomputable def RW:Str:="manyreaders.rooms"
noncomputable def FP:Str:="manyreaders.doors"
noncomputable def uT:Str:="manyreaders.deeds"
noncomputable def VX:Str:="manyreaders.kinds"
noncomputable def VW:Str:="manyreaders.runs"
noncomputable def kf0(P:Params):Ym:=[(3,⟨.type "dict",J,.dict #[Bz P "__name__" 165 (.str "law_manyreaders_k27_rows_within_the_numbers" 602),Bz P "__doc__" 166 .none,Bz P "__package__" 167 .none,Bz P "__loader__" 168 (.builtin "__main__.__loader__#opaque"),Bz P "__spec__" 169 .none,Bz P "__annotations__" 170 (.ref 6),Bz P "__builtins__" 171 (.ref 4),Bz P "__file__" 173 (.str "/claim/cut.py" 172),Bz P "__cached__" 174 .none,Bz P "told_most" 201 (.ref 21),Bz P "is_whole" 210 (.ref 28),Bz P "is_between" 219 (.ref 35),Bz P "is_word" 227 (.ref 42),Bz P "is_tuple_of" 235 (.ref 49),Bz P "WRITING_WORDS" 240 (.ref 50),Bz P "WANTS" 243 (.ref 51),Bz P "GREATEST_LEFT" 245 (.int 9 244),Bz P "empty" 252 (.ref 58),Bz P "guests_with" 258 (.ref 63),Bz P "with_word" 269 (.ref 70),Bz P "without_wait" 275 (.ref 75),Bz P "waiting" 284 (.ref 82),Bz P "FAVOURED" 298 (.ref 83),Bz P "WORD_WITHIN" 305 (.ref 84),Bz P "can_go" 311 (.ref 89),Bz P "next_in" 320 (.ref 96),Bz P "foremost" 326 (.ref 101),Bz P "next_past" 338 (.ref 108),Bz P "settled" 348 (.ref 115),Bz P "coming" 357 (.ref 122),Bz P "brought_by" 368 (.ref 129),Bz P "let_in" 374 (.ref 134),Bz P "GuestError" 394 (.ref 144),Bz P "NoDeed" 419 (.ref 164),Bz P "GUEST_WORDS" 426 (.ref 167),Bz P "is_deed" 437 (.ref 174),Bz P "can_do" 448 (.ref 181),Bz P "done" 458 (.ref 188),Bz P "bring_ask" 474 (.ref 195),Bz P "bring_up" 485 (.ref 202),Bz P "bring_down" 495 (.ref 209),Bz P "bring_leave" 505 (.ref 216),Bz P "bring_stop" 516 (.ref 223),Bz P "bring_tick" 522 (.ref 228),Bz P "one_less" 529 (.ref 235),Bz P "turned" 535 (.ref 240),Bz P "settled_behind" 545 (.ref 247),Bz P "BRINGS" 560 (.ref 248),Bz P "ran" 568 (.ref 253),Bz P "walked" 583 (.ref 260),Bz P "waited" 589 (.ref 265),Bz P "wait_told" 601 (.ref 272),Bz P "_law_cell_at" 611 (.ref 279),Bz P "_law_left" 621 (.ref 286),Bz P "_law_far" 629 (.ref 293),Bz P "_law_pick" 638 (.ref 300),Bz P "_law_rule" 648 (.ref 307),Bz P "_law_deed" 658 (.ref 314),Bz P "_law_fronts" 664 (.ref 319),Bz P "_law_lets" 674 (.ref 326),Bz P "_law_put" 683 (.ref 333),Bz P "_law_settled" 689 (.ref 338),Bz P "_law_can" 695 (.ref 343),Bz P "_law_marked" 701 (.ref 348),Bz P "_law_done" 707 (.ref 353),Bz P "_law_asked" 713 (.ref 358),Bz P "_law_waits" 730 (.ref 365),Bz P "_law_long_row" 745 (.ref 372),Bz P "law" 751 (.ref 377)] 69,#[]⟩),(20,XQ "told_most" 189 2 2 15 16 (.ref 17) (.ref 18) 19 199),(21,CJ "told_most" gK md1 187 20),(27,XQ "is_whole" 204 17 1 22 23 (.ref 24) (.ref 25) 26 208),(28,CJ "is_whole" iF VX 202 27),(34,XQ "is_between" 211 19 3 29 30 (.ref 31) (.ref 32) 33 217),(35,CJ "is_between" fV VX 202 34),(41,XQ "is_word" 220 21 2 36 37 (.ref 38) (.ref 39) 40 225)]
noncomputable def kf1(P:Params):Ym:=[(42,CJ "is_word" jG VX 202 41),(48,XQ "is_tuple_of" 228 23 2 43 44 (.ref 45) (.ref 46) 47 233),(49,CJ "is_tuple_of" fg VX 202 48),(50,⟨.type "tuple",J,.seq #[.str "writes" 238,.str "raised" 239] 0,#[]⟩),(51,⟨.type "tuple",J,.seq #[.str "read" 241,.str "write" 242] 0,#[]⟩),(57,XQ "empty" 246 29 1 52 53 (.ref 54) (.ref 55) 56 250),(58,CJ "empty" oM RW 236 57),(62,XQ "guests_with" 253 31 2 59 60 .none .none 61 256)]
noncomputable def kf2(P:Params):Ym:=[(63,CJ "guests_with" fh RW 236 62),(69,XQ "with_word" 259 33 3 64 65 (.ref 66) (.ref 67) 68 267),(70,CJ "with_word" gI RW 236 69),(74,XQ "without_wait" 270 36 2 71 72 .none .none 73 273),(75,CJ "without_wait" eI RW 236 74),(81,XQ "waiting" 276 39 2 76 77 (.ref 78) (.ref 79) 80 282),(82,CJ "waiting" jD RW 236 81),(83,⟨.type "dict",J,.dict #[Bz P "rows" 287 .none,Bz P "readers" 288 (.str "read" 289),Bz P "writers" 290 (.str "write" 291),Bz P "turns" 292 (.str "write" 293)] 4,#[]⟩)]
noncomputable def kf3(P:Params):Ym:=[(84,⟨.type "dict",J,.dict #[Bz P "read" 299 (.str "reads" 300),Bz P "write" 301 (.str "writes" 302)] 2,#[]⟩),(88,XQ "can_go" 306 49 3 85 86 .none .none 87 309),(89,CJ "can_go" lG FP 285 88),(95,XQ "next_in" 312 58 2 90 91 (.ref 92) (.ref 93) 94 318),(96,CJ "next_in" jF FP 285 95),(100,XQ "foremost" 321 63 2 97 98 .none .none 99 324),(101,CJ "foremost" iG FP 285 100),(107,XQ "next_past" 327 68 2 102 103 (.ref 104) (.ref 105) 106 336)]
noncomputable def kf4(P:Params):Ym:=[(108,CJ "next_past" gL FP 285 107),(114,XQ "settled" 339 75 2 109 110 (.ref 111) (.ref 112) 113 346),(115,CJ "settled" jE FP 285 114),(121,XQ "coming" 349 83 2 116 117 (.ref 118) (.ref 119) 120 355),(122,CJ "coming" lE FP 285 121),(128,XQ "brought_by" 358 89 3 123 124 (.ref 125) (.ref 126) 127 366),(129,CJ "brought_by" fW FP 285 128),(133,XQ "let_in" 369 94 3 130 131 .none .none 132 372)]
noncomputable def kf5(P:Params):Ym:=[(134,CJ "let_in" lD FP 285 133),(167,⟨.type "tuple",J,.seq #[.str "up" 422,.str "down" 423,.str "leave" 424,.str "stop" 425] 0,#[]⟩),(173,XQ "is_deed" 427 110 2 168 169 (.ref 170) (.ref 171) 172 435),(174,CJ "is_deed" jH uT 420 173),(180,XQ "can_do" 438 119 2 175 176 (.ref 177) (.ref 178) 179 446),(181,CJ "can_do" lH uT 420 180),(187,XQ "done" 449 133 3 182 183 (.ref 184) (.ref 185) 186 456),(188,CJ "done" sr uT 420 187)]
noncomputable def kf6(P:Params):Ym:=[(194,XQ "bring_ask" 459 136 3 189 190 (.ref 191) (.ref 192) 193 472),(195,CJ "bring_ask" gM uT 420 194),(201,XQ "bring_up" 475 146 3 196 197 (.ref 198) (.ref 199) 200 483),(202,CJ "bring_up" iH uT 420 201),(208,XQ "bring_down" 486 154 3 203 204 (.ref 205) (.ref 206) 207 493),(209,CJ "bring_down" fZ uT 420 208),(215,XQ "bring_leave" 496 157 3 210 211 (.ref 212) (.ref 213) 214 503),(216,CJ "bring_leave" fj uT 420 215)]
noncomputable def kf7(P:Params):Ym:=[(222,XQ "bring_stop" 506 160 3 217 218 (.ref 219) (.ref 220) 221 514),(223,CJ "bring_stop" fY uT 420 222),(227,XQ "bring_tick" 517 167 3 224 225 .none .none 226 520),(228,CJ "bring_tick" fX uT 420 227),(234,XQ "one_less" 523 173 1 229 230 (.ref 231) (.ref 232) 233 527),(235,CJ "one_less" iE uT 420 234),(239,XQ "turned" 530 175 3 236 237 .none .none 238 533),(240,CJ "turned" lC uT 420 239)]
noncomputable def kf8(P:Params):Ym:=[(246,XQ "settled_behind" 536 180 3 241 242 (.ref 243) (.ref 244) 245 543),(247,CJ "settled_behind" dL uT 420 246),(248,⟨.type "dict",J,.dict #[Bz P "read" 546 (.ref 195),Bz P "write" 547 (.ref 195),Bz P "up" 548 (.ref 202),Bz P "down" 549 (.ref 209),Bz P "leave" 550 (.ref 216),Bz P "stop" 551 (.ref 223),Bz P "tick" 552 (.ref 228)] 7,#[]⟩),(252,XQ "ran" 563 185 3 249 250 .none .none 251 566),(253,CJ "ran" yP VW 561 252),(259,XQ "walked" 569 189 3 254 255 (.ref 256) (.ref 257) 258 581),(260,CJ "walked" lA VW 561 259),(264,XQ "waited" 584 199 3 261 262 .none .none 263 587)]
noncomputable def kf9(P:Params):Ym:=[(265,CJ "waited" lB VW 561 264),(271,XQ "wait_told" 590 207 3 266 267 (.ref 268) (.ref 269) 270 599),(272,CJ "wait_told" gJ VW 561 271),(278,XQ "_law_cell_at" 604 216 2 273 274 (.ref 275) (.ref 276) 277 609),(279,CJ "_law_cell_at" eK oO 602 278),(285,XQ "_law_left" 612 220 2 280 281 (.ref 282) (.ref 283) 284 619),(286,CJ "_law_left" gR oO 602 285),(292,XQ "_law_far" 622 227 0 287 288 (.ref 289) (.ref 290) 291 627)]
noncomputable def kf10(P:Params):Ym:=[(293,CJ "_law_far" iJ oO 602 292),(299,XQ "_law_pick" 630 232 2 294 295 (.ref 296) (.ref 297) 298 636),(300,CJ "_law_pick" gP oO 602 299),(306,XQ "_law_rule" 639 240 1 301 302 (.ref 303) (.ref 304) 305 646),(307,CJ "_law_rule" gN oO 602 306),(313,XQ "_law_deed" 649 245 2 308 309 (.ref 310) (.ref 311) 312 656),(314,CJ "_law_deed" gT oO 602 313),(318,XQ "_law_fronts" 659 253 2 315 316 .none .none 317 662)]
noncomputable def kf11(P:Params):Ym:=[(319,CJ "_law_fronts" fq oO 602 318),(325,XQ "_law_lets" 665 264 3 320 321 (.ref 322) (.ref 323) 324 672),(326,CJ "_law_lets" gQ oO 602 325),(332,XQ "_law_put" 675 271 3 327 328 (.ref 329) (.ref 330) 331 681),(333,CJ "_law_put" iI oO 602 332),(337,XQ "_law_settled" 684 273 2 334 335 .none .none 336 687),(338,CJ "_law_settled" eJ oO 602 337),(342,XQ "_law_can" 690 289 2 339 340 .none .none 341 693)]
noncomputable def kf12(P:Params):Ym:=[(343,CJ "_law_can" iK oO 602 342),(347,XQ "_law_marked" 696 298 3 344 345 .none .none 346 699),(348,CJ "_law_marked" fo oO 602 347),(352,XQ "_law_done" 702 302 3 349 350 .none .none 351 705),(353,CJ "_law_done" gS oO 602 352),(357,XQ "_law_asked" 708 325 3 354 355 .none .none 356 711),(358,CJ "_law_asked" gc oO 602 357),(364,XQ "_law_waits" 714 334 3 359 360 (.ref 361) (.ref 362) 363 728)]
noncomputable def kf13(P:Params):Ym:=[(365,CJ "_law_waits" gb oO 602 364),(371,XQ "_law_long_row" 731 351 4 366 367 (.ref 368) (.ref 369) 370 743),(372,CJ "_law_long_row" dR oO 602 371),(376,XQ "law" 746 365 1 373 374 .none .none 375 749),(377,CJ "law" yQ oO 602 376)]
noncomputable def fK(P:Params):Ym:=(((kf0 P)++((kf1 P)++(kf2 P)))++(((kf3 P)++(kf4 P))++((kf5 P)++(kf6 P))))++(((kf7 P)++((kf8 P)++(kf9 P)))++(((kf10 P)++(kf11 P))++((kf12 P)++(kf13 P))))
noncomputable def kads:List gV:=[3,20,21,27,28,34,35,41,42,48,49,50,51,57,58,62,63,69,70,74,75,81,82,83,84,88,89,95,96,100,101,107,108,114,115,121,122,128,129,133,134,167,173,174,180,181,187,188,194,195,201,202,208,209,215,216,222,223,227,228,234,235,239,240,246,247,248,252,253,259,260,264,265,271,272,278,279,285,286,292,293,299,300,306,307,313,314,318,319,325,326,332,333,337,338,342,343,347,348,352,353,357,358,364,365,371,372,376,377]
theorem txt{w:tx}(X:(fK w.params).In h)(G:h.Ns Tx mg):Txt w (fK w.params) mg:=
 ⟨dB X G oO 279 602 278 (by kernel_rfl),dB X G oO 293 602 292 (by kernel_rfl),dB X G oO 286 602 285 (by kernel_rfl),dB X G oO 300 602 299 (by kernel_rfl),dB X G oO 307 602 306 (by kernel_rfl),dB X G oO 314 602 313 (by kernel_rfl),dB X G oO 333 602 332 (by kernel_rfl),dB X G oO 319 602 318 (by kernel_rfl),dB X G oO 326 602 325 (by kernel_rfl),dB X G oO 338 602 337 (by kernel_rfl),dB X G oO 343 602 342 (by kernel_rfl),dB X G oO 358 602 357 (by kernel_rfl),dB X G oO 348 602 347 (by kernel_rfl),dB X G oO 353 602 352 (by kernel_rfl),dB X G oO 372 602 371 (by kernel_rfl),dB X G md1 21 187 20 (by kernel_rfl),dB X G oO 365 602 364 (by kernel_rfl),dB X G RW 58 236 57 (by kernel_rfl),dB X G RW 63 236 62 (by kernel_rfl),dB X G FP 101 285 100 (by kernel_rfl),dB X G RW 82 236 81 (by kernel_rfl),dB X G FP 89 285 88 (by kernel_rfl),dB X G FP 108 285 107 (by kernel_rfl),dB X G FP 96 285 95 (by kernel_rfl),dB X G FP 122 285 121 (by kernel_rfl),dB X G RW 70 236 69 (by kernel_rfl),dB X G FP 134 285 133 (by kernel_rfl),dB X G FP 129 285 128 (by kernel_rfl),dB X G FP 115 285 114 (by kernel_rfl),dB X G RW 75 236 74 (by kernel_rfl),dB X G uT 195 420 194 (by kernel_rfl),dB X G uT 202 420 201 (by kernel_rfl),dB X G uT 247 420 246 (by kernel_rfl),dB X G uT 240 420 239 (by kernel_rfl),dB X G uT 209 420 208 (by kernel_rfl),dB X G uT 216 420 215 (by kernel_rfl),dB X G uT 223 420 222 (by kernel_rfl),dB X G uT 235 420 234 (by kernel_rfl),dB X G uT 228 420 227 (by kernel_rfl),dB X G uT 188 420 187 (by kernel_rfl),dB X G VX 49 202 48 (by kernel_rfl),dB X G VX 42 202 41 (by kernel_rfl),dB X G VX 28 202 27 (by kernel_rfl),dB X G VX 35 202 34 (by kernel_rfl),dB X G uT 174 420 173 (by kernel_rfl),dB X G uT 181 420 180 (by kernel_rfl),dB X G VW 260 561 259 (by kernel_rfl),dB X G VW 253 561 252 (by kernel_rfl),dB X G VW 272 561 271 (by kernel_rfl),dB X G VW 265 561 264 (by kernel_rfl),dB X G oO 377 602 376 (by kernel_rfl),abw X G (by kernel_rfl),abw X G (by kernel_rfl),abw X G (by kernel_rfl),abw X G (by kernel_rfl),abw X G (by kernel_rfl),abw X G (by kernel_rfl),abw X G (by kernel_rfl),abw X G (by kernel_rfl),abw X G (by kernel_rfl),abw X G (by kernel_rfl),abw X G (by kernel_rfl),abw X G (by kernel_rfl),abw X G (by kernel_rfl),uh (acw X G (show W.nsIn (fK w.params) Tx "BRINGS" = Y (Y (.ref 248)) by kernel_rfl)) (show(fK w.params).lookup 248=Y ⟨.type "dict",J,.dict #[⟨PyData.keyHash w.params "read",.str "read" 546,.ref 195⟩,⟨PyData.keyHash w.params "write",.str "write" 547,.ref 195⟩,⟨PyData.keyHash w.params "up",.str "up" 548,.ref 202⟩,⟨PyData.keyHash w.params "down",.str "down" 549,.ref 209⟩,⟨PyData.keyHash w.params "leave",.str "leave" 550,.ref 216⟩,⟨PyData.keyHash w.params "stop",.str "stop" 551,.ref 223⟩,⟨PyData.keyHash w.params "tick",.str "tick" 552,.ref 228⟩] 7,#[]⟩ by kernel_rfl) (.cons (.cons (.cons (.cons (.cons (.cons (.cons (.nil)))))))) (show List.Nodup ([.inr "read",.inr "write",.inr "up",.inr "down",.inr "leave",.inr "stop",.inr "tick"]:List bK) by decide +kernel) (.cons (acw X G (show W.nsIn (fK w.params) Tx "bring_ask" = Y (Y (.ref 195)) by kernel_rfl)) (.cons (acw X G (show W.nsIn (fK w.params) Tx "bring_ask" = Y (Y (.ref 195)) by kernel_rfl)) (.cons (acw X G (show W.nsIn (fK w.params) Tx "bring_up" = Y (Y (.ref 202)) by kernel_rfl)) (.cons (acw X G (show W.nsIn (fK w.params) Tx "bring_down" = Y (Y (.ref 209)) by kernel_rfl)) (.cons (acw X G (show W.nsIn (fK w.params) Tx "bring_leave" = Y (Y (.ref 216)) by kernel_rfl)) (.cons (acw X G (show W.nsIn (fK w.params) Tx "bring_stop" = Y (Y (.ref 223)) by kernel_rfl)) (.cons (acw X G (show W.nsIn (fK w.params) Tx "bring_tick" = Y (Y (.ref 228)) by kernel_rfl)) (.nil)))))))),um (acw X G (show W.nsIn (fK w.params) Tx "FAVOURED" = Y (Y (.ref 83)) by kernel_rfl)) (show(fK w.params).lookup 83=Y ⟨.type "dict",J,.dict #[⟨PyData.keyHash w.params "rows",.str "rows" 287,.none⟩,⟨PyData.keyHash w.params "readers",.str "readers" 288,.str "read" 289⟩,⟨PyData.keyHash w.params "writers",.str "writers" 290,.str "write" 291⟩,⟨PyData.keyHash w.params "turns",.str "turns" 292,.str "write" 293⟩] 4,#[]⟩ by kernel_rfl) (.cons (.cons (.cons (.cons (.nil))))) (show List.Nodup ([.inr "rows",.inr "readers",.inr "writers",.inr "turns"]:List bK) by decide +kernel) (.cons .non rfl (λz z z=>.non) (.cons (V.str "read") ⟨_,rfl⟩ (λz z z=>.str _) (.cons (V.str "write") ⟨_,rfl⟩ (λz z z=>.str _) (.cons (V.str "write") ⟨_,rfl⟩ (λz z z=>.str _) (.nil))))),⟨_,V.int 9,acw X G (show W.nsIn (fK w.params) Tx "GREATEST_LEFT" = Y (Y (.int 9 244)) by kernel_rfl),⟨_,rfl⟩,λμ H=>.int _⟩,⟨_,.ref 167,acw X G (show W.nsIn (fK w.params) Tx "GUEST_WORDS" = Y (Y (.ref 167)) by kernel_rfl),rfl,λμ H=>.ktup (vs:=[V.str "up",V.str "down",V.str "leave",V.str "stop"]) ⟨_,_,_,(show(fK w.params).lookup 167=Y ⟨.type "tuple",J,.seq #[.str "up" 422,.str "down" 423,.str "leave" 424,.str "stop" 425] 0,#[]⟩ by kernel_rfl),rfl,rfl,rfl,(show 4<=Ph by decide),.cons ⟨_,rfl⟩ (.cons ⟨_,rfl⟩ (.cons ⟨_,rfl⟩ (.cons ⟨_,rfl⟩ (.nil))))⟩ (.cons (.str _) (.cons (.str _) (.cons (.str _) (.cons (.str _) (.nil)))))⟩,⟨_,.ref 51,acw X G (show W.nsIn (fK w.params) Tx "WANTS" = Y (Y (.ref 51)) by kernel_rfl),rfl,λμ H=>.ktup (vs:=[V.str "read",V.str "write"]) ⟨_,_,_,(show(fK w.params).lookup 51=Y ⟨.type "tuple",J,.seq #[.str "read" 241,.str "write" 242] 0,#[]⟩ by kernel_rfl),rfl,rfl,rfl,(show 2<=Ph by decide),.cons ⟨_,rfl⟩ (.cons ⟨_,rfl⟩ (.nil))⟩ (.cons (.str _) (.cons (.str _) (.nil)))⟩,um (acw X G (show W.nsIn (fK w.params) Tx "WORD_WITHIN" = Y (Y (.ref 84)) by kernel_rfl)) (show(fK w.params).lookup 84=Y ⟨.type "dict",J,.dict #[⟨PyData.keyHash w.params "read",.str "read" 299,.str "reads" 300⟩,⟨PyData.keyHash w.params "write",.str "write" 301,.str "writes" 302⟩] 2,#[]⟩ by kernel_rfl) (.cons (.cons (.nil))) (show List.Nodup ([.inr "read",.inr "write"]:List bK) by decide +kernel) (.cons (V.str "reads") ⟨_,rfl⟩ (λz z z=>.str _) (.cons (V.str "writes") ⟨_,rfl⟩ (λz z z=>.str _) (.nil))),⟨_,.ref 50,acw X G (show W.nsIn (fK w.params) Tx "WRITING_WORDS" = Y (Y (.ref 50)) by kernel_rfl),rfl,λμ H=>.ktup (vs:=[V.str "writes",V.str "raised"]) ⟨_,_,_,(show(fK w.params).lookup 50=Y ⟨.type "tuple",J,.seq #[.str "writes" 238,.str "raised" 239] 0,#[]⟩ by kernel_rfl),rfl,rfl,rfl,(show 2<=Ph by decide),.cons ⟨_,rfl⟩ (.cons ⟨_,rfl⟩ (.nil))⟩ (.cons (.str _) (.cons (.str _) (.nil)))⟩⟩
end K27
open PySem.W
set_option maxRecDepth 100000 in
set_option maxHeartbeats 0 in
theorem PySem.Challenge.cw_manyreaders_k27_rows_within_the_numbers_holds : PySem.Challenge.rw_manyreaders_k27_rows_within_the_numbers.Holds := by
 rw[K27.lw_eq];w_on;o_law;o_head (kHook K27.fK K27.kads (λz=>by kernel_rfl));(case hw=>w_witness2);exact K27.walk (l:=K27.lw) rfl rfl rfl (λw h Y0=>PySem.W.kIn_of Y0) K27.Pp λw mg h KX G=>K27.txt KX G

end
