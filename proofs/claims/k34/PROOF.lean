import PyProof.Rows.All
import Wide.All
import OpenK.AllK
import Wide.FinOn
import Lean
import PyProof.EqAt
import PyProof.EqKinds
import PyProof.TupleCall
import PySem.Challenge.RW_manyreaders_k34_starving_rows_shown
set_option genSizeOf false
set_option genSizeOfSpec false
set_option compiler.extract_closed false
set_option bootstrap.genMatcherCode false
open Option renaming some -> Y,none -> L
local macro_rules|`(tactic|ac_rfl)=>`(tactic|exact⟨rfl,rfl,rfl,by decide +kernel,rfl,by decide +kernel,by decide +kernel⟩)
noncomputable section
set_option Elab.async false
set_option linter.all false
set_option maxRecDepth 100000
open PySem renaming Value -> ce,Shared -> gV,Addr -> td,Expr -> tx,Program -> vx,World -> Pn,Stmt -> QP,Around -> RQ,Heap -> Ud,sizeLine -> UJ,starEach -> Wj,foldedSetIterable -> XM,mainGlobals -> Zn,compareOp -> ZZ,binaryOp -> aeF,wpAny -> aeG
open PySem.W renaming Frag -> aeH
open List renaming replicate -> aeI
open Bool renaming false_ne_true -> aeJ
open PySem PySem.Spec PyProof.Rows
section
def litT(t:String):Lean.Term:=
 let i(c:String):Lean.Term:=Lean.mkIdent c.toName
 let p(x:List Lean.Term):Lean.Term:=match x.reverse with|[]=>i "x"|[f]=>f|f::as=>Lean.Syntax.mkApp f as.toArray
 let n(k:Lean.Name)(x:Array Lean.Syntax):Lean.Term:=⟨.node .none k x⟩
 let m:=Lean.mkAtom
 let a(c:String):Lean.Term:=if c.front='.' then n ``Lean.Parser.Term.dotIdent #[m ".",Lean.mkIdent (.str .anonymous (String.ofList (c.toList.drop 1)))] else if c="_" then n ``Lean.Parser.Term.hole #[m "_"] else if c.front='\'' then ⟨Lean.Syntax.mkCharLit (c.toList.getD 1 ' ')⟩ else if c.front.isDigit then (if c.toList.contains 'e' then ⟨Lean.Syntax.mkScientificLit c⟩ else ⟨Lean.Syntax.mkNumLit c⟩) else match c.toList.reverse with|d::'.'::r=>if d.isDigit then n ``Lean.Parser.Term.proj #[i (String.ofList r.reverse),m ".",Lean.Syntax.mkLit Lean.fieldIdxKind (String.singleton d)] else i c|_=>i c
 let g(k:Char)(l:List Lean.Term):Lean.Term:=if k='[' then l.foldr (λx y=>p [y,x,i "List.cons"]) (i "List.nil") else if k='⟨' then n ``Lean.Parser.Term.anonymousCtor #[m "⟨",Lean.Syntax.mkSep (l.map (·.raw)).toArray (m ","),m "⟩"] else if k=':' then n ``Lean.Parser.Term.typeAscription #[n ``Lean.Parser.Term.hygienicLParen #[m "(",.node .none `hygieneInfo #[Lean.mkIdent .anonymous]],l.headD (i "x"),m ":",Lean.mkNullNode #[l.getLastD (i "x")],m ")"] else match l.reverse with|[]=>i "x"|x::r=>r.foldl (λy x=>p [y,x,i "Prod.mk"]) x
 let f(s:String×List (Char×List Lean.Term×List Lean.Term)):=if s.1="" then s.2 else match s.2 with|(k,d,x)::r=>(k,d,a s.1::x)::r|_=>[]
 let s:=t.foldl (λs c=>if c=' ' then ("",f s) else if "([⟨".toList.contains c then ("",(c,[],[])::f s) else if c=','||c=':' then ("",match f s with|(k,d,x)::r=>(if c=':' then ':' else k,p x::d,[])::r|_=>[]) else if ")]⟩".toList.contains c then ("",match f s with|(k,d,x)::(h,e,y)::r=>(h,e,g k (if x.isEmpty then d else p x::d).reverse::y)::r|_=>[]) else (s.1.push c,s.2)) ("",[('(',[],[])])
 match f s with|(_,_,x)::_=>p x|_=>i "x"
local macro_rules|`(command|def $x:declId $y:optDeclSig $v:declVal)=>`(command|noncomputable def $x:declId $y:optDeclSig $v:declVal)
local macro_rules|`(tactic|omega)=>`(tactic|lia)
set_option hygiene false
local macro_rules|`($c:scientific)=>if c.getScientific.2.1 then match c.getScientific.1 with|0=>`(by omega)|1=>`(by decide)|4=>`(by simp)|8=>`(Str×GI)|9=>`(by simp;omega)|15=>`(by symm)|24=>`(td×Obj)|30=>`(by rw[aai];omega)|33=>`(hp.objs.size+1)|39=>`(λz=>nomatch z)|n=>pure (litT ((("||.int (g:Int)|model X.prog X.w||.int (n:Int)|oE X N' scope C s H fp|.ListComp elt [⟨tg,iter,ifs,0⟩,⟨tg2,iter2,ifs2,0⟩] scope pos|||aB aD '0' 0e0|.ref S.length|(false,eval e X.env)|ag 'c' (ag 'd' aZ)|model prog w||.bl false|excClassObj nm q C N bs bm hdct sn sub ab col dd k0 k1 k2 k3 k5 newId|ag 'b' (ag 'c' aZ)|mC .non|ns.map .int|Wj es X.env|.lst xs|C' A s H fp||(.bl false,S)|l.map Dd.d|.ListComp elt [⟨tg,iter,ifs,0⟩] scope pos|(e.g:Int)|(.bl true,S)||ha pins s σ H _ I h|aS (du .tup)||ag 'c' (ag 'd' (ag 'e' aZ))|aa '1' ak|aB aD '0' 3e0|aa '3' ak|evs.map Ev.d||aW es (bx dd)|aB aD '1' 0e0|aa '2' ak|.bl true|au 2 bn (aa '0' (aa 2e0 ak))|.inl rfl|esD R.2|aB aD '1' 1e0|EP X pins σ Q|.str (bI e.wr)|aa '4' ak|aa '5' (aa '2' (aa '1' (aa (aB aD '4' (au 2 bn (aa '3' (aa 10e0 ak)))) ak)))|.tup xs|du .tup|aB aD '0' 1e0|fv X.K μ H dx|.int (i:Int)|aB aH (aB aH (bw '0' bD (bS 2e0)) (bb (aa 1e0 ak))) (bw '0' (bS 3e0) bD)|(false,eval a X.env)|Option Nat|keywordEach [] X.env|.builtin id|.str k.s|W.fnOf x qual (iL st) (aK st) (ax st) .none kV doc pm an cdv ct|upd H p o|bI e.wr|.Name x pos|uD c scope|aa 0e0 (aa (aB pz '0' 1e0) ak)|ha pos pins s σ H _ I h|Value.ref h₁.objs.size|he pins s σ H _ I h|.Name x p|es.map En.d|.str (bI wr)|aB aD '0' 2e0|((gX items.size 0 lo:Nat):Int)|ag 'c' (ag 'd' (ag 'e' (ag 'f' aZ)))|aa '0' ak|wX CX P w K mg base N qual scope f cdv A outer s H E|.ref it|.ref s.heap.objs.size|.ListComp elt [g1,⟨tg2,iter2,ifs2,0⟩] scope pos|I.ok.hd hc|.int (k:Int)|c.mt.contains 996000|c.mt.contains 990000|I1.hok.fresh (aao _)|.For tg iter body [] pos|cb [m0,m1,m2,m3]|.dK kvs|.Tuple [a,b] k2 pt2|ns.map V.int|eval o X.env|aI (aB Uh (au 2 bn (aa '1' (aa 9e0 ak))) 0e0)|qv c E T elt gens scope p.line|bw '0' bD (bS 2e0)|bw '0' (bS 3e0) bD|ag 'g' (ag 'h' aZ)|aB nv '0' '1'|.Compare a [op,op'] [b,c] pos|.Attribute o name apos|((ws.count Wd.rising:Nat):Int)|aa '6' ak|Option ce|(x.g:Int)|aB aD '2' (au 2 bn (aa '4' (aa 8e0 ak)))|.lst vs|ns.map D.int|envOfC qual scope s.heap.objs.size f cd|aaI (aaD (aaq e) (I.ok.cab x c hfn hc))|ho pins s2 σ H2 x y v u _ I2 r1 r2 q2|zU (body.map (F c))|aa '8' ak|aB kR (aB aH '1' '0') '2'|I.hok.fresh (aao _)|.nx env S|.inl (.inl q)|ag 'h' (ag 'i' (ag 'j' (ag 'k' aZ)))|.Tuple es k pos|hb pins s1 σ H1 _ I1 q1|aI (aB cJ '5' 0e0)|upd H1 s2.heap.objs.size (.lst [])|gy hE _|(e.g:Nat)|aaM _ (aaM _ (oO hb e))|.str (dS (.ask wr g t))|.Compare a [op] [b] pos|Y (.Name y py)|model P w|evI c (E c) tg it|ag 'a' aZ|Option tx|.tail _ (.head _)|(.lst xs,S)|.call (.ref fa) ⟨[.ref a],[]⟩|aaD (aaq e) I.ok.above|.bool true|ws.map Wd.d|fv X.K μ H y|aB aD '1' 2e0|ho pins s σ H _ I h|HT.gX xs.length 0 lo|qB X.env.cells scope.names []|aa 0e0 ak|dG (cz n) xs|.tup [x,y,z]|.str (dS dd)|m.map Dd.d|Ne.symm hj|.tup [x,y]|.UnaryOp .Not a pos|((gX n 0 lo:Nat):Int)|upd H' x (.ext (Hz x C dx))|aat (aat ⟨_,rfl,aat h⟩)|aB dg '0' (aB AL 10e0 60e0)|((ws.count Wd.reads:Nat):Int)|.lst (fs.map En.d)|.Subscript o i pos|ys.map .str|ih (hc _ p)|gH (ir N st gs mt) (aK st)|.nx env' S'|aaf _ hx|.str w.s|zs.map vH|upd H a o|(dm (ws.set i w),S)|cb [l0,l1,l2]|bo 2 (ag 'a' (ag 'g' aZ))|aB aD '2' 0e0|OR c (E c) tg|I.base.keep b o e n hb hx|ForInStep.yield r|(.tup xs,S)|.str (toString i)|.rt d S|((ws.count Wd.out:Nat):Int)|(.lst (iC xs l.1 h.1),h.2)|.Constant (.str x) j pos|lG cap env|l.map Ev.d|f (.int i t) (.int j u)|aS (du .lst)|.xd [(fl,y)]|(.lst q.1,q.2)|vw C (hE _ _ C)|qK X.K f|mb ds d|(false,S)|aaf _ m|aae hlt|aX N ds|aV (aB aD '2' 1e0) 'c'|I.base.free b o e n hx|.type T|.rt d s|.nx e s|.nx e S|(.lst (iC xs l q.1),q.2)|.int e.m|.bool b|ps.zip us|env.set i L|e1.trans e2|AQ (E c) es|.Dict keys values pos|((0:Nat):Int)|TP X pins σ Q|(R.1,xu r w R.2)|.tup [x,y,z,w]|hi pins s σ H _ I h|zL c scope|xs.map enc|(ws.length:Nat)|(wV (rW r R),S)|start N vs|(ns.length:Int)|i σ H Q q|(es.map En.d,S)|(es.length:Nat)|cZ X.prog X.w|aa (bb ak) ak|.lst ys|.ext φ|.dct ks vs|.BoolOp .And vs pos|vs.map E|l.map ni|aeF .Add|aav.mp z|HQ scope|.inr rfl|upd H a (.lst vs')|upd H a (.dK kvs')|gX items.size 0 lo|bw '6' bD (bS 2e0)|bw '0' bD (bS 3e0)|ag 'f' (ag 'g' aZ)|ag 'a' (ag 'i' aZ)|ag 'a' (ag 'd' aZ)|ag 'a' (ag 'c' aZ)|aa '0' (aa 6e0 ak)|ForInStep.yield ok|(.lst (iC xs l h),S)|.BoolOp .Or vs pos|neC b o e hx|.int (f:Int)|ks.zip vs|aeF .Mult|aa 4e0 ak|Y (i:Int)|.lst (xs.set j d)|.UnaryOp op a pos|.Slice lo hi L p2|.BinOp a op b pos|.Assign [t] e pos".splitOn "|").getD n ""))) else Lean.Macro.throwUnsupported
set_option hygiene true
def aaa:=@List.getElem?_eq_some_iff
def aab:=@wpAny_bind
def aac:=@List.mem_cons_self
def aad:=@Bool.and_eq_true
def aae:=@List.getElem?_eq_getElem
def aaf:=@List.mem_cons_of_mem
def aag:=@Heap.get?_push_of_some
def aah:=@List.map_cons
def aai:=@List.length_map
def aaj:=@List.length_append
def aak:=@List.size_toArray
def aal:=@decide_eq_true
def aam:=@List.length_cons
def aan:=@List.all_eq_true
def aao:=@Nat.le_refl
def aap:=@decide_eq_false
def aaq:=@Heap.lt_size
def aar:=@List.mem_append
def aas:=@if_pos
def aat:=@wpAny_pure
def aau:=@Bool.not_true
def aav:=@List.mem_singleton
def aaw:=@Heap.get?_update_other
def aax:=@Bool.not_false
def aay:=@List.getElem?_append_left
def aaz:=@Heap.get?_push_size
def aaA:=@List.mem_of_getElem?
def aaB:=@Option.some.inj
def aaC:=@List.getElem?_set_ne
def aaD:=@Nat.lt_of_lt_of_le
def aaE:=@List.mem_map
def aaF:=@Nat.le_trans
def aaG:=@List.mem_cons
def aaH:=@Bool.eq_iff_iff
def aaI:=@Nat.ne_of_lt
def aaJ:=@List.append_nil
def aaK:=@wpAny_mono
def aaL:=@List.getElem?_set_self
def aaM:=@List.mem_append_right
def aaN:=@List.replicate_succ
def aaO:=@List.map_append
def aaP:=@List.append_assoc
def aaQ:=@Bool.false_eq_true
def aaR:=@List.filter_cons
def aaS:=@List.any_eq_true
def aaT:=@List.filterMap_cons
def aaU:=@of_decide_eq_true
def aaV:=@decide_eq_true_eq
def aaW:=@List.mem_append_left
def aaX:=@beq_eq_false_iff_ne
def aaY:=@List.mem_filter
def aaZ:=@List.length_singleton
def aba:=@Heap.get?_update_self
def abb:=@List.mem_of_mem_take
def abc:=@Bool.false_and
def abd:=@wpAny_holding
def abe:=@List.all_cons
def abf:=@wpAny_newObj_type
def abg:=@W.mg_none_of
def abh:=@List.map_map
def abi:=@List.getElem?_map
def abj:=@List.flatten_cons
def abk:=@List.length_nil
def abl:=@List.find?_cons
def abm:=@Eq.trans
def abn:=@Bool.true_and
def abo:=@List.getElem?_append_right
def abp:=@Int.toNat_natCast
def abq:=@List.drop_eq_getElem_cons
def abr:=@List.any_cons
def abt:=@Bool.and_false
def abu:=@List.length_filter_le
def abv:=@List.eq_nil_of_length_eq_zero
def abw:=@Option.some.injEq
def abx:=@wpAny_field
def aby:=@PySem.mem_of_lookup
def abz:=@PyProof.Rows.callWith_type1
def abA:=@List.filter_eq_self
def abB:=@List.length_take
def abC:=@wpAny_standAt
def abD:=@wpAny_truthy_bool
def abE:=@wpAny_loadPart_at
def abF:=@PyProof.Rows.slot_tuple_getitem
def abG:=@Option.isSome_iff_exists
def abH:=@List.nodup_cons
def abI:=@Nat.lt_irrefl
def abJ:=@W.kia_one
def abK:=@List.zipIdx_cons
def abL:=@wpAny_setField
def abM:=@List.drop_zero
def abN:=@List.take_of_length_le
def abO:=@wpAny_Call_Name_kw
def abP:=@if_false
def abQ:=@Obj.data_mapFields
def abR:=@List.findIdx?_cons
def abS:=@wpAny_passesOwn
def abT:=@decide_true
def abU:=@codeAny_mono
def abV:=@Obj.isFreed_of_fields
def abW:=@Nat.ne_of_gt
def abX:=@List.any_map
def abY:=@List.all_map
def abZ:=@List.nodup_append
def aca:=@List.map_take
def acb:=@F.slot_tuple_iterator_next
def acd:=@Array.getElem?_eq_some_iff
def ace:=@W.mg_of
def acf:=@List.not_mem_nil
def acg:=@List.getElem_mem
def ach:=@decide_false
def aci:=@call_meets
def acj:=@wpAny_execs_nil
def ack:=@wpAny_callSpecial?_slot
def acl:=@Option.bind_eq_some_iff
def acm:=@List.findIdx?_eq_some_iff_getElem
def acn:=@Int.emod_nonneg
def aco:=@wpAny_pyIter_list
def acp:=@Nat.zero_le
def acq:=@List.mem_range
def acr:=@List.take_append_drop
def acs:=@List.mem_iff_getElem?
def acu:=@if_true
def acv:=@List.lookup_cons
def acw:=@List.length_drop
def acx:=@List.drop_length
def acy:=@List.mem_of_mem_drop
def acz:=@List.getElem_toArray
def acA:=@Calls.evalArgs_plain
def acB:=@List.map_drop
def acC:=@wpAny_isSubtype_exc
def acD:=@List.count_cons
def acE:=@Bool.or_eq_true
def acF:=@Array.length_toList
def acG:=@Calls.Name_function_global
def acH:=@decide_eq_true_iff
def acI:=@Nat.zero_add
def acJ:=@List.map_nil
def acK:=@List.filter_congr
def acL:=@AutoSeq1.sub_tuple_tuple
def acM:=@sizeLine_eq
def acN:=@List.filter_cons_of_pos
def acO:=@List.filter_cons_of_neg
def acP:=@wpAny_call_entry
def acQ:=@wpAny_Call_method_late
def acR:=@Calls.callWith_builtin
def acS:=@Nat.min_eq_left
def acT:=@List.length_set
def acU:=@F.slot_int_rmul
def acV:=@List.forall_mem_cons
def acW:=@Heap.size_push
def acX:=@Nat.le_succ
def acY:=@List.map_congr_left
def acZ:=@wpAny_pyIter_tuple
def ada:=@assignInOrder_cons
def adb:=@Nat.lt_of_le_of_lt
def adc:=@List.find?_eq_none
def add:=@List.contains_cons
def ade:=@Int.emod_lt_of_pos
def adf:=@F.args_tuple_add_2
def adg:=@Bool.and_true
def adh:=@typeIs_int
def adi:=@List.length_range
def adj:=@List.flatMap_cons
def adk:=@List.any_eq_false
def adl:=@F.slot_list_count
def adm:=@F.entry_tuple_add
def adn:=@Nat.mul_comm
def ado:=@Nat.le_of_lt
def adp:=@wpAny_execs_cons
def adq:=@noFill_tuple_add
def adr:=@Option.getD_some
def ads:=@F.slot_tuple_add
def adt:=@AutoSeq1.idx_int
def adu:=@or_false
def adv:=@List.countP_eq_length_filter
def adw:=@F.args_tuple_iterator_next_1
def adx:=@W.kitx_list
def ady:=@PassesOwn.never
def adz:=@List.of_mem_zip
def adA:=@List.nil_append
def adB:=@Int.natCast_add
def adC:=@F.slot_dict_get
def adD:=@F.entry_tuple_iterator_next
def adE:=@wpAny_binaryOp_repeat_ref
def adF:=@List.findIdx?_eq_none_iff
def adG:=@wpAny_rule
def adH:=@wpAny_comprehension_free
def adI:=@wpAny_call
def adJ:=@intBits_le
def adK:=@Nat.not_lt
def adM:=@List.getElem?_take_of_lt
def adN:=@seq_tuple_add
def adO:=@Paired.length
def adP:=@List.take_nil
def adQ:=@List.getElem?_cons_zero
def adR:=@List.getElem?_cons_succ
def adS:=@Calls.loadGlobal_global
def adT:=@BEq.comm
def adU:=@wpAny_pyNext_list_item
def adV:=@subscriptTail_builtinR
def adW:=@Option.map_eq_some_iff
def adX:=@Nat.le_of_succ_le_succ
def adY:=@List.range_succ_eq_map
def adZ:=@List.drop_of_length_le
def aea:=@wpAny_typeOf
def aeb:=@wpAny_pyNext_list_end
def aec:=@seqIndex_neg
def aed:=@concat_meets
def aee:=@call_meetsIn
def aef:=@W.callWith_K
def aeg:=@Nat.le_of_eq
def aeh:=@Nat.add_zero
def aei:=@Int.le_trans
def aej:=@Bool.or_true
def aek:=@Bool.not_not
def ael:=@List.mem_iff_getElem
def aem:=@Heap.get?_none_of_le
def aen:=@seqIndex_of
def aeo:=@entry_tuple_getitem
def aep:=@W.kitx_dict
def aeq:=@Nat.mul_le_mul_left
def aer:=@Heap.get?_update_ne
def aes:=@Heap.SameBut.update
def aet:=@wpAny_entryPlaceOf
def aeu:=@args_tuple_getitem
def aev:=@Option.isNone_some
def aew:=@Option.isNone_none
def aex:=@List.mem_filterMap
def aey:=@F.slot_tuple_index
def aez:=@F.slot_tuple_count
def aeA:=@F.slot_list_append
def aeB:=@F.slot_dict_update
def aeC:=@Code.quiet_builtin
def aeD:=@Calls.spliced_cons
def aeE:=@Calls.Constant_str
namespace L2
noncomputable abbrev cj:=Sum Int Str
def BF:cj->ce->Bool
 | .inl k,v=>Value.isInt k v
 | .inr x,v=>Value.isStrOf x v
def keyH(w:Pn):cj->Int
 | .inl k=>hashInt k
 | .inr x=>hashStr w x
theorem eH:∀ {k:cj} {v:ce},BF k v=true->(∃ i t,k=Sum.inl i/\v=Value.int i t)\/(∃ x t,k=Sum.inr x/\v=Value.str x t)
 | .inl i,v,h=>by
  obtain⟨t,e⟩:=Value.isInt_shape (k:=i) (v:=v) h;exact .inl ⟨i,t,rfl,e⟩
 | .inr x,v,h=>by
  obtain⟨t,e⟩:=Value.isStrOf_shape (x:=x) (v:=v) h;exact .inr ⟨x,t,rfl,e⟩
theorem Ny(i:Int)(t:Tok):BF (.inl i) (.int i t)=true:=by simp[BF,Value.isInt]
theorem Nx(x:Str)(t:Tok):BF (.inr x) (.str x t)=true:=by simp[BF,Value.isStrOf]
theorem qa9(a b:Int):decide ((Sum.inl a:cj)=Sum.inl b)=(a==b):=by
 by_cases e:a=b
 ·subst e;simp
 ·have h:¬ (Sum.inl a:cj)=Sum.inl b:=λq=>e (Sum.inl.inj q);rw[aap h];exact(aaX.mpr e).symm
theorem qa6(a b:Str):decide ((Sum.inr a:cj)=Sum.inr b)=decide (a=b):=by
 by_cases e:a=b
 ·subst e;simp
 ·have h:¬ (Sum.inr a:cj)=Sum.inr b:=λq=>e (Sum.inr.inj q);rw[aap h,aap e]
theorem qa8(a:Int)(b:Str):decide ((Sum.inl a:cj)=Sum.inr b)=false:=aap (λq=>nomatch q)
theorem qa7(a:Str)(b:Int):decide ((Sum.inr a:cj)=Sum.inl b)=false:=aap (λq=>nomatch q)
def cZ(prog:vx)(w:Pn):PySem.KeyKind prog w cj where
 is:=BF
 hash:=keyH w
 inj:=λv a b ha hb=>by
  rcases eH ha with ⟨i,t,rfl,rfl⟩ | ⟨x,t,rfl,rfl⟩
  ·rcases eH hb with ⟨j,u,rfl,e⟩ | ⟨y,u,rfl,e⟩
   ·injection e with e1 _;rw[e1]
   ·exact nomatch e
  ·rcases eH hb with ⟨j,u,rfl,e⟩ | ⟨y,u,rfl,e⟩
   ·exact nomatch e
   ·injection e with e1 _;rw[e1]
 byValue:=λk v h=>by
  rcases eH h with ⟨i,t,rfl,rfl⟩ | ⟨x,t,rfl,rfl⟩<;>rfl
 pyHash:=λhv h=>by
  rcases eH hv with ⟨i,t,rfl,rfl⟩ | ⟨x,t,rfl,rfl⟩
  ·exact wpAny_pyHash_int h
  ·exact wpAny_pyHash_str h
 eqBool:=λhu hv h=>by
  rcases eH hu with ⟨i,t,rfl,rfl⟩ | ⟨x,t,rfl,rfl⟩
  ·rcases eH hv with ⟨j,u,rfl,rfl⟩ | ⟨y,u,rfl,rfl⟩
   ·rw[qa9] at h;exact wpAny_eqBool_int h
   ·rw[qa8] at h;exact SeqAt.EqAt.int_str i t y u _ _ _ _ h
  ·rcases eH hv with ⟨j,u,rfl,rfl⟩ | ⟨y,u,rfl,rfl⟩
   ·rw[qa7] at h;exact SeqAt.EqAt.str_int x t j u _ _ _ _ h
   ·rw[qa6] at h;exact wpAny_eqBool_str h
 «strs»:=λk x t v h=>by
  rcases eH h with ⟨i,u,rfl,e⟩ | ⟨y,u,rfl,e⟩
  ·exact nomatch e
  ·injection e with e1 _;subst e1;cases v<;>rfl
theorem FP(prog:vx)(w:Pn)(i:Int)(t:Tok):(cZ prog w).is (.inl i) (.int i t)=true:=Ny i t
theorem FO(prog:vx)(w:Pn)(x:Str)(t:Tok):(cZ prog w).is (.inr x) (.str x t)=true:=Nx x t
inductive V where
 | non | bl (b:Bool) | int (i:Int) | str (x:Str) | byt (b:Array UInt8) | flt (b:UInt64) | ref (a:td) | ty (n:String)
 deriving DecidableEq
def RelV:V->ce->Prop
 | .non,u=>u=Value.none
 | .bl b,u=>u=Value.bool b
 | .int i,u=>∃ t,u=Value.int i t
 | .str x,u=>∃ t,u=Value.str x t
 | .byt b,u=>∃ t,u=Value.bytes b t
 | .flt b,u=>∃ t,u=Value.float b t
 | .ref a,u=>u=Value.ref a
 | .ty n,u=>u=Value.type n
noncomputable abbrev Vals:List V->List ce->Prop:=Paired RelV
theorem Vals.length{xs:List V}{us:List ce}(r:Vals xs us):xs.length=us.length:=adO r
theorem Vals.get:∀ {xs:List V} {us:List ce} {i:Nat} {x:V},Vals xs us->xs[i]?=Y x->∃ u,us[i]?=Y u/\RelV x u
 | _,_,_,_,.nil,e=>by simp at e
 | _,_,0,_,.cons r _,e=>by simp at e;subst e;exact⟨_,rfl,r⟩
 | _,_,i+1,x,.cons _ t,e=>by
  obtain⟨u,h1,h2⟩:=Vals.get (i:=i) (x:=x) t (by simpa using e);exact⟨u,by simpa using h1,h2⟩
theorem Vals.set(r:RelV x u):∀ {xs:List V} {us:List ce} (i:Nat),Vals xs us->Vals (xs.set i x) (us.set i u)
 | _,_,_,.nil=>.nil
 | _,_,0,.cons _ t=>.cons r t
 | _,_,i+1,.cons q t=>.cons q (Vals.set r i t)
theorem Vals.append:∀ {xs ys:List V} {us ws:List ce},Vals xs us->Vals ys ws->Vals (xs++ys) (us++ws)
 | _,_,_,_,.nil,s=>s
 | _,_,_,_,.cons r t,s=>.cons r (Vals.append t s)
theorem Vals.take:∀ {xs:List V} {us:List ce} (n:Nat),Vals xs us->Vals (xs.take n) (us.take n)
 | _,_,0,_=>.nil
 | _,_,_+1,.nil=>.nil
 | _,_,n+1,.cons r t=>.cons r (Vals.take n t)
theorem Vals.drop:∀ {xs:List V} {us:List ce} (n:Nat),Vals xs us->Vals (xs.drop n) (us.drop n)
 | _,_,0,r=>r
 | _,_,_+1,.nil=>.nil
 | _,_,n+1,.cons _ t=>Vals.drop n t
def RelO:Option V->Option ce->Prop
 | some v,Y u=>RelV v u
 | none,L=>True
 | _,_=>False
def KV{κ:Type}:List (κ×V)->List (κ×ce)->Prop:=Paired λ(p:κ×V) (q:κ×ce)=>p.1=q.1/\RelV p.2 q.2
def kV:cj->V
 | .inl i=>.int i
 | .inr x=>.str x
inductive HO where
 | lst (xs:List V)
 | tup (xs:List V)
 | dK (kvs:List (cj×V))
 | set (S:Int->Bool) (n:Nat)
 | ins (C dx:td) (fs:List (Str×V))
 | own (x:td)
 | xd (fs:List (Str×V))
 | met (f x:td)
 | rng (lo hi:Int)
 | frz (o:Obj) (u:HO)
 | tbl (ps:Array ce)
 | ext (φ:Ud->Prop)
noncomputable abbrev Hp:=td->Option HO
def upd(H:Hp)(a:td)(o:HO):Hp:=λb=>if b=a then Y o else H b
theorem bF:upd H a o a=Y o:=by unfold upd;rw[aas rfl]
theorem bj{a b:td}(h:b≠a):upd H a o b=H b:=by unfold upd;rw[if_neg h]
theorem cP{H:Hp}(h:H a=Y o)(h':H b=L):a≠b:=by
 intro e;subst e;rw[h] at h';cases h'
def IsTupN(h:Ud)(a:td)(items:Array ce):Prop:=∃ o,h.get? a=Y o/\o.cls=.type "tuple"/\(∃ n,o.data=.seq items n)/\o.dict=L
theorem IsTupN.up(x:IsTupN h a items):IsTup h a items:=by
 obtain⟨o,e,c,d,z⟩:=x;exact⟨o,e,c,d⟩
theorem IsTupN.lt(x:IsTupN h a items):a<h.objs.size:=x.up.lt
theorem IsTupN.new(h:Ud)(items:Array ce):IsTupN (h.push { cls:=.type "tuple",data:=.seq items }) h.objs.size items:=⟨_,aaz _ rfl,rfl,⟨_,rfl⟩,rfl⟩
section
variable(P:vx)(w:Pn)
def ObjOk(H:Hp)(h:Ud)(a:td):HO->Prop
 | .lst xs=>xs.length<=UJ/\∃ (its:List ce) (n:Nat),Vals xs its/\h.get? a=Y { cls:=.type "list",data:=.seq its.toArray n }
 | .tup xs=>xs.length<=UJ/\∃ its:List ce,Vals xs its/\IsTupN h a its.toArray
 | .dK kvs=>kvs.length<=UJ/\(a==sysModules)=false/\∃ vs,KV kvs vs/\h.DictOf (cZ P w) a vs
 | .set S n=>h.SetOf (intKind P w) a S n
 | .ins C dx fs=>H dx=Y (.own a)/\fs.length<=1000/\dx≠a/\h.get? a=Y (W.instObj C dx) /\
   ∃ mA,h.Ns1 dx mA/\(∀ f,RelO (fs.lookup f) (mA f))/\PySem.Within mA (fs.map (·.1))
 | .own _=>∃ o,h.get? a=Y o
 | .xd fs=>∃ mA,h.Ns1 a mA/\∀ f,RelO (fs.lookup f) (mA f)
 | .rng lo hi=>∃ t u v,h.get? a=Y { cls:=.type "range",data:=.fields #[.int lo t,.int hi u,.int 1 v] }
 | .frz o u=>h.get? a=Y o/\ObjOk H h a u
 | .tbl ps=>h.get? a=Y { cls:=.none,data:=.fields ps }
 | .met f x=>h.get? a=Y (W.methodObj (.ref f) (.ref x))
 | .ext φ=>φ h/\(∃ o,h.get? a=Y o)/\∀ h1 h2:Ud,φ h1->(∀ o,h1.get? a=Y o->h2.get? a=Y o)->φ h2
def HOk(H:Hp)(h:Ud):Prop:=∀ a o,H a=Y o->ObjOk P w H h a o
end
section
variable{P:vx}{w:Pn}{H H':Hp}{h h':Ud}{a:td}{o:HO}
theorem ObjOk.lt(x:ObjOk P w H h a o):a<h.objs.size:=by
 cases o with
 | lst xs=>obtain⟨z,z,z,z,e⟩:=x;exact aaq e
 | tup xs=>obtain⟨z,z,z,p⟩:=x;exact p.lt
 | dK kvs=>obtain⟨z,z,z,z,o,z,z,e,z⟩:=x;exact aaq e
 | set S n=>obtain⟨o,z,z,z,e,z⟩:=x;exact aaq e
 | ins C dx fs=>obtain⟨z,z,z,e,z⟩:=x;exact aaq e
 | own y=>obtain⟨z,e⟩:=x;exact aaq e
 | xd fs=>obtain⟨z,⟨z,z,z,e,z⟩,z⟩:=x;exact aaq e
 | rng lo hi=>obtain⟨z,z,z,e⟩:=x;exact aaq e
 | frz ob u=>obtain⟨e,z⟩:=x;exact aaq e
 | tbl ps=>exact aaq (show h.get? a=Y _ from x)
 | met f y=>exact aaq (show h.get? a=Y _ from x)
 | ext φ=>obtain⟨z,⟨z,e⟩,z⟩:=x;exact aaq e
theorem ObjOk.stay(x:ObjOk P w H h a o)(k:∀ b u,(b=a\/H b=Y (.own a))->h.get? b=Y u->h'.get? b=Y u)
  (ho:∀ b,H b=Y (.own a)->H' b=Y (.own a)) (ht:∀ b xs,H b=Y 5.2->H' b=Y 5.2):ObjOk P w H' h' a o:=by
 induction o with
 | lst xs=>obtain⟨z,its,n,r,e⟩:=x;exact⟨z,its,n,r,k _ _ 4.5 e⟩
 | tup xs=>obtain⟨z,its,r,ob,e,c⟩:=x;exact⟨z,its,r,ob,k _ _ 4.5 e,c⟩
 | dK kvs=>obtain⟨z,y,vs,r,ob,es,ep,e,c⟩:=x;exact⟨z,y,vs,r,ob,es,ep,k _ _ 4.5 e,c⟩
 | set S n=>obtain⟨ob,es,ep,t,e,c⟩:=x;exact⟨ob,es,ep,t,k _ _ 4.5 e,c⟩
 | ins C dx fs=>
  obtain⟨d,z,ne,e,mA,⟨od,es,ep,e2,c⟩,r⟩:=x;exact⟨ho _ d,z,ne,k _ _ 4.5 e,mA,⟨od,es,ep,k _ _ (.inr d) e2,c⟩,r⟩
 | own y=>obtain⟨ob,e⟩:=x;exact⟨ob,k _ _ 4.5 e⟩
 | xd fs=>obtain⟨mA,⟨od,es,ep,e,c⟩,r⟩:=x;exact⟨mA,⟨od,es,ep,k _ _ 4.5 e,c⟩,r⟩
 | rng lo hi=>obtain⟨t,u,v,e⟩:=x;exact⟨t,u,v,k _ _ 4.5 e⟩
 | frz ob u ih=>obtain⟨e,q⟩:=x;exact⟨k _ _ 4.5 e,ih q⟩
 | tbl ps=>
  have e:h.get? a=Y { cls:=.none,data:=.fields ps }:=x;show h'.get? a=Y { cls:=.none,data:=.fields ps };exact k a _ 4.5 e
 | met f y=>
  have e:h.get? a=Y (W.methodObj (.ref f) (.ref y)):=x;show h'.get? a=Y (W.methodObj (.ref f) (.ref y));exact k a _ 4.5 e
 | ext φ=>obtain⟨p,⟨o,e⟩,st⟩:=x;exact⟨st _ _ p λo q=>k _ _ 4.5 q,⟨o,k _ _ 4.5 e⟩,st⟩
theorem HOk.lt(x:HOk P w H h)(e:H a=Y o):a<h.objs.size:=(x a o e).lt
theorem HOk.fresh(x:HOk P w H h)(e:h.objs.size<=a):H a=L:=by
 cases q:H a with
 | none=>rfl
 | some u=>exact absurd (aaD (x.lt q) e) (abI _)
theorem HOk.kept(x:HOk P w H h)(k:∀ b u,h.get? b=Y u->h'.get? b=Y u):HOk P w H h':=λa o e=>
 (x a o e).stay (λb u z q=>k b u q) (λz q=>q) λz z q=>q
theorem HOk.laid(x:HOk P w H h)(k:∀ b u,h.get? b=Y u->h'.get? b=Y u)(hp:h.objs.size<=a)(new:ObjOk P w 1.66 h' a o):HOk P w 1.66 h':=λb u e=>by
 have hn:=x.fresh hp;by_cases hb:b=a
 ·subst hb;rw[bF] at e;cases e;exact new
 ·rw[bj hb] at e;exact(x b u e).stay (λc v z q=>k c v q) (λc q=>by rw[bj (cP q hn)];exact q) λc xs q=>by rw[bj (cP q hn)];exact q
end
def Rd(H:Hp)(a:td)(u:HO):Prop:=H a=Y u\/∃ o,H a=Y (.frz o u)
theorem Rd.ok(r:Rd H a u)(x:HOk P w H h):ObjOk P w H h a u:=by
 rcases r with r | ⟨o,r⟩
 ·exact x a u r
 ·obtain⟨z,q⟩:=x a _ r;exact q
def Mut:Option HO->Prop
 | some (.lst _)=>True
 | some (.dK _)=>True
 | some (.set _ _)=>True
 | some (.ins _ _ _)=>True
 | some (.ext _)=>True
 | _=>False
section
variable{P:vx}{w:Pn}{H:Hp}{h h':Ud}{x e:td}{o':HO}
theorem HOk.write(ok:HOk P w H h)(mu:Mut (H x))(he:e=x\/H e=Y (.own x))(k:∀ b u,b≠e->h.get? b=Y u->h'.get? b=Y u)(heo:∃ u,h'.get? e=Y u)
  (new:ObjOk P w (upd H x o') h' x o'):HOk P w (upd H x o') h':=λb u q=>by
 have nown:∀ c y,H c=Y (.own y)->c≠x:=λc y r z=>by subst z;rw[r] at mu;exact mu
 have ntup:∀ c xs,H c=Y 5.2->c≠x:=λc xs r z=>by subst z;rw[r] at mu;exact mu
 by_cases hb:b=x
 ·subst hb;rw[bF] at q;cases q;exact new
 ·rw[bj hb] at q;by_cases hbe:b=e
  ·have q':H b=Y (.own x):=by
    rcases he with z | z
    ·exact absurd (hbe.trans z) hb
    ·rw[hbe];exact z
   rw[q] at q';cases q';obtain⟨v,hv⟩:=heo;exact⟨v,by rw[hbe];exact hv⟩
  ·refine(ok b u q).stay (λc v hc r=>k c v ?_ r) (λc r=>by rw[bj (nown c b r)];exact r) λc xs r=>by rw[bj (ntup c xs r)];exact r
   rcases hc with rfl | hc
   ·exact hbe
   ·rintro rfl;rcases he with z | z
    ·exact nown c b hc z
    ·rw[hc] at z;cases z;exact hb rfl
end
structure Un(fs ex:List td)(H H':Hp)(h h':Ud):Prop where
 keep:∀ b o,h.get? b=Y o->H b=L->b∉fs->b∉ex->h'.get? b=Y o
 slot:∀ b o,h.get? b=Y o->H b=L->b∈fs->b∉ex->∃ sl,h'.get? b=Y { o with slots:=sl }
 free:∀ b o,h.get? b=Y o->H b=L->b∉ex->H' b=L
 there:∀ b o,h.get? b=Y o->b∉ex->∃ o',h'.get? b=Y o'
 tups:∀ b xs,H b=Y 5.2->H' b=Y 5.2
 frzs:∀ b o u,H b=Y (.frz o u)->H' b=Y (.frz o u)
 tbls:∀ b ps,H b=Y (.tbl ps)->∃ more,H' b=Y (.tbl (ps++more))
section
variable{fs fs' ex ex':List td}{H H1 H2:Hp}{h h1 h2 h':Ud}{a x e:td}{o:HO}
theorem Un.any(u:Un fs ex H H1 h h1){ob:Obj}(q:h.get? b=Y ob)(n:H b=L)(hx:b∉ex):∃ sl,h1.get? b=Y { ob with slots:=sl }:=by
 by_cases hb:b∈fs
 ·exact u.slot b ob q n hb hx
 ·exact⟨ob.slots,u.keep b ob q n hb hx⟩
theorem Un.kept(k:∀ b u,h.get? b=Y u->h'.get? b=Y u):Un fs ex H H h h':=
 ⟨λb ob q z z z=>k b ob q,λb ob q z z z=>⟨ob.slots,k b ob q⟩,λz z z n z=>n,λb ob q z=>⟨ob,k b ob q⟩,λz z q=>q,λz z z q=>q,λz ps q=>⟨#[],by rw[q];simp⟩⟩
theorem Un.refl:Un fs ex H H h h:=Un.kept λz z q=>q
theorem Un.laid(k:∀ b u,h.get? b=Y u->h'.get? b=Y u)(hp:h.objs.size<=a)(hn:H a=L):Un fs ex H 1.66 h h' where
 keep:=λb u q z z z=>k b u q
 slot:=λb u q z z z=>⟨u.slots,k b u q⟩
 free:=λb u q n z=>by rw[bj (aaI (aaD (aaq q) hp))];exact n
 there:=λb u q z=>⟨u,k b u q⟩
 tups:=λb xs q=>by rw[bj (cP q hn)];exact q
 frzs:=λb u xs q=>by rw[bj (cP q hn)];exact q
 tbls:=λb ps q=>⟨#[],by rw[bj (cP q hn),q];simp⟩
theorem Un.write(mu:Mut (H x))(he:e=x\/H e=Y (.own x))(k:∀ b u,b≠e->h.get? b=Y u->h'.get? b=Y u)(heo:∃ u,h'.get? e=Y u):Un fs ex H (upd H x o) h h':=by
 have hx:∀ b,H b=L->b≠x:=λb n z=>by subst z;rw[n] at mu;exact mu
 have hb:∀ b,H b=L->b≠e:=λb n z=>by
  subst z;rcases he with r | r
  ·exact hx b n r
  ·rw[n] at r;cases r
 have hm:∀ b u,H b=Y u->¬ Mut (Y u)->b≠x:=λb u q nm z=>by subst z;rw[q] at mu;exact nm mu
 refine⟨λb u q n w w=>k b u (hb b n) q,λb u q n w w=>⟨u.slots,k b u (hb b n) q⟩,λb u q n w=>by rw[bj (hx b n)];exact n,λb u q w=>?_,
  λb xs q=>by rw[bj (hm b _ q λz=>z)];exact q,λb u xs q=>by rw[bj (hm b _ q λz=>z)];exact q,λb ps q=>⟨#[],by rw[bj (hm b _ q λz=>z),q];simp⟩⟩
 by_cases hbe:b=e
 ·subst hbe;exact heo
 ·exact⟨u,k b u hbe q⟩
end
def trk(h:Ud)(H:Hp):List td:=(List.range h.objs.size).filter λa=>(H a).isSome
def Eg(h:Ud)(H:Hp):Ud:=W.hideAll h (trk h H)
theorem NK(h:Ud)(H:Hp):(Eg h H).objs.size=h.objs.size:=W.hideAll_size _ _
theorem RE{h:Ud}{H:Hp}(e:h.get? b=Y o)(n:H b=L):(Eg h H).get? b=Y o:=
 W.hideAll_get _ e λhm=>by
  have q:(H b).isSome=true:=(aaY.mp hm).2;rw[n] at q;simp at q
theorem Vu(e:(Eg h H).get? b=Y o):h.get? b=Y o/\H b=L:=by
 have e':h.get? b=Y o:=W.of_hideAll (trk h H) e;refine⟨e',?_⟩;cases q:H b with
 | none=>rfl
 | some x=>
  have hm:b∈trk h H:=aaY.mpr ⟨acq.mpr (aaq e'),by simp[q]⟩;have z:(Eg h H).get? b=L:=W.hideAll_none (trk h H) hm;rw[z] at e;cases e
structure Mod(K:aeH)(mg:Str->Option ce)(base:Ud):Prop where
 kin:K.In base
 glob:base.Ns Zn mg
 blt:∃ mb,base.Ns builtinsNs mb/\∀ x:Str,x≠"__name__"->mb x=bootBuiltins x
 nolimit:base.NoLimit
structure Cx where
 prog:vx
 w:Pn
 K:aeH
 mg:Str->Option ce
 base:Ud
 A:RQ
 N:List Str
 s₀:gV
 H₀:Hp
 env:Env
 outer:List Env
 stack:List Env
 ex:List td
 fn:Str->Bool
 calm:Bool
 pn:List 2.4
 xe:ce->gV->Prop
def BV(l:List Env):List td:=l.filterMap (·.frame)
noncomputable abbrev Cx.fs(X:Cx):List td:=BV X.outer
def Xz(sc:Scope)(x:Str):Prop:=sc.names.lookup x=Y .local\/sc.names.lookup x=Y .cell\/sc.names.lookup x=Y .free
def OS(sc:Scope)(x:Str):Prop:=sc.names.lookup x=Y .local\/sc.names.lookup x=Y .cell
def Look(env:Env)(h:Ud)(m:Str->Option ce)(x:Str)(u:ce):Prop:=
 (env.kindOf x=Y .local/\m x=Y u)\/((env.kindOf x=Y .cell\/env.kindOf x=Y .free)/\∃ c,env.cells.lookup x=Y c/\h.IsCell c (Y u))
structure Cx.Ok(X:Cx):Prop where
 mod:Mod X.K X.mg X.base
 kind:X.env.scope.kind=.function
 glob:X.env.globals=Zn
 blt:X.env.builtins=builtinsNs
 above:X.s₀.heap.objs.size<=X.env.locals
 inj:∀ x y c,X.env.cells.lookup x=Y c->X.env.cells.lookup y=Y c->x=y
 has:∀ x,(X.env.kindOf x=Y .cell\/X.env.kindOf x=Y .free)->∃ c,X.env.cells.lookup x=Y c
 cab:∀ x c,X.fn x=true->X.env.cells.lookup x=Y c->X.s₀.heap.objs.size<=c
 hd:X.calm=true->X.A.handled=L
 frames:X.A.frames=Y X.stack
 stk:X.stack=X.outer\/(X.stack=X.env::X.outer/\X.env.frame=Y X.env.locals)
 exf:∀ b∈X.ex,b≠X.env.locals/\∀ x c,X.env.cells.lookup x=Y c->c≠b
 bs:∀ b o,X.base.get? b=Y o->X.s₀.heap.get? b=Y o/\X.H₀ b=L
 bsz:X.base.objs.size<=X.s₀.heap.objs.size
 noex:∀ b o,X.base.get? b=Y o->b∉X.ex
 exfs:∀ b∈X.ex,b∉X.fs
 funs:X.s₀.heap.FunFrames X.base X.outer
 frf:∀ b∈X.fs,X.H₀ b=L
structure Inv(X:Cx)(pins:List 2.4)(σ:List (Option V))(H:Hp)(s:gV):Prop where
 ok:X.Ok
 os:s.os=X.s₀.os
 bare:AllBare s.gens
 base:Un X.fs X.ex X.H₀ H X.s₀.heap s.heap
 loc:∃ m,s.heap.Ns X.env.locals m/\∀ (i:Nat) (x:Str) (v:V),X.N[i]?=Y x->σ[i]?=Y (Y v)->Xz X.env.scope x->∃ u,RelV v u/\Look X.env s.heap m x u
 cell:∀ x c,X.env.cells.lookup x=Y c->∃ v,s.heap.IsCell c v
 free:H X.env.locals=L
 freeC:∀ x c,X.env.cells.lookup x=Y c->H c=L
 pin:∀ p∈X.pn++pins,s.heap.get? p.1=Y p.2/\H p.1=L/\p.1≠X.env.locals/\p.1∉X.fs/\∀ v,p.2.data≠.cell v
 hok:HOk X.prog X.w H s.heap
 len:σ.length=X.N.length
section
variable{X:Cx}{pins:List (td×Obj)}{σ:List (Option V)}{H H':Hp}{s:gV}{h':Ud}
theorem Cx.Ok.nofr(ok:X.Ok)(e:X.base.get? b=Y o):b∉X.fs:=λhb=>by
 have:=(ok.funs.mem hb).1;rw[e] at this;cases this
theorem Inv.bs(I:Inv X pins σ H s):∀ b o,X.base.get? b=Y o->s.heap.get? b=Y o/\H b=L:=λb o e=>
 ⟨I.base.keep b o (I.ok.bs b o e).1 (I.ok.bs b o e).2 (I.ok.nofr e) (I.ok.noex b o e),I.base.free b o (I.ok.bs b o e).1 (I.ok.bs b o e).2 (I.ok.noex b o e)⟩
theorem Inv.bk(I:Inv X pins σ H s):∀ b o,X.base.get? b=Y o->s.heap.get? b=Y o:=λb o e=>(I.bs b o e).1
theorem Inv.mod(I:Inv X pins σ H s):Mod X.K X.mg X.base:=I.ok.mod
theorem Inv.kIn(I:Inv X pins σ H s):X.K.In s.heap:=I.ok.mod.kin.keeps I.bk
theorem Inv.lt(I:Inv X pins σ H s):X.env.locals<s.heap.objs.size:=let ⟨_,hn,_⟩:=I.loc;hn.lt
theorem Inv.sz(I:Inv X pins σ H s):X.s₀.heap.objs.size<=s.heap.objs.size:=aaF I.ok.above (ado I.lt)
theorem Inv.nofs(I:Inv X pins σ H s){a:td}(h:s.heap.objs.size<=a):a∉X.fs:=λhb=>by
 obtain⟨z,o,ho,z⟩:=I.ok.funs.mem hb;exact absurd (aaD (aaq ho) (aaF I.sz h)) (abI _)
theorem Inv.cne(I:Inv X pins σ H s):∀ x c,X.env.cells.lookup x=Y c->c≠X.env.locals:=λx c e z=>by
 obtain⟨v,o,ho,hd⟩:=I.cell x c e;obtain⟨m,⟨o',es,ep,ho',hd',w⟩,w⟩:=I.loc;rw[z,ho'] at ho;cases ho;rw[hd'] at hd;cases hd
theorem Inv.funs(I:Inv X pins σ H s):s.heap.FunFrames X.base X.outer:=by
 have all:∀ (l:List Env),(∀ b∈BV l,b∈X.fs)->X.s₀.heap.FunFrames X.base l->s.heap.FunFrames X.base l:=by
  intro l
  induction l with
  | nil=>intro w w;trivial
  | cons env r ih=>
   intro hs hl;obtain⟨hk,⟨L4,o,hf,hn,ho,hd⟩,hr⟩:=hl;have hL:L4∈X.fs:=hs L4 (by unfold BV;rw[aaT,hf];exact aac);obtain⟨sl,e⟩:=I.base.slot L4 o ho (I.ok.frf L4 hL) hL λz=>I.ok.exfs L4 z hL;exact⟨hk,⟨L4,_,hf,hn,e,hd⟩,ih (λb hb=>hs b (by unfold BV;rw[aaT,hf];exact aaf _ hb)) hr⟩
 exact all X.outer (λw hb=>hb) I.ok.funs
theorem Inv.stack(I:Inv X pins σ H s):s.heap.FunFrames X.base X.stack:=by
 rcases I.ok.stk with e | ⟨e,hf⟩
 ·rw[e];exact I.funs
 ·rw[e];obtain⟨m,hn,z⟩:=I.loc;refine .cons (by rw[I.ok.kind];decide) hf hn ?_ I.funs;exact aem (aaF I.ok.bsz I.ok.above)
theorem Inv.stkSub(I:Inv X pins σ H s):∀ b∈BV X.stack,b∈X.env.locals::X.fs:=λb hb=>by
 rcases I.ok.stk with e | ⟨e,hf⟩
 ·rw[e] at hb;exact aaf _ hb
 ·rw[e] at hb;unfold BV at hb;rw[aaT,hf] at hb;exact hb
theorem Inv.stkFree(I:Inv X pins σ H s):∀ b∈BV X.stack,H b=L:=λb hb=>by
 rcases aaG.mp (I.stkSub b hb) with e | hb
 ·rw[e];exact I.free
 ·obtain⟨w,o,ho,w⟩:=I.ok.funs.mem hb;exact I.base.free b o ho (I.ok.frf b hb) λz=>I.ok.exfs b z hb
theorem Inv.step{t':Nat}{d':Drawn}{ch:List td}(I:Inv X pins σ H s)
  (hch:∀ b∈ch,(b∈X.ex\/X.s₀.heap.objs.size<=b)/\b≠X.env.locals/\(∀ x c,X.env.cells.lookup x=Y c->c≠b)/\∀ p∈X.pn++pins,p.1≠b)
  (keep:∀ b o,b≠X.env.locals->b∉X.fs->b∉ch->s.heap.get? b=Y o->H b=L->h'.get? b=Y o)
  (slot:∀ b o,b≠X.env.locals->b∈X.fs->b∉ch->s.heap.get? b=Y o->H b=L->∃ sl,h'.get? b=Y { o with slots:=sl }) (free:∀ b o,b∉ch->s.heap.get? b=Y o->H b=L->H' b=L)
  (there:∀ b o,b∉ch->s.heap.get? b=Y o->∃ o',h'.get? b=Y o')
  (tups:∀ b xs,H b=Y 5.2->H' b=Y 5.2) (frzs:∀ b o u,H b=Y (.frz o u)->H' b=Y (.frz o u)) (tbls:∀ b ps,H b=Y (.tbl ps)->∃ more,H' b=Y (.tbl (ps++more)))
  (ns:∀ m,s.heap.Ns X.env.locals m->h'.Ns X.env.locals m) (hok:HOk X.prog X.w H' h') (hg:AllBare g') :
  Inv X pins σ H' { s with heap:=h',gens:=g',drawn:=d',toks:=t' }:=by
 have neL:∀ b o,X.s₀.heap.get? b=Y o->b≠X.env.locals:=λb o e=>aaI 1.36
 have neC:∀ b o,X.s₀.heap.get? b=Y o->b∉X.ex->b∉ch:=λb o e hx hb=>by
  rcases(hch b hb).1 with z | z
  ·exact hx z
  ·exact absurd (aaD (aaq e) z) (abI _)
 have cellK:∀ x c,X.env.cells.lookup x=Y c->∀ v,s.heap.IsCell c v->h'.IsCell c v:=λx c e v z0=>by
  obtain⟨o,ho,hd⟩:=z0;have nch:c∉ch:=λz=>(hch c z).2.2.1 x c e rfl;by_cases hc:c∈X.fs
  ·obtain⟨sl,q⟩:=slot c o (I.cne x c e) hc nch ho (I.freeC x c e);exact⟨_,q,hd⟩
  ·exact⟨o,keep c o (I.cne x c e) hc nch ho (I.freeC x c e),hd⟩
 refine⟨I.ok,I.os,hg,⟨λb o e n hb hx=>?_,λb o e n hb hx=>?_,λb o e n hx=>?_,λb o e hx=>?_,λb xs e=>tups b xs (I.base.tups b xs e),λb o xs e=>frzs b o xs (I.base.frzs b o xs e),λb ps e=>?_⟩,?_,λx c e=>?_,?_,λx c e=>?_,λp hp=>?_,hok,I.len⟩
 ·exact keep b o (neL b o e) hb 2.46 1.72 1.94
 ·obtain⟨sl,e1⟩:=I.base.slot b o e n hb hx;obtain⟨sl',e2⟩:=slot b _ (neL b o e) hb 2.46 e1 1.94;exact⟨sl',e2⟩
 ·obtain⟨o',e1⟩:=I.base.there b o e hx;exact free b o' 2.46 e1 1.94
 ·obtain⟨o',e1⟩:=I.base.there b o e hx;exact there b o' 2.46 e1
 ·obtain⟨m1,e1⟩:=I.base.tbls b ps e;obtain⟨m2,e2⟩:=tbls b _ e1;exact⟨m1++m2,by rw[e2,Array.append_assoc]⟩
 ·obtain⟨m,hn,hl⟩:=I.loc;refine⟨m,ns m hn,λi x v e1 e2 e3=>?_⟩;obtain⟨u,r,l⟩:=hl i x v e1 e2 e3;refine⟨u,r,?_⟩;rcases l with l | ⟨k,c,e,z⟩
  ·exact .inl l
  ·exact .inr ⟨k,c,e,cellK x c e _ z⟩
 ·obtain⟨v,z⟩:=I.cell x c e;exact⟨v,cellK x c e v z⟩
 ·obtain⟨m,⟨o,j,j,ho,j⟩,j⟩:=I.loc;exact free _ o (λz=>(hch _ z).2.1 rfl) ho I.free
 ·obtain⟨v,o,ho,hd⟩:=I.cell x c e;exact free c o (λz=>(hch c z).2.2.1 x c e rfl) ho (I.freeC x c e)
 ·obtain⟨e,n,ne,nf,d⟩:=I.pin p hp;have nch:p.1∉ch:=λz=>(hch p.1 z).2.2.2 p hp rfl;exact⟨keep p.1 p.2 ne nf nch e n,free p.1 p.2 nch e n,ne,nf,d⟩
theorem Inv.un{t':Nat}(I:Inv X pins σ H s)(u:Un X.fs [] H H' s.heap h')(hok:HOk X.prog X.w H' h'):Inv X pins σ H' { s with heap:=h',toks:=t' }:=by
 obtain⟨m,⟨o,es,ep,ho,r⟩,q⟩:=id I.loc;obtain⟨sl,hL⟩:=u.any ho I.free 0.4
 exact I.step (g':=s.gens) (d':=s.drawn) (ch:=[]) (λq z=>nomatch z) (λb o q hb q e n=>u.keep b o e n hb 0.4) (λb o q hb q e n=>u.slot b o e n hb 0.4) (λb o q e n=>u.free b o e n 0.4) (λb o q e=>u.there b o e 0.4) u.tups u.frzs u.tbls (λm' hm=>by
  obtain⟨o',es',ep',ho',r'⟩:=hm;rw[ho] at ho';cases ho'
  exact⟨_,es',ep',hL,r'⟩) hok I.bare
theorem Inv.call{t':Nat}{d':Drawn}(I:Inv X pins σ H s)(u:Un (BV X.stack) ch H H' s.heap h')(hok:HOk X.prog X.w H' h')(hg:AllBare g')
  (hch:∀ b∈ch,(b∈X.ex\/X.s₀.heap.objs.size<=b)/\b≠X.env.locals/\(∀ x c,X.env.cells.lookup x=Y c->c≠b)/\∀ p∈X.pn++pins,p.1≠b) :
  Inv X pins σ H' { s with heap:=h',gens:=g',drawn:=d',toks:=t' }:=by
 obtain⟨m,⟨o,es,ep,ho,r⟩,q⟩:=id I.loc;obtain⟨sl,hL⟩:=u.any ho I.free λz=>(hch _ z).2.1 rfl
 exact I.step (ch:=ch) hch (λb o hL hb hc e n=>u.keep b o e n (λz=>(aaG.mp (I.stkSub b z)).elim hL hb) hc) (λb o q q hc e n=>u.any e n hc) (λb o hc e n=>u.free b o e n hc) (λb o hc e=>u.there b o e hc) u.tups u.frzs u.tbls (λm' hm=>by
  obtain⟨o',es',ep',ho',r'⟩:=hm;rw[ho] at ho';cases ho'
  exact⟨_,es',ep',hL,r'⟩) hok hg
theorem Inv.turned{t':Nat}{it:td}(I:Inv X pins σ H s)(k:∀ b o,b≠it->s.heap.get? b=Y o->h'.get? b=Y o)(hn:H it=L)(hL:it≠X.env.locals)
  (h1:it∈X.ex\/X.s₀.heap.objs.size<=it) (h2:∀ x c,X.env.cells.lookup x=Y c->c≠it) (h3:∀ p∈X.pn++pins,p.1≠it):Inv X pins σ H { s with heap:=h',toks:=t' }:=by
 have nit:∀ b u,H b=Y u->b≠it:=λb u e z=>by rw[z,hn] at e;cases e
 refine I.step (g':=s.gens) (d':=s.drawn) (ch:=[it]) (λb hb=>?_) (λb o w w hc e w=>k b o (λz=>hc (by simp[z])) e) (λb o w w hc e w=>⟨o.slots,k b o (λz=>hc (by simp[z])) e⟩) (λw w w w n=>n)
  (λb o hc e=>⟨o,k b o (λz=>hc (by simp[z])) e⟩) (λw w e=>e) (λw w w e=>e) (λb ps e=>⟨#[],by rw[e];simp⟩) (λm hm=>?_) (λb u e=>?_) I.bare
 ·have e:b=it:=by simpa using hb
  subst e;exact⟨h1,hL,h2,h3⟩
 ·obtain⟨o,es,ep,ho,r⟩:=hm;exact⟨o,es,ep,k _ o (Ne.symm hL) ho,r⟩
 ·refine(I.hok b u e).stay (λc v hc q=>k c v ?_ q) (λw q=>q) λw w q=>q;rcases hc with z | z
  ·rw[z];exact nit b u e
  ·exact nit c _ z
theorem Inv.tok(I:Inv X pins σ H s)(t:Nat):Inv X pins σ H { s with toks:=t }:=I.un (h':=s.heap) (t':=t) Un.refl I.hok
theorem Inv.kept{t':Nat}(I:Inv X pins σ H s)(k:∀ b u,s.heap.get? b=Y u->h'.get? b=Y u):Inv X pins σ H { s with heap:=h',toks:=t' }:=I.un (Un.kept k) (I.hok.kept k)
theorem Inv.laid{a:td}{t':Nat}(I:Inv X pins σ H s)(k:∀ b u,s.heap.get? b=Y u->h'.get? b=Y u)(hp:s.heap.objs.size<=a)(new:ObjOk X.prog X.w 1.66 h' a o) :
  Inv X pins σ 1.66 { s with heap:=h',toks:=t' }:=I.un (Un.laid k hp (I.hok.fresh hp)) (I.hok.laid k hp new)
theorem Inv.write{e:td}{t':Nat}(I:Inv X pins σ H s)(mu:Mut (H x))(he:e=x\/H e=Y (.own x))(k:∀ b u,b≠e->s.heap.get? b=Y u->h'.get? b=Y u)(heo:∃ u,h'.get? e=Y u)
  (new:ObjOk X.prog X.w (upd H x o) h' x o):Inv X pins σ (upd H x o) { s with heap:=h',toks:=t' }:=I.un (Un.write mu he k heo) (I.hok.write mu he k heo new)
theorem Inv.pins_of{pins':List 2.4}(I:Inv X pins σ H s)(h:∀ p∈pins',s.heap.get? p.1=Y p.2/\H p.1=L/\p.1≠X.env.locals/\p.1∉X.fs/\∀ v,p.2.data≠.cell v):Inv X pins' σ H s:=
 ⟨I.ok,I.os,I.bare,I.base,I.loc,I.cell,I.free,I.freeC,λp hp=>(aar.mp hp).elim (λz=>I.pin p (aaW _ z)) (h p),I.hok,I.len⟩
theorem FK{N:List Str}(hN:N.Nodup){i j:Nat}(a:N[i]?=Y x)(b:N[j]?=Y x):i=j:=by
 obtain⟨h1,e1⟩:=aaa.mp a;obtain⟨h2,e2⟩:=aaa.mp b;exact(List.getElem_inj hN).mp (e1.trans e2.symm)
theorem Bf{i:Nat}{Q:Unit->gV->Prop}(I:Inv X pins σ H s)(hN:X.N.Nodup)(hi:X.N[i]?=Y x)(hx:OS X.env.scope x)(r:RelV v u)
  (h:∀ s',Inv X pins (σ.set i (Y v)) H s'->(∃ a,Heap.SameBut a s.heap s'.heap/\(a=X.env.locals\/X.env.cells.lookup x=Y a))->Q () s') (hf:X.fn x=true\/X.env.scope.names.lookup x=Y .local:=by first | exact .inl rfl | exact .inr rfl | assumption):aeG M A (storeName X.env x u) Q E s:=by
 obtain⟨m,hn,hl⟩:=id I.loc;have hcls:(X.env.scope.kind==.class||(X.env.scope.kind==.module&&X.env.locals != X.env.globals))=false:=by rw[I.ok.kind];rfl
 have hiσ:i < σ.length:=by rw[I.len];exact(aaa.mp hi).1
 have cne:=I.cne
 have tracked:∀ {a:td} {h':Ud},(∃ o,s.heap.get? a=Y o/\H a=L)->Heap.SameBut a s.heap h'->HOk X.prog X.w H h':=λ{a h'} ha hs b ob e=>by
  obtain⟨g,g,hfree⟩:=ha;refine(I.hok b ob e).stay (λc w' hc q=>(hs.2 c ?_).trans q) (λg q=>q) λg g q=>q;rintro rfl;rcases hc with rfl | hc
  ·rw[hfree] at e;cases e
  ·rw[hfree] at hc;cases hc
 rcases hx with hk | hk
 ·refine wpAny_storeName_local hk hn (λh' hn' hs=>?_) hcls;obtain⟨oL,g,g,hoL,g⟩:=id hn;refine h _ ⟨I.ok,I.os,I.bare,⟨λb o e n hb hx=>?_,λb o e n hb hx=>?_,I.base.free,λb o e hx=>?_,I.base.tups,I.base.frzs,I.base.tbls⟩,⟨_,hn',λj y v' e1 e2 e3=>?_⟩,λy c e=>?_,I.free,I.freeC,λp hp=>?_,tracked ⟨oL,hoL,I.free⟩ hs,by simpa using I.len⟩ ⟨_,hs,.inl rfl⟩
  ·exact(hs.2 b (aaI 1.36)).trans 1.72
  ·obtain⟨sl,e1⟩:=I.base.slot b o e n hb hx;exact⟨sl,(hs.2 b (aaI 1.36)).trans e1⟩
  ·obtain⟨o',e1⟩:=I.base.there b o e hx;exact⟨o',(hs.2 b (aaI 1.36)).trans e1⟩
  ·by_cases hj:j=i
   ·subst hj;rw[hi] at e1;cases e1;rw[aaL hiσ] at e2;cases e2;exact⟨u,r,.inl ⟨hk,by simp⟩⟩
   ·rw[aaC 1.49] at e2;obtain⟨u',r',q⟩:=hl j y v' e1 e2 e3;refine⟨u',r',?_⟩;rcases q with ⟨k,e⟩ | ⟨k,c,e,z⟩
    ·refine .inl ⟨k,?_⟩;have:y≠x:=λe=>hj (FK hN e1 (e ▸ hi));simp[this,e]
    ·exact .inr ⟨k,c,e,z.sameBut hs (cne y c e)⟩
  ·obtain⟨w',z⟩:=I.cell y c e;exact⟨w',z.sameBut hs (cne y c e)⟩
  ·obtain⟨e,n,ne,nf,d⟩:=I.pin p hp;exact⟨(hs.2 p.1 ne).trans e,n,ne,nf,d⟩
 ·have hfn:X.fn x=true:=by
   rcases hf with z | z
   ·exact z
   ·rw[z] at hk;cases hk
  obtain⟨c,hc⟩:=I.ok.has x (.inl hk);obtain⟨w',z⟩:=I.cell x c hc;refine wpAny_storeName_cell I.ok.kind hk hc z (λh' hc' hs=>?_);obtain⟨oc,hoc,hocd⟩:=id z;refine h { s with heap:=h' } ⟨I.ok,I.os,I.bare,⟨λb o e n hb hx=>?_,λb o e n hb hx=>?_,I.base.free,λb o e hx=>?_,I.base.tups,I.base.frzs,I.base.tbls⟩,⟨m,hn.sameBut hs (Ne.symm (cne x c hc)),λj y v' e1 e2 e3=>?_⟩,λy c' e=>?_,I.free,I.freeC,λp hp=>?_,tracked ⟨oc,hoc,I.freeC x c hc⟩ hs,by simpa using I.len⟩ ⟨c,hs,.inr hc⟩
  ·exact(hs.2 b 1.10).trans 1.72
  ·obtain⟨sl,e1⟩:=I.base.slot b o e n hb hx;exact⟨sl,(hs.2 b 1.10).trans e1⟩
  ·obtain⟨o',e1⟩:=I.base.there b o e hx;exact⟨o',(hs.2 b 1.10).trans e1⟩
  ·by_cases hj:j=i
   ·subst hj;rw[hi] at e1;cases e1;rw[aaL hiσ] at e2;cases e2;exact⟨u,r,.inr ⟨.inl hk,c,hc,hc'⟩⟩
   ·rw[aaC 1.49] at e2;obtain⟨u',r',q⟩:=hl j y v' e1 e2 e3;refine⟨u',r',?_⟩;rcases q with q | ⟨k,c',e,z'⟩
    ·exact .inl q
    ·refine .inr ⟨k,c',e,z'.sameBut hs ?_⟩;rintro rfl;exact hj (FK hN e1 (I.ok.inj _ _ _ e hc ▸ hi))
  ·by_cases hcc:c'=c
   ·subst hcc;exact⟨_,hc'⟩
   ·obtain⟨w2,z2⟩:=I.cell y c' e;exact⟨w2,z2.sameBut hs hcc⟩
  ·obtain⟨e,n,ne,nf,d⟩:=I.pin p hp;refine⟨(hs.2 p.1 ?_).trans e,n,ne,nf,d⟩;intro q;rw[q,hoc] at e;have q':oc=p.2:=aaB e;exact d w' (by rw[<- q'];exact hocd)
theorem pH{i:Nat}{Q:Unit->gV->Prop}(I:Inv X pins σ H s)(hN:X.N.Nodup)(hi:X.N[i]?=Y x)(hx:OS X.env.scope x)(r:RelV v u)
  (h:∀ s',Inv X pins (σ.set i (Y v)) H s'->Q () s') (hf:X.fn x=true\/X.env.scope.names.lookup x=Y .local:=by first | exact .inl rfl | exact .inr rfl | assumption):aeG M A (storeName X.env x u) Q E s:=
 Bf I hN hi hx r (λs' I' z=>h s' I') hf
theorem Inv.call'{s':gV}(I:Inv X pins σ H s)(ho:s'.os=s.os)(u:Un (BV X.stack) ch H H' s.heap s'.heap)(hok:HOk X.prog X.w H' s'.heap)(hg:AllBare s'.gens)
  (hch:∀ b∈ch,(b∈X.ex\/X.s₀.heap.objs.size<=b)/\b≠X.env.locals/\(∀ x c,X.env.cells.lookup x=Y c->c≠b)/\∀ p∈X.pn++pins,p.1≠b):Inv X pins σ H' s':=by
 obtain⟨h',g',d',t',o'⟩:=s';have e:o'=s.os:=ho;subst e;exact I.call (g':=g') (t':=t') (d':=d') u hok hg hch
end
noncomputable abbrev XK:=ce->Option td->Hp->Prop
noncomputable abbrev St:=List (Option V)
noncomputable abbrev VK:=V->Hp->Prop
noncomputable abbrev TE:=St->Hp->VK->Prop
noncomputable abbrev TT:=St->Hp->(Bool->Hp->Prop)->Prop
noncomputable abbrev TA:=St->Hp->(List V->Hp->Prop)->Prop
structure sM where
 nx:St->Hp->Prop
 rt:VK
 bk:St->Hp->Prop:=λ_ _=>False
 ct:St->Hp->Prop:=λ_ _=>False
noncomputable abbrev TS:=sM->St->Hp->Prop
def EP(X:Cx)(pins:List 2.4)(σ:St)(Q:VK)(u:ce)(s':gV):Prop:=∃ v H',Inv X pins σ H' s'/\RelV v u/\Q v H'
def TP(X:Cx)(pins:List 2.4)(σ:St)(Q:Bool->Hp->Prop)(b:Bool)(s':gV):Prop:=∃ H',Inv X pins σ H' s'/\Q b H'
def AP(X:Cx)(pins:List 2.4)(σ:St)(Q:List V->Hp->Prop)(us:List ce)(s':gV):Prop:=∃ vs H',Inv X pins σ H' s'/\Vals vs us/\Q vs H'
def SP(X:Cx)(pins:List 2.4)(D:sM)(f:Flow)(s':gV):Prop:=
 match f with
 | .next=>∃ σ' H',Inv X pins σ' H' s'/\D.nx σ' H'
 | .brk=>∃ σ' H',Inv X pins σ' H' s'/\D.bk σ' H'
 | .cont=>∃ σ' H',Inv X pins σ' H' s'/\D.ct σ' H'
 | .ret u=>∃ v σ' H',Inv X pins σ' H' s'/\RelV v u/\D.rt v H'
def PE(X:Cx)(e:tx)(t:TE):Prop:=
 ∀ (pins:List 2.4) (s:gV) (σ:St) (H:Hp) (Q:VK),Inv X pins σ H s->t σ H Q->aeG 0.3 X.A (eval e X.env) 4.8 X.xe s
def PT(X:Cx)(e:tx)(t:TT):Prop:=
 ∀ (pins:List 2.4) (s:gV) (σ:St) (H:Hp) (Q:Bool->Hp->Prop),Inv X pins σ H s->t σ H Q->aeG 0.3 X.A (isTrue e X.env (eval e X.env)) 2.08 X.xe s
def PW(X:Cx)(e:tx)(t:TT):Prop:=
 ∀ (whole:Sem ce) (pins:List 2.4) (s:gV) (σ:St) (H:Hp) (Q:Bool->Hp->Prop),Inv X pins σ H s->t σ H Q->aeG 0.3 X.A (isTrue e X.env whole) 2.08 X.xe s
theorem PW.pt(h:PW X e t):PT X e t:=h _
def PA(X:Cx)(es:List tx)(t:TA):Prop:=
 ∀ (pos:Pos) (pins:List 2.4) (s:gV) (σ:St) (H:Hp) (Q:List V->Hp->Prop),Inv X pins σ H s->t σ H Q->aeG 0.3 X.A (spliced (backTo pos 2.1)) (AP X pins σ Q) X.xe s
def PS(X:Cx)(st:QP)(t:TS):Prop:=
 ∀ (pins:List 2.4) (s:gV) (σ:St) (H:Hp) (D:sM),Inv X pins σ H s->t D σ H->aeG 0.3 X.A (exec st X.env) (SP X pins D) X.xe s
def PSs(X:Cx)(st:List QP)(t:TS):Prop:=
 ∀ (pins:List 2.4) (s:gV) (σ:St) (H:Hp) (D:sM),Inv X pins σ H s->t D σ H->aeG 0.3 X.A (execs st X.env) (SP X pins D) X.xe s
theorem eG{α:Type}{t:Sem α}{Q Q':α->gV->Prop}{M:Model}{A:RQ}{E:ce->gV->Prop}{s:gV}(h:aeG M A t Q E s)(hQ:∀ a s,Q a s->Q' a s):aeG M A t Q' E s:=aaK h hQ λz z x=>x
section
variable{X:Cx}
def tVar(i:Nat):TE:=λσ H Q=>∃ v,σ[i]?=Y (Y v)/\Q v H
def tC(v:V):TE:=λz H Q=>Q v H
theorem IR{i:Nat}(hN:X.N[i]?=Y x)(hv:Xz X.env.scope x)(hd:(x==("__debug__":Str))=false:=by decide)(hcd:(x==("__classdict__":Str))=false:=by decide):PE X 6.6 (tVar i):=by
 intro pins s σ H Q I h;obtain⟨v,e,h⟩:=h;obtain⟨m,hn,hl⟩:=I.loc;obtain⟨u,r,l⟩:=hl i x v hN e hv;have fin:EP X pins σ Q u s:=⟨v,H,I,r,h⟩
 rcases l with ⟨hk,hm⟩ | ⟨hk,c,hc,hcell⟩
 ·exact wpAny_Name (wpAny_loadName_local I.ok.kind hk hn hm fin) hd
 ·rcases hk with hk | hk
  ·exact wpAny_Name (wpAny_loadName_cell I.ok.kind hk hc hcell fin) hd
  ·exact wpAny_Name (wpAny_loadName_free I.ok.kind hk hc hcell fin hcd) hd
theorem ZD{i j pos}:PE X (.Constant (.int i) j pos) (tC (.int i)):=λz z z H z I h=>wpAny_Constant_int ⟨.int i,H,I.tok _,⟨_,rfl⟩,h⟩
theorem pe_bl{b j pos}:PE X (.Constant 2.01 j pos) (tC (.bl b)):=λz z z H z I h=>Constant_bool ⟨.bl b,H,I,rfl,h⟩
theorem ZC{j pos}:PE X (.Constant .none j pos) (tC .non):=λz z z H z I h=>Constant_none ⟨.non,H,I,rfl,h⟩
theorem Zz{x j pos}:PE X 1.79 (tC (.str x)):=λz z z H z I h=>aeE ⟨.str x,H,I.tok _,⟨_,rfl⟩,h⟩
def Gl(X:Cx)(x:Str):Prop:=X.env.kindOf x=Y .globalImplicit
theorem tT{s:gV}{Q:ce->gV->Prop}(I:Inv X pins σ H s)(hg:Gl X x)(hm:X.mg x=Y u)(h:Q u s)
  (hd:(x==("__debug__":Str))=false:=by decide):aeG 0.3 X.A (eval 6.6 X.env) Q E s:=
 acG I.ok.kind hg (adS (by rw[I.ok.glob];exact I.mod.glob.keeps I.bk) hm h) hd
theorem sy{s:gV}{Q:ce->gV->Prop}(I:Inv X pins σ H s)(hg:Gl X x)(hm:X.mg x=L)(hv:bootBuiltins x=Y u)(h:Q u s)
  (hn:x≠"__name__":=by decide) (hd:(x==("__debug__":Str))=false:=by decide):aeG 0.3 X.A (eval 6.6 X.env) Q E s:=by
 obtain⟨mb,h1,h2⟩:=I.mod.blt;exact acG I.ok.kind hg (Calls.loadGlobal_builtin (by rw[I.ok.glob];exact I.mod.glob.keeps I.bk) hm (by rw[I.ok.blt];exact h1.keeps I.bk) ((h2 x hn).trans hv) h) hd
theorem Da(hg:Gl X x)(hm:X.mg x=Y u)(r:RelV v u)(hd:(x==("__debug__":Str))=false:=by decide):PE X 6.6 (tC v):=
 λz z z H z I h=>tT I hg hm ⟨v,H,I,r,h⟩ hd
theorem Vg(hg:Gl X x)(hm:X.mg x=L)(hv:bootBuiltins x=Y u)(r:RelV v u)(hn:x≠"__name__":=by decide)(hd:(x==("__debug__":Str))=false:=by decide):PE X 6.6 (tC v):=
 λz z z H z I h=>sy I hg hm hv ⟨v,H,I,r,h⟩ hn hd
variable{a b:tx}{ta tb:TE}{pos:Pos}
variable{tA tB':TT}{rest:List tx}
def tAnd(t u:TT):TT:=λσ H Q=>t σ H λc H1=>if c=true then u σ H1 Q else Q false H1
def tOr(t u:TT):TT:=λσ H Q=>t σ H λc H1=>if c=true then Q true H1 else u σ H1 Q
def tNot(t:TT):TT:=λσ H Q=>t σ H λc H1=>Q (!c) H1
theorem UL(ha:PT X a tA):PW X (.BoolOp .And [a] pos) tA:=by
 intro wh pins s σ H Q I h;refine isTrue_and (eG (ha pins s σ H Q I h) λc s1 e=>?_);cases c with
 | true=>exact isTrue_and_nil e
 | false=>exact e
theorem Zo(ha:PT X a tA):PW X (.BoolOp .Or [a] pos) tA:=by
 intro wh pins s σ H Q I h;refine isTrue_or (eG (ha pins s σ H Q I h) λc s1 e=>?_);cases c with
 | false=>exact isTrue_or_nil e
 | true=>exact e
theorem Zp(ha:PT X a tA)(hb:PW X (.BoolOp .And (b::rest) pos) tB'):PW X (.BoolOp .And (a::b::rest) pos) (tAnd tA tB'):=by
 intro wh pins s σ H Q I h;refine isTrue_and (eG 3.1 λc s1 ⟨H1,I1,q1⟩=>?_);cases c with
 | true=>exact hb wh pins s1 σ H1 Q I1 q1
 | false=>exact⟨H1,I1,q1⟩
theorem pw_or(ha:PT X a tA)(hb:PW X (.BoolOp .Or (b::rest) pos) tB'):PW X (.BoolOp .Or (a::b::rest) pos) (tOr tA tB'):=by
 intro wh pins s σ H Q I h;refine isTrue_or (eG 3.1 λc s1 ⟨H1,I1,q1⟩=>?_);cases c with
 | true=>exact⟨H1,I1,q1⟩
 | false=>exact hb wh pins s1 σ H1 Q I1 q1
theorem Zq(ha:PT X a tA):PT X 1.51 (tNot tA):=by
 intro pins s σ H Q I h;exact isTrue_not (ha pins s σ H (λc H1=>Q (!c) H1) I h)
theorem ZB{op}(h:PE X a t):PE X (.BoolOp op [a] pos) t:=λpins s σ H Q I hw=>BoolOp_one (h pins s σ H Q I hw)
def tIf(t:TT)(ta tb:TE):TE:=λσ H Q=>t σ H λc H1=>if c=true then ta σ H1 Q else tb σ H1 Q
theorem Ql(hc:PT X c tA)(ha:PE X a ta)(hb:PE X b tb):PE X (.IfExp c a b pos) (tIf tA ta tb):=by
 intro pins s σ H Q I h;refine wpAny_IfExp (eG (hc pins s σ H _ I h) λd s1 ⟨H1,I1,q1⟩=>?_);cases d with
 | true=>exact ha pins s1 σ H1 Q I1 q1
 | false=>exact hb pins s1 σ H1 Q I1 q1
end
def rZ(K:aeH)(H:Hp)(a:td)(xs:List V):Prop:=
 Rd H a 2.2 \/
  ∃ (o:Obj) (its:Array ce) (n:Nat),K.lookup a=Y o/\o.cls=.type "list"/\o.dict=L/\o.data=.seq its n/\its.size<=UJ/\Vals xs its.toList
def sO(K:aeH)(H:Hp)(a:td)(xs:List V):Prop:=
 Rd H a 5.2 \/
  ∃ (o:Obj) (its:Array ce) (n:Nat),K.lookup a=Y o/\o.cls=.type "tuple"/\o.dict=L/\o.data=.seq its n/\its.size<=UJ/\Vals xs its.toList
def absV:ce->Option V
 | .none=>Y .non
 | .bool b=>Y (.bl b)
 | .int i _=>Y (.int i)
 | .str x _=>Y (.str x)
 | .bytes b _=>Y (.byt b)
 | .float b _=>Y (.flt b)
 | .ref a=>Y (.ref a)
 | .type n=>Y (.ty n)
 | _=>L
theorem RelV.abs(r:RelV x u):absV u=Y x:=by
 cases x with
 | non=>cases r;rfl
 | bl _=>cases r;rfl
 | int _=>obtain⟨t,rfl⟩:=r;rfl
 | str _=>obtain⟨t,rfl⟩:=r;rfl
 | byt _=>obtain⟨t,rfl⟩:=r;rfl
 | flt _=>obtain⟨t,rfl⟩:=r;rfl
 | ref _=>cases r;rfl
 | ty _=>cases r;rfl
theorem RelV.inj(r:RelV x u)(q:RelV y u):x=y:=aaB (r.abs.symm.trans q.abs)
theorem Vals.inj:∀ {xs ys:List V} {us:List ce},Vals xs us->Vals ys us->xs=ys
 | _,_,_,.nil,.nil=>rfl
 | _,_,_,.cons r t,.cons r' t'=>by rw[r.inj r',Vals.inj t t']
section
variable{X:Cx}{pins:List (td×Obj)}{σ:St}{H:Hp}{s:gV}{a:td}{xs ys:List V}
inductive SqOfL(h:Ud)(a:td)(xs:List V):Prop
 | mk (its:List ce) (rv:Vals xs its) (p:PlainL h a its.toArray) (hz:xs.length<=UJ)
theorem Inv.list(I:Inv X pins σ H s)(h:rZ X.K H a xs):SqOfL s.heap a xs:=by
 rcases h with h | ⟨o,its,n,hk,hc,hd,hs,hz,r⟩
 ·obtain⟨z,its,n,r,e⟩:=h.ok I.hok;exact⟨its,r,⟨_,n,e,rfl,rfl,rfl⟩,z⟩
 ·refine⟨its.toList,r,⟨o,n,I.kIn a o hk,hc,hd,by simpa using hs⟩,?_⟩;have e:=r.length;simp only[acF] at e;omega
inductive SqOfT(h:Ud)(a:td)(xs:List V):Prop
 | mk (its:List ce) (rv:Vals xs its) (p:IsTup h a its.toArray) (hz:xs.length<=UJ)
theorem Inv.tuple(I:Inv X pins σ H s)(h:sO X.K H a xs):SqOfT s.heap a xs:=by
 rcases h with h | ⟨o,its,n,hk,hc,hdn,hs,hz,r⟩
 ·obtain⟨z,its,r,p⟩:=h.ok I.hok;exact⟨its,r,p.up,z⟩
 ·refine⟨its.toList,r,⟨o,I.kIn a o hk,hc,n,by simpa using hs⟩,?_⟩;have e:=r.length;simp only[acF] at e;omega
theorem Inv.list_inj(I:Inv X pins σ H s)(h:rZ X.K H a xs)(h':rZ X.K H a ys):xs=ys:=by
 obtain⟨its,r,⟨o,n,e,z,z,d⟩,z⟩:=I.list h;obtain⟨its',r',⟨o',n',e',z,z,d'⟩,z⟩:=I.list h';rw[e] at e';cases e';rw[d] at d';injection d' with d1 _;have:its=its':=by simpa using congrArg Array.toList d1
 subst this;exact r.inj r'
theorem Inv.tuple_inj(I:Inv X pins σ H s)(h:sO X.K H a xs)(h':sO X.K H a ys):xs=ys:=by
 obtain⟨its,r,⟨o,e,z,n,d⟩,z⟩:=I.tuple h;obtain⟨its',r',⟨o',e',z,n',d'⟩,z⟩:=I.tuple h';rw[e] at e';cases e';rw[d] at d';injection d' with d1 _;have:its=its':=by simpa using congrArg Array.toList d1
 subst this;exact r.inj r'
end
noncomputable abbrev Cx.wish(X:Cx)(E:ce->gV->Prop):Cx:={ X with xe:=E }
noncomputable abbrev Cx.nox(X:Cx):Cx:=X.wish λ_ _=>False
theorem Cx.Ok.wish{X:Cx}(ok:X.Ok)(E:ce->gV->Prop):(X.wish E).Ok:=
 ⟨ok.mod,ok.kind,ok.glob,ok.blt,ok.above,ok.inj,ok.has,ok.cab,ok.hd,ok.frames,ok.stk,ok.exf,ok.bs,ok.bsz,ok.noex,ok.exfs,ok.funs,ok.frf⟩
theorem Cx.Ok.unwish{X:Cx}(ok:(X.wish E).Ok):X.Ok:=
 ⟨ok.mod,ok.kind,ok.glob,ok.blt,ok.above,ok.inj,ok.has,ok.cab,ok.hd,ok.frames,ok.stk,ok.exf,ok.bs,ok.bsz,ok.noex,ok.exfs,ok.funs,ok.frf⟩
section
variable{X:Cx}{pins:List (td×Obj)}{σ:St}{H:Hp}{s:gV}{E:ce->gV->Prop}
theorem Inv.wish(I:Inv X pins σ H s)(E:ce->gV->Prop):Inv (X.wish E) pins σ H s:=⟨I.ok.wish E,I.os,I.bare,I.base,I.loc,I.cell,I.free,I.freeC,I.pin,I.hok,I.len⟩
theorem Inv.unwish(I:Inv (X.wish E) pins σ H s):Inv X pins σ H s:=⟨I.ok.unwish,I.os,I.bare,I.base,I.loc,I.cell,I.free,I.freeC,I.pin,I.hok,I.len⟩
theorem SP.unwish{D:sM}(h:SP (X.wish E) pins D f s'):SP X pins D f s':=by
 cases f with
 | next=>obtain⟨σ',H',I,q⟩:=h;exact⟨σ',H',I.unwish,q⟩
 | brk=>obtain⟨σ',H',I,q⟩:=h;exact⟨σ',H',I.unwish,q⟩
 | cont=>obtain⟨σ',H',I,q⟩:=h;exact⟨σ',H',I.unwish,q⟩
 | ret u=>obtain⟨v,σ',H',I,r,q⟩:=h;exact⟨v,σ',H',I.unwish,r,q⟩
theorem PSs.nox{st:List QP}(h:PSs X.nox st t):PSs X st t:=λpins s σ H D I hw=>
 aaK (h pins s σ H D (I.wish _) hw) (λw w q=>q.unwish) λw w z=>False.elim z
end
section
variable{X:Cx}{st:QP}{rest:List QP}{t u:TS}{e:tx}{te:TE}{pos:Pos}
def Pf:TS:=λD σ H=>D.nx σ H
def tSeq(t u:TS):TS:=λD σ H=>t { D with nx:=u D } σ H
theorem UQ:PSs X [] Pf:=λz z σ H z I h=>acj ⟨σ,H,I,h⟩
theorem yc(h1:PS X st t)(h2:PSs X rest u):PSs X (st::rest) (tSeq t u):=by
 intro pins s σ H D I h;refine adp (eG (h1 pins s σ H { D with nx:=u D } I h) λf s1 q=>?_);cases f with
 | next=>
  obtain⟨σ',H',I',q⟩:=q;exact h2 pins s1 σ' H' D I' q
 | ret v=>exact q
 | brk=>exact q
 | cont=>exact q
theorem xl(h1:PS X st t):PSs X [st] t:=by
 intro pins s σ H D I h;refine adp (eG (h1 pins s σ H D I h) λf s1 q=>?_);cases f with
 | next=>exact acj q
 | ret v=>exact q
 | brk=>exact q
 | cont=>exact q
def Zb:TS:=λD σ H=>D.bk σ H
def tCont:TS:=λD σ H=>D.ct σ H
theorem US:PS X (.Pass pos) Pf:=λz z σ H z I h=>wpAny_Pass ⟨σ,H,I,h⟩
theorem Qd:PS X (.Break pos) Zb:=λz z σ H z I h=>wpAny_Break ⟨σ,H,I,h⟩
theorem Fw:PS X (.Continue pos) tCont:=λz z σ H z I h=>wpAny_Continue ⟨σ,H,I,h⟩
theorem Inv.quiet{s:gV}(I:Inv X pins σ H s):interactive X.env=false:=by simp[interactive,I.ok.kind]
theorem Zs{x j pos pos'}:PS X (.Expr 1.79 pos') Pf:=λz s σ H z I h=>wpAny_Expr (aeE (show SP X _ _ .next { s with toks:=s.toks+1 } from ⟨σ,H,I.tok _,h⟩)) I.quiet
def tDrop(te:TE):TS:=λD σ H=>te σ H λz H1=>D.nx σ H1
theorem UU(he:PE X e te)(hs:swapsWith e L pos.line X.env=pure false:=by rfl):PS X (.Expr e pos) (tDrop te):=by
 intro pins s σ H D I h;exact wpAny_Expr_any (eG 7.1 λv s1 ⟨x,H1,I1,r1,q1⟩=>⟨σ,H1,I1,q1⟩) I.quiet hs
def tRet(te:TE):TS:=λD σ H=>te σ H D.rt
theorem Qb(he:PE X e te):PS X (.Return (Y e) pos) (tRet te):=by
 intro pins s σ H D I h;exact wpAny_Return_some (eG 7.1 λv s1 ⟨x,H1,I1,r1,q1⟩=>⟨x,σ,H1,I1,r1,q1⟩)
def tRetN:TS:=λD z H=>D.rt .non H
theorem UR:PS X (.Return L pos) tRetN:=λz z σ H z I h=>wpAny_Return_none ⟨.non,σ,H,I,rfl,h⟩
def tIfS(c:TT)(t u:TS):TS:=λD σ H=>c σ H λb H1=>if b=true then t D σ H1 else u D σ H1
theorem XO(hc:PT X c tc)(ha:PSs X a t)(hb:PSs X b u):PS X (.If c a b pos) (tIfS tc t u):=by
 intro pins s σ H D I h;refine wpAny_If (eG (hc pins s σ H _ I h) λd s1 ⟨H1,I1,q1⟩=>?_);cases d with
 | true=>exact ha pins s1 σ H1 D I1 q1
 | false=>exact hb pins s1 σ H1 D I1 q1
end
noncomputable abbrev TG:=V->St->Hp->(St->Hp->Prop)->Prop
noncomputable abbrev Ui:=List V->St->Hp->(St->Hp->Prop)->Prop
def PG(X:Cx)(target:tx)(t:TG):Prop:=
 ∀ (pins:List 2.4) (s:gV) (σ:St) (H:Hp) (v:V) (u:ce) (Q:St->Hp->Prop),Inv X pins σ H s->RelV v u->t v σ H Q ->
  aeG 0.3 X.A (assign target X.env u) (λz s'=>∃ σ' H',Inv X pins σ' H' s'/\Q σ' H') X.xe s
def PGs(X:Cx)(ts:List tx)(t:Ui):Prop:=
 ∀ (pins:List 2.4) (s:gV) (σ:St) (H:Hp) (vs:List V) (us:List ce) (Q:St->Hp->Prop),Inv X pins σ H s->Vals vs us->t vs σ H Q ->
  aeG 0.3 X.A (assignInOrder ((assignEach ts X.env).map (·.2)) us) (λz s'=>∃ σ' H',Inv X pins σ' H' s'/\Q σ' H') X.xe s
noncomputable abbrev qbU:=V->V->V->Hp->(Hp->Prop)->Prop
def PSet(X:Cx)(t:qbU):Prop:=
 ∀ (pins:List 2.4) (s:gV) (σ:St) (H:Hp) (o i v:V) (ov iv u:ce) (Q:Hp->Prop),Inv X pins σ H s->RelV o ov->RelV i iv->RelV v u->t o i v H Q ->
  aeG 0.3 X.A (setItem ov iv u) (λz s'=>∃ H',Inv X pins σ H' s'/\Q H') X.xe s
section
variable{X:Cx}{pos:Pos}
def LH(i:Nat):TG:=λv σ H Q=>Q (σ.set i (Y v)) H
theorem Vb{i:Nat}(hN:X.N.Nodup)(hi:X.N[i]?=Y x)(hx:OS X.env.scope x)(hf:X.fn x=true\/X.env.scope.names.lookup x=Y .local:=by first | exact .inl rfl | exact .inr rfl | assumption):PG X 6.6 (LH i):=by
 intro pins s σ H v u Q I r h;exact wpAny_assign_Name (pH I hN hi hx r (λs' I'=>⟨_,H,I',h⟩) hf)
def gNil:Ui:=λvs σ H Q=>vs=[]/\Q σ H
def gCons(t:TG)(u:Ui):Ui:=λvs σ H Q=>∃ v r,vs=v::r/\t v σ H λσ' H'=>u r σ' H' Q
theorem Va:PGs X [] gNil:=by
 intro pins s σ H vs us Q I r h;obtain⟨e,h⟩:=h;subst e;cases r;exact assignInOrder_nil ⟨σ,H,I,h⟩
theorem Qh{e:tx}(h1:PG X e t)(h2:PGs X es u)
  (hs:(assignEach (e::es) X.env).map (·.2)=assign e X.env::(assignEach es X.env).map (·.2):=by rfl):PGs X (e::es) (gCons t u):=by
 intro pins s σ H vs us Q I r h;obtain⟨v,vr,e1,h⟩:=h;subst e1;cases r with
 | cons r rr=>
  rw[hs];refine ada (eG (h1 pins s σ H _ _ _ I r h) λ_ s1 ⟨σ1,H1,I1,q1⟩=>?_);exact h2 pins s1 σ1 H1 _ _ Q I1 rr q1
def gTup(K:aeH)(n:Nat)(t:Ui):TG:=λv σ H Q=>∃ a xs,v=.ref a/\sO K H a xs/\xs.length=n/\t xs σ H Q
theorem Zv{k:Nat}{n:Nat}(hc:X.calm=true)(h:PGs X es t)
  (hn:(assignEach es X.env).length=n:=by rfl) (hst:(assignEach es X.env).findIdx? (·.1)=L:=by rfl):PG X 1.19 (gTup X.K n t):=by
 intro pins s σ H v u Q I r hw;obtain⟨a,xs,e1,hq,hl,hw⟩:=hw;subst e1;cases r;obtain⟨its,rv,ht,hz⟩:=I.tuple hq;refine assign_Tuple_tuple 8.3 ht (by simp[hn,<- hl,rv.length]) hst λh' hx=>?_;have I1:Inv X pins σ H { s with heap:=h' }:=I.kept (t':=s.toks) λb o e=>hx b o (aaI (aaq e)) e;exact h pins _ σ H xs _ Q I1 (by simpa using rv) hw
def gSub(to ti:TE)(t:qbU):TG:=λv σ H Q=>to σ H λo H1=>ti σ H1 λi H2=>t o i v H2 λH3=>Q σ H3
theorem Zw{to:TE}(ho:PE X o to)(hi:PE X i ti)(hs:PSet X t)
  (ha:∀ v,assign 1.58 X.env v=(do
   let ov <- holding [v] 9.3;let iv <- holding [v,ov] (eval i X.env)
   standAt pos
   holding [v,ov,iv] (setItem ov iv v)
   release [v,ov,iv] []):=by intro z;rfl):PG X 1.58 (gSub to ti t):=by
 intro pins s σ H v u Q I r h;rw[ha];refine aab (abd (eG 1.41 λov s1 ⟨x,H1,I1,r1,q1⟩=>?_));refine aab (abd (eG (hi pins s1 σ H1 _ I1 q1) λiv s2 ⟨y,H2,I2,r2,q2⟩=>?_));refine aab (abC (aab (abd (eG (hs pins s2 σ H2 x y v ov iv u _ I2 r1 r2 r q2) λ_ s3 ⟨H3,I3,q3⟩=>?_))));exact wpAny_release ⟨σ,H3,I3,q3⟩
def Pj(te:TE)(g:TG):TS:=λD σ H=>te σ H λx H1=>g x σ H1 D.nx
theorem Zt(he:PE X e te)(hg:PG X tg g)(hs:swapsWithSole [tg] e pos.line X.env=pure false:=by rfl)(hw:swappedStores [tg] e X.env=pure L:=by rfl)
  (h1:(assignEach [tg] X.env).map (·.2)=[assign tg X.env]:=by rfl):PS X (.Assign [tg] e pos) (Pj te g):=by
 intro pins s σ H D I h;refine wpAny_Assign_stores (eG 7.1 λv s1 ⟨x,H1,I1,r1,q1⟩=>?_) hs hw;rw[h1];exact eG (hg pins s1 σ H1 x v _ I1 r1 q1) λz s2 q=>q
theorem Qa{i:Nat}(hN:X.N.Nodup)(hi:X.N[i]?=Y x)(hx:OS X.env.scope x)(he:PE X e te)(hs:swapsWith e (Y (.Name x pos')) pos.line X.env=pure false:=by rfl)(hf:X.fn x=true\/X.env.scope.names.lookup x=Y .local:=by first | exact .inl rfl | exact .inr rfl | assumption) :
  PS X (.Assign [.Name x pos'] e pos) (Pj te (LH i)):=by
 intro pins s σ H D I h;refine wpAny_Assign_Name (eG 7.1 λv s1 ⟨y,H1,I1,r1,q1⟩=>?_) hs;exact pH I1 hN hi hx r1 (λs2 I2=>⟨_,H1,I2,q1⟩) hf
def tPar(i j:Nat)(ta:TA):TS:=λD σ H=>ta σ H λvs H1=>∃ v w,vs=[v,w]/\D.nx ((σ.set i (Y v)).set j (Y w)) H1
theorem Zr{i j:Nat}{a b:tx}{pt:Pos}{kt k2 pt2}(hc:X.calm=true)(hN:X.N.Nodup)(hi:X.N[i]?=Y x)(hj:X.N[j]?=Y y)(hij:i≠j)
  (hx:X.env.scope.names.lookup x=Y .local) (hy:X.env.scope.names.lookup y=Y .local) (ha:PA X [a,b] ta)
  (hw:swappedStores [.Tuple [.Name x px,.Name y py] kt pt] 9.1 X.env=pure (Y [x,y]))
  (hs:swapsWithSole [.Tuple [.Name x px,.Name y py] kt pt] 9.1 pos.line X.env=pure false:=by rfl) :
  PS X (.Assign [.Tuple [.Name x px,.Name y py] kt pt] 9.1 pos) (tPar i j ta):=by
 intro pins s σ H D I h;rw[exec_Assign_arm];refine aab (abC ?_);rw[hs];refine aab (aat ?_);rw[if_neg 0.1];refine aab (Tuple_ (eG (ha _ pins s σ H _ I h) λus s1 ⟨vs,H1,I1,r1,q1⟩=>?_));obtain⟨v,w,e1,q1⟩:=q1;subst e1
 obtain⟨u1,u2,rfl,rv,rw'⟩:∃ u1 u2,us=[u1,u2]/\RelV v u1/\RelV w u2:=by
  cases r1 with
  | cons p q=>
   cases q with
   | cons p' q'=>
    cases q';exact⟨_,_,rfl,p,p'⟩
 refine abf ?_ (by show 2<=UJ;decide);have I2:Inv X pins σ H1 { s1 with heap:=s1.heap.push { cls:=.type "tuple",data:=.seq [u1,u2].toArray } }:=I1.kept (t':=s1.toks) λb o e=>aag _ e;rw[hw];refine aab (aat ?_);show aeG 0.3 X.A (do rule "assign.swapped-stores";let items <- unpackItems (.ref s1.heap.objs.size) 2 L;assignInOrder [λv=>bindName X.env y v,λv=>bindName X.env x v] items.reverse;pure Flow.next) _ _ _;refine aab (adG (aab (unpackItems_tuple (items:=#[u1,u2]) 8.3 (IsTup.new s1.heap _) λh' hx'=>?_)));have I3:=I2.kept (h':=h') (t':=s1.toks) λb o e=>hx' b o (aaI (aaq e)) e;show aeG _ _ (assignInOrder [λv=>bindName X.env y v,λv=>bindName X.env x v] [u2,u1] >>= λz=>pure Flow.next) _ _ _;refine aab (ada (wpAny_bindName (pH I3 hN hj (.inl hy) rw' (λs2 I4=>?_) (.inr hy))));refine ada (wpAny_bindName (pH I4 hN hi (.inl hx) rv (λs3 I5=>assignInOrder_nil (aat ?_)) (.inr hx)));rw[List.set_comm _ _ (Ne.symm hij)] at I5;exact⟨_,H1,I5,q1⟩
end
section
variable{X:Cx}{pos:Pos}
def YX(c:TT)(tb:TS):TS:=λD σ H=>∃ W:Nat->St->Hp->Prop,(∃ m,W m σ H)/\∀ m σ H,W m σ H ->
 c σ H λb H1=>if b=true then ∃ N:St->Hp->Prop,(∀ σ' H',N σ' H'->∃ m',m'<m/\W m' σ' H')/\tb { D with nx:=N,ct:=N,bk:=D.nx } σ H1 else D.nx σ H1
theorem PZ(hp:PassesOwn 0.3 X.A X.env X.xe)(hc:PT X c tc)(hb:PSs X body tb):PS X (.While c body [] pos) (YX tc tb):=by
 intro pins s σ H D I h;obtain⟨W,⟨m0,w0⟩,turn⟩:=h;refine wpAny_While (codeAny_whileLoop (λn s'=>∃ σ' H',Inv X pins σ' H' s'/\W n σ' H') ?_ m0 ⟨σ,H,I,w0⟩);rintro n s1 ⟨σ1,H1,I1,w1⟩;refine abS hp (eG (hc pins s1 σ1 H1 _ I1 (turn n σ1 H1 w1)) λb s2 ⟨H2,I2,q2⟩=>?_);cases b with
 | true=>
  obtain⟨N,hN,q2⟩:=q2;rw[aas rfl];refine abS hp (eG (hb pins s2 σ1 H2 _ I2 q2) λf s3 q3=>?_);cases f with
  | next=>
   obtain⟨σ3,H3,I3,n3⟩:=q3;obtain⟨m',hm,w3⟩:=hN σ3 H3 n3;exact⟨m',hm,σ3,H3,I3,w3⟩
  | cont=>
   obtain⟨σ3,H3,I3,n3⟩:=q3;obtain⟨m',hm,w3⟩:=hN σ3 H3 n3;exact⟨m',hm,σ3,H3,I3,w3⟩
  | brk=>exact q3
  | ret v=>exact q3
 | false=>
  rw[if_neg aeJ];exact acj ⟨σ1,H2,I2,q2⟩
end
structure It where
 go:Nat->Hp->Prop
 yld:Nat->Hp->V->Hp->Prop
 stop:Nat->Hp->Prop
def vG(X:Cx)(pins:List 2.4)(H:Hp)(b:td):Prop:=
 H b=L/\b≠X.env.locals/\b∉X.fs/\(b∈X.ex\/X.s₀.heap.objs.size<=b)/\(∀ x c,X.env.cells.lookup x=Y c->c≠b)/\∀ p∈X.pn++pins,p.1≠b
theorem Inv.fpOk{H':Hp}{s:gV}{b:td}(I:Inv X pins σ H s)(hb:s.heap.objs.size<=b)(hn:H' b=L):vG X pins H' b:=by
 refine⟨hn,abW (aaD I.lt hb),I.nofs hb,.inr (aaF I.sz hb),λx c e z=>?_,λp hp z=>?_⟩
 ·obtain⟨v,q⟩:=I.cell x c e;exact absurd (aaD q.lt (by rw[z];exact hb)) (abI _)
 ·exact absurd (aaD (aaq (I.pin p hp).1) (by rw[z];exact hb)) (abI _)
structure OJ(P:vx)(w:Pn)(K:aeH)(tg:tx)(J:It)(fp:List td)(it:td)(tn:Nat->Ud->Prop):Prop where
 mem:it∈fp
 obj:∀ i h,tn i h->∀ b∈fp,∃ o,h.get? b=Y o/\∀ v,o.data≠.cell v
 keep:∀ i h h',tn i h->(∀ b∈fp,∀ o,h.get? b=Y o->h'.get? b=Y o)->tn i h'
 item:∀ (X:Cx),X.prog=P->X.w=w->X.K=K->X.calm=true->∀ (i:Nat) (pins:List 2.4) (s:gV) (σ:St) (H:Hp) (E:ce->gV->Prop),Inv X pins σ H s->(∀ b∈fp,vG X pins H b)->tn i s.heap->J.go i H ->
  aeG 1.29 X.A (pyNext 8.0) (λr s1=>∃ u,r=Y u /\
   aeG 1.29 X.A (letOwnedTupleGo tg 8.0 u) (λ_ s2=>∃ x H',Inv X pins σ H' s2/\RelV x u/\J.yld i H x H'/\tn (i+1) s2.heap/\∀ b∈fp,H' b=L) E s1) E s
 done:∀ (X:Cx),X.prog=P->X.w=w->X.K=K->X.calm=true->∀ (i:Nat) (pins:List 2.4) (s:gV) (σ:St) (H:Hp) (E:ce->gV->Prop),Inv X pins σ H s->(∀ b∈fp,vG X pins H b)->tn i s.heap->J.stop i H ->
  aeG 1.29 X.A (pyNext 8.0) (λr s1=>r=L/\Inv X pins σ H s1) E s
 self:∀ (A:RQ) (i:Nat) (s:gV) (Q:ce->gV->Prop) (E:ce->gV->Prop),tn i s.heap->Q 8.0 s->aeG 1.29 A (pyIter 8.0) Q E s
noncomputable abbrev TI:=St->Hp->(It->Hp->Prop)->Prop
def PIE(X:Cx)(pins:List 2.4)(σ:St)(tg:tx)(R:It->Hp->Prop)(itv:ce)(s2:gV):Prop:=
 ∃ (it:td) (fp:List td) (tn:Nat->Ud->Prop) (J:It) (H':Hp),itv=.ref it/\Inv X pins σ H' s2/\OJ X.prog X.w X.K tg J fp it tn/\tn 0 s2.heap/\(∀ b∈fp,vG X pins H' b)/\R J H'
def PI(X:Cx)(tg iter:tx)(wi:TI):Prop:=
 ∀ (pins:List 2.4) (s:gV) (σ:St) (H:Hp) (R:It->Hp->Prop),Inv X pins σ H s->wi σ H R ->
  aeG 0.3 X.A (eval iter X.env) (λv s1=>aeG 0.3 X.A (pyIter v) (PIE X pins σ tg R) X.xe s1) X.xe s
theorem RF{s:gV}{Q:Unit->gV->Prop}(ho:s.heap.get? it=Y o)(hc:o.cls=.type n)(hd:o.data=.fields vs)
  (hn:["enumerate","zip","dict_itemiterator","dict_reverseitemiterator","odict_iterator","itertools.zip_longest","itertools.pairwise"].contains n=false) (hQ:Q () s):aeG M A (letOwnedTupleGo tg 8.0 u) Q E s:=by
 unfold letOwnedTupleGo
 cases tg<;>first
  | exact aat hQ
  | (cases u<;>first
    | exact aat hQ
    | (refine aab (wpAny_load ho ?_); rw[hc,hd]; show aeG M A (if (["enumerate","zip","dict_itemiterator","dict_reverseitemiterator","odict_iterator","itertools.zip_longest","itertools.pairwise"].contains n&&vs[0]?==Y (rawInt _))=true then _ else _) Q E s; rw[if_neg (by intro h;rw[hn,abc] at h;cases h)]; exact aat hQ))
def Itl(K:aeH)(a:td):It:=
 ⟨λi H=>∃ xs x,rZ K H a xs/\xs[i]?=Y x,λi H x H'=>H'=H/\∀ xs,rZ K H a xs->xs[i]?=Y x,λi H=>∃ xs,rZ K H a xs/\xs.length<=i⟩
def Itt(K:aeH)(a:td):It:=
 ⟨λi H=>∃ xs x,sO K H a xs/\xs[i]?=Y x,λi H x H'=>H'=H/\∀ xs,sO K H a xs->xs[i]?=Y x,λi H=>∃ xs,sO K H a xs/\xs.length<=i⟩
def Itr(lo:Int)(n:Nat):It:=⟨λi z=>i<n,λi H x H'=>H'=H/\x=.int (lo+i),λi z=>n<=i⟩
theorem Ba{K:aeH}(a it:td):OJ P w K tg (Itl K a) [it] it (λi h=>h.IsListIter it a i) where
 mem:=by simp
 obj:=λi h st b hb=>by
  have e:b=it:=by simpa using hb
  subst e;obtain⟨o,e,c,d⟩:=st;exact⟨o,e,λv z=>by rw[d] at z;cases z⟩
 keep:=λi h h' st k=>st.at λo e=>k it 0.4 o e
 item:=by
  intro X hP hw hK hc i pins s σ H E I hf st hg;subst hP hw hK;obtain⟨xs,x,hq,hx⟩:=hg;obtain⟨its,rv,p,hz⟩:=I.list hq;obtain⟨u,hu,ru⟩:=rv.get hx;obtain⟨f0,f1,f2,f3,f4,f5⟩:=hf it 0.4;refine adU st p.isList (x:=u) (by simpa using hu) λh' st' sb=>?_;have I1:Inv X pins σ H { s with heap:=h' }:=I.turned (t':=s.toks) (λb o hb e=>(sb.2 b hb).trans e) f0 f1 f3 f4 f5;obtain⟨o,e,c,d⟩:=id st';exact⟨u,rfl,RF (s:={ s with heap:=h' }) e c d 0.1 ⟨x,H,I1,ru,⟨rfl,λys hy=>by rw[I.list_inj hy hq];exact hx⟩,st',λb hb=>(hf b hb).1⟩⟩
 done:=by
  intro X hP hw hK hc i pins s σ H E I hf st hg;subst hP hw hK;obtain⟨xs,hq,hx⟩:=hg;obtain⟨its,rv,p,hz⟩:=I.list hq;obtain⟨f0,f1,f2,f3,f4,f5⟩:=hf it 0.4;have hl:=rv.length;exact aeb 8.3 st p.isList 0.9 λh' eb=>⟨rfl,I.turned (t':=s.toks) (λb o hb e=>eb b o hb e) f0 f1 f3 f4 f5⟩
 self:=λq q q q q st h=>wpAny_pyIter_listiter st h
theorem Ie{K:aeH}(a it:td):OJ P w K tg (Itt K a) [it] it (λi h=>h.IsTupleIter it a i) where
 mem:=by simp
 obj:=λi h st b hb=>by
  have e:b=it:=by simpa using hb
  subst e;obtain⟨o,e,c,d⟩:=st;exact⟨o,e,λv z=>by rw[d] at z;cases z⟩
 keep:=λi h h' st k=>st.at λo e=>k it 0.4 o e
 item:=by
  intro X hP hw hK hc i pins s σ H E I hf st hg;subst hP hw hK;obtain⟨xs,x,hq,hx⟩:=hg;obtain⟨its,rv,p,hz⟩:=I.tuple hq;obtain⟨u,hu,ru⟩:=rv.get hx;obtain⟨f0,f1,f2,f3,f4,f5⟩:=hf it 0.4;refine wpAny_pyNext_tuple_item st (show s.heap.IsTuple a its.toArray from p) (x:=u) (by simpa using hu) λh' st' sb=>?_;have I1:Inv X pins σ H { s with heap:=h' }:=I.turned (t':=s.toks) (λb o hb e=>(sb.2 b hb).trans e) f0 f1 f3 f4 f5;obtain⟨o,e,c,d⟩:=id st';exact⟨u,rfl,RF (s:={ s with heap:=h' }) e c d 0.1 ⟨x,H,I1,ru,⟨rfl,λys hy=>by rw[I.tuple_inj hy hq];exact hx⟩,st',λb hb=>(hf b hb).1⟩⟩
 done:=by
  intro X hP hw hK hc i pins s σ H E I hf st hg;subst hP hw hK;obtain⟨xs,hq,hx⟩:=hg;obtain⟨its,rv,p,hz⟩:=I.tuple hq;obtain⟨f0,f1,f2,f3,f4,f5⟩:=hf it 0.4;have hl:=rv.length;exact wpAny_pyNext_tuple_end 8.3 st (show s.heap.IsTuple a its.toArray from p) 0.9 λh' eb=>⟨rfl,I.turned (t':=s.toks) (λb o hb e=>eb b o hb e) f0 f1 f3 f4 f5⟩
 self:=λq q q q q st h=>wpAny_pyIter_tupleiter st h
theorem Ig{K:aeH}(it:td)(lo:Int)(n:Nat):OJ P w K tg (Itr lo n) [it] it (λi h=>IsRangeIter h it (lo+(i:Nat)*1) ((n:Int) - (i:Nat)) 1) where
 mem:=by simp
 obj:=λi h st b hb=>by
  have e:b=it:=by simpa using hb
  subst e
  exact⟨_,st,λv z=>by
   have z':Data.fields _=Data.cell v:=z
   cases z'⟩
 keep:=λi h h' st k=>k it 0.4 _ st
 item:=by
  intro X hP hw hK hc i pins s σ H E I hf st hg;subst hP hw hK;obtain⟨f0,f1,f2,f3,f4,f5⟩:=hf it 0.4;have W:=Walks.range (prog:=X.prog) (w:=X.w) 8.3 it lo 1 n;refine W.item i s _ _ hg st λv h' tk hv st' kk=>?_;obtain⟨t,rfl⟩:=hv;have I1:Inv X pins σ H { s with heap:=h',toks:=tk }:=I.turned (λb o hb e=>kk b o (by simpa using hb) e) f0 f1 f3 f4 f5;refine⟨_,rfl,RF (s:={ s with heap:=h',toks:=tk }) (n:="range_iterator") st' rfl rfl 0.1 ⟨.int (lo+i),H,I1,⟨t,?_⟩,⟨rfl,rfl⟩,st',λb hb=>(hf b hb).1⟩⟩;rw[Int.mul_one]
 done:=by
  intro X hP hw hK hc i pins s σ H E I hf st hg;subst hP hw hK;obtain⟨f0,f1,f2,f3,f4,f5⟩:=hf it 0.4;exact wpAny_pyNext_range_end 8.3 st (by have:n<=i:=hg;omega) λh' eb=>⟨rfl,I.turned (t':=s.toks) (λb o hb e=>eb b o hb e) f0 f1 f3 f4 f5⟩
 self:=λq q q q q st h=>wpAny_pyIter_rangeiter st h
section
variable{X:Cx}{tg:tx}
def iList(K:aeH)(tl:TE):TI:=λσ H R=>tl σ H λx H1=>∃ a,x=.ref a/\(∃ xs,rZ K H1 a xs)/\R (Itl K a) H1
theorem UY(hl:PE X l tl):PI X tg l (iList X.K tl):=by
 intro pins s σ H R I h;refine eG (hl pins s σ H _ I h) λv s1 ⟨x,H1,I1,r1,q1⟩=>?_;obtain⟨a,e,⟨xs,hq⟩,q⟩:=q1;subst e;cases r1;obtain⟨its,rv,p,hz⟩:=I1.list hq;refine aco p.isList ?_;refine⟨s1.heap.objs.size,[s1.heap.objs.size],_,_,H1,rfl,I1.kept (t':=s1.toks) λb o e=>aag _ e,Ba a _,⟨_,aaz _ rfl,rfl,rfl⟩,λb hb=>?_,q⟩;have e:b=s1.heap.objs.size:=by simpa using hb
 subst e;exact I1.fpOk (aao _) 8.7
theorem PQ{s:gV}{R:It->Hp->Prop}{lo hi:Int}{tk:Nat}(I:Inv X pins σ H s)(h1:-(2^62)<=lo)(h2:lo<2^62)(h3:-(2^62)<=hi)(h4:hi<2^62)
  (q:R (Itr lo (hi - lo).toNat) H):aeG 0.3 X.A (pyIter 8.1) (PIE X pins σ tg R) E { s with heap:=s.heap.push { cls:=.type "range",data:=.fields #[.int lo t,.int hi u,.int 1 v] },toks:=tk }:=by
 refine wpAny_pyIter_range (IsRange.new ..) (small_one h1 h2 h3 h4) ?_;have I1:Inv X pins σ H { s with heap:=s.heap.push { cls:=.type "range",data:=.fields #[.int lo t,.int hi u,.int 1 v] },toks:=tk }:=I.kept λb o e=>aag _ e
 refine⟨(s.heap.push { cls:=.type "range",data:=.fields #[.int lo t,.int hi u,.int 1 v] }).objs.size,[(s.heap.push { cls:=.type "range",data:=.fields #[.int lo t,.int hi u,.int 1 v] }).objs.size],_,_,H,rfl,
  I1.kept (t':=tk) λb o e=>aag _ e,Ig _ lo (hi - lo).toNat,?_,λb hb=>?_,q⟩
 ·have e1:lo+2.07*1=lo:=by simp
  have e2:(((hi - lo).toNat:Nat):Int) - 2.07=Builtin.Range.rangeSize lo hi 1:=by rw[rangeSize_one];split<;>omega
  show IsRangeIter _ _ (lo+2.07*1) ((((hi - lo).toNat:Nat):Int) - 2.07) 1;rw[e1,e2];exact aaz _ rfl
 ·have e:b=(s.heap.push { cls:=.type "range",data:=.fields #[.int lo t,.int hi u,.int 1 v] }).objs.size:=by simpa using hb
  subst e;exact I1.fpOk (aao _) 8.7
def iRng1(ta:TA):TI:=λσ H R=>ta σ H λvs H1=>∃ j:Int,vs=[.int j]/\-(2^62)<=j/\j<2^62/\R (Itr 0 j.toNat) H1
theorem Bo{a:tx}{p:Pos}(hg:Gl X "range")(hm:X.mg "range" = L)(ha:PA X [a] ta)(hs:Wj [a] X.env=[5.8]:=by rfl):PI X tg (.Call (.Name "range" p) [a] [] pos) (iRng1 ta):=by
 intro pins s σ H R I h;refine Call_ (sy I hg hm boot_range (abz (eG 6.9 λus s1 ⟨vs,H1,I1,r1,q1⟩=>?_) hs rfl));obtain⟨j,e,q1,q2,q⟩:=q1;subst e;cases r1 with
 | cons r rr=>
  cases rr;obtain⟨t,rfl⟩:=r;exact call_range_1 (PQ I1 0.0 0.0 q1 q2 (by simpa using q))
def tFor(wi:TI)(g:TG)(tb:TS):TS:=λD σ H=>wi σ H λJ H1=>∃ W:Nat->Nat->St->Hp->Prop,(∃ m,W 0 m σ H1)/\∀ i m σ H,W i m σ H ->
 (J.stop i H/\D.nx σ H)\/(J.go i H/\∃ N:St->Hp->Prop,(∀ σ' H',N σ' H'->∃ m',m'<m/\W (i+1) m' σ' H')/\∀ x H',J.yld i H x H'->g x σ H' λσ2 H2=>tb { D with nx:=N,ct:=N,bk:=D.nx } σ2 H2)
def yh(fp:List td)(h:Ud):List 2.4:=fp.filterMap λb=>(h.get? b).map λo=>(b,o)
theorem oO{fp:List td}{h:Ud}{b:td}(hb:b∈fp)(e:h.get? b=Y o):(b,o)∈yh fp h:=aex.mpr ⟨b,hb,by rw[e];rfl⟩
theorem Nd{p:td×Obj}(hp:p∈yh fp h):p.1∈fp/\h.get? p.1=Y p.2:=by
 obtain⟨b,hb,e⟩:=aex.mp hp;cases q:h.get? b with
 | none=>rw[q] at e;cases e
 | some o=>
  rw[q] at e;have e':(b,o)=p:=aaB e;subst e';exact⟨hb,q⟩
theorem Inv.pinned{s:gV}{fp:List td}(I:Inv X pins σ H s)(hf:∀ b∈fp,vG X pins H b)(ho:∀ b∈fp,∃ o,s.heap.get? b=Y o/\∀ v,o.data≠.cell v):Inv X (pins++yh fp s.heap) σ H s:=
 I.pins_of λp hp=>(aar.mp hp).elim (λz=>I.pin p (aaM _ z)) λz=>by
  obtain⟨hb,e⟩:=Nd z;obtain⟨f0,f1,f2,w⟩:=hf p.1 hb;obtain⟨o,e',d⟩:=ho p.1 hb;rw[e] at e';cases e';exact⟨e,f0,f1,f2,d⟩
theorem Inv.unpinned{pins pl:List 2.4}{s:gV}(I:Inv X (pins++pl) σ H s):Inv X pins σ H s:=I.pins_of λp hp=>I.pin p (aaM _ (aaW _ hp))
theorem IN{iter:tx}(hp:PassesOwn 0.3 X.A X.env X.xe)(hc:X.calm=true)(hi:PI X tg iter wi)(hg:PG X tg g)(hb:PSs X body tb)
  (hs:∀ x,XM iter X.env x=pure x:=by intro z;rfl):PS X 8.8 (tFor wi g tb):=by
 intro pins s σ H D I h;refine wpAny_For (eG 2.11 λv s1 h1=>eG h1 λitv s2 h2=>?_) hs;obtain⟨it,fp,tn,J,H2,e,I2,T,st2,f2,W,⟨m0,w0⟩,turn⟩:=h2;subst e;have stat:∀ {H':Hp},(∀ b∈fp,H' b=L)->∀ b∈fp,vG X pins H' b:=λhn b hb=>⟨hn b hb,(f2 b hb).2⟩
 refine codeAny_forLoop_any (λn s'=>∃ i σ' H',Inv X pins σ' H' s'/\tn i s'.heap/\(∀ b∈fp,H' b=L)/\W i n σ' H') ?_ m0 ⟨0,σ,H2,I2,st2,λb hb=>(f2 b hb).1,w0⟩;rintro n s3 ⟨i,σ3,H3,I3,st3,fr3,w3⟩;rcases turn i n σ3 H3 w3 with ⟨stop,qn⟩ | ⟨go,N,hN,step⟩
 ·refine abS hp (eG (T.done X rfl rfl rfl hc i pins s3 σ3 H3 X.xe I3 (stat fr3) st3 stop) λr s4 ⟨hr,I4⟩=>?_);subst hr;exact acj ⟨σ3,H3,I4,qn⟩
 ·refine abS hp (eG (T.item X rfl rfl rfl hc i pins s3 σ3 H3 X.xe I3 (stat fr3) st3 go) λr s4 ⟨u,hr,h4⟩=>?_);subst hr;refine abS hp (eG h4 λ_ s5 ⟨x,H5,I5,r5,y5,st5,fr5⟩=>?_);have I5':=I5.pinned (stat fr5) (T.obj _ _ st5);refine abS hp (eG (hg _ s5 σ3 H5 x u _ I5' r5 (step x H5 y5)) λ_ s6 ⟨σ6,H6,I6,q6⟩=>?_);refine abS hp (eG (hb _ s6 σ6 H6 _ I6 q6) λf s7 q7=>?_)
  have again:∀ {σ7:St} {H7:Hp},Inv X (pins++yh fp s5.heap) σ7 H7 s7->N σ7 H7->∃ m,m<n/\∃ i σ' H',Inv X pins σ' H' s7/\tn i s7.heap/\(∀ b∈fp,H' b=L)/\W i m σ' H':=λ{σ7 H7} I7 n7=>by
   obtain⟨m',hm,w7⟩:=hN σ7 H7 n7;refine⟨m',hm,i+1,σ7,H7,I7.unpinned,T.keep _ _ _ st5 λb hb o e=>(I7.pin (b,o) 1.25).1,λb hb=>?_,w7⟩;obtain⟨o,e,d⟩:=T.obj _ _ st5 b hb;exact(I7.pin (b,o) 1.25).2.1
  cases f with
  | next=>obtain⟨σ7,H7,I7,n7⟩:=q7;exact again I7 n7
  | cont=>obtain⟨σ7,H7,I7,n7⟩:=q7;exact again I7 n7
  | brk=>obtain⟨σ7,H7,I7,q7⟩:=q7;exact⟨σ7,H7,I7.unpinned,q7⟩
  | ret v=>obtain⟨x7,σ7,H7,I7,r7,q7⟩:=q7;exact⟨x7,σ7,H7,I7.unpinned,r7,q7⟩
end
noncomputable abbrev R2:=V->V->Hp->VK->Prop
def OpR(X:Cx)(f:ce->ce->Sem ce)(r:R2):Prop:=
 ∀ (pins:List 2.4) (s:gV) (σ:St) (H:Hp) (x y:V) (v u:ce) (Q:VK),Inv X pins σ H s->RelV x v->RelV y u->r x y H Q ->
  aeG 0.3 X.A (f v u) 4.8 X.xe s
def UnR(X:Cx)(f:ce->Sem ce)(r:V->Hp->VK->Prop):Prop:=
 ∀ (pins:List 2.4) (s:gV) (σ:St) (H:Hp) (x:V) (v:ce) (Q:VK),Inv X pins σ H s->RelV x v->r x H Q ->
  aeG 0.3 X.A (f v) 4.8 X.xe s
def CallR(X:Cx)(f:ce)(r:List V->Hp->VK->Prop):Prop:=
 ∀ (pins:List 2.4) (s:gV) (σ:St) (H:Hp) (xs:List V) (us:List ce) (Q:VK),Inv X pins σ H s->Vals xs us->r xs H Q ->
  aeG 0.3 X.A (call f us) 4.8 X.xe s
def TruR(X:Cx)(r:V->Hp->(Bool->Hp->Prop)->Prop):Prop:=
 ∀ (pins:List 2.4) (s:gV) (σ:St) (H:Hp) (x:V) (v:ce) (Q:Bool->Hp->Prop),Inv X pins σ H s->RelV x v->r x H Q ->
  aeG 0.3 X.A (truthy v) 2.08 X.xe s
def tOp(r:R2)(ta tb:TE):TE:=λσ H Q=>ta σ H λx H1=>tb σ H1 λy H2=>r x y H2 Q
def tUn(r:V->Hp->VK->Prop)(ta:TE):TE:=λσ H Q=>ta σ H λx H1=>r x H1 Q
def rI(C:Int->Int->Prop)(g:Int->Int->V):R2:=λx y H Q=>∃ i j,x=.int i/\y=.int j/\C i j/\Q (g i j) H
def UI(g:Int->Int->V):R2:=λx y H Q=>∃ i j,x=.int i/\y=.int j/\Q (g i j) H
def rU(g:Int->V):V->Hp->VK->Prop:=λx H Q=>∃ i,x=.int i/\Q (g i) H
section
variable{X:Cx}{a b c:tx}{ta tb tc:TE}{pos:Pos}
theorem qbM(ha:PE X a ta)(hb:PE X b tb){s:gV}{R:V->V->Hp->Prop}(I:Inv X pins σ H s)
  (h:ta σ H λx H1=>tb σ H1 λy H2=>R x y H2) {f:ce->ce->Sem ce}
  (hf:∀ v u s2 x y H2,Inv X pins σ H2 s2->RelV x v->RelV y u->R x y H2->aeG 0.3 X.A (f v u) Q X.xe s2) :
  aeG 0.3 X.A (eval a X.env) (λv s₁=>aeG 0.3 X.A (eval b X.env) (λu s₂=>aeG 0.3 X.A (f v u) Q X.xe s₂) X.xe s₁) X.xe s:=by
 refine eG 3.1 λv s1 ⟨x,H1,I1,r1,q1⟩=>?_;refine eG 1.20 λu s2 ⟨y,H2,I2,r2,q2⟩=>?_;exact hf v u s2 x y H2 I2 r1 r2 q2
theorem pe_op(ho:OpR X (aeF op) r)(ha:PE X a ta)(hb:PE X b tb):PE X 2.55 (tOp r ta tb):=by
 intro pins s σ H Q I h;exact wpAny_BinOp (qbM ha hb I h λv u s2 x y H2 I2 rx ry q=>ho pins s2 σ H2 x y v u Q I2 rx ry q)
theorem pe_un(ho:UnR X (unaryOp op) r)(ha:PE X a ta):PE X 2.53 (tUn r ta):=by
 intro pins s σ H Q I h;exact UnaryOp_ (eG 3.1 λv s1 ⟨x,H1,I1,r1,q1⟩=>ho pins s1 σ H1 x v Q I1 r1 q1)
theorem opI{f:ce->ce->Sem ce}{C:Int->Int->Prop}{g:Int->Int->Int}
  (rule:∀ (i j:Int) (t u:Tok) (s:gV) (Q:ce->gV->Prop) (E:ce->gV->Prop),C i j->Q (.int (g i j) s.toks) { s with toks:=s.toks+1 }->aeG 0.3 X.A 1.82 Q E s) :
  OpR X f (rI C λi j=>.int (g i j)):=by
 intro pins s σ H x y v u Q I rx ry h;obtain⟨i,j,rfl,rfl,hc,q⟩:=h;obtain⟨t,rfl⟩:=rx;obtain⟨t',rfl⟩:=ry;exact rule i j t t' s _ _ hc ⟨.int (g i j),H,I.tok _,⟨_,rfl⟩,q⟩
theorem opI0{f:ce->ce->Sem ce}{g:Int->Int->Int}
  (rule:∀ (i j:Int) (t u:Tok) (s:gV) (Q:ce->gV->Prop) (E:ce->gV->Prop),Q (.int (g i j) s.toks) { s with toks:=s.toks+1 }->aeG 0.3 X.A 1.82 Q E s) :
  OpR X f (UI λi j=>.int (g i j)):=by
 intro pins s σ H x y v u Q I rx ry h;obtain⟨i,j,rfl,rfl,q⟩:=h;obtain⟨t,rfl⟩:=rx;obtain⟨t',rfl⟩:=ry;exact rule i j t t' s _ _ ⟨.int (g i j),H,I.tok _,⟨_,rfl⟩,q⟩
theorem Vs{f:ce->ce->Sem ce}{g:Int->Int->Bool}
  (rule:∀ (i j:Int) (t u:Tok) (s:gV) (Q:ce->gV->Prop) (E:ce->gV->Prop),Q (.bool (g i j)) s->aeG 0.3 X.A 1.82 Q E s) :
  OpR X f (UI λi j=>.bl (g i j)):=by
 intro pins s σ H x y v u Q I rx ry h;obtain⟨i,j,rfl,rfl,q⟩:=h;obtain⟨t,rfl⟩:=rx;obtain⟨t',rfl⟩:=ry;exact rule i j t t' s _ _ ⟨.bl (g i j),H,I,rfl,q⟩
def CDiv(i j:Int):Prop:=0<j/\j<1073741824
def CPow(i j:Int):Prop:=0<=j/\j<=1000000/\i.natAbs<2^64
theorem ZL:OpR X 2.29 (UI λi j=>.int (i+j)):=opI0 λz z z z z z z q=>add_int q
theorem ZH:OpR X (aeF .Sub) (UI λi j=>.int (i - j)):=opI0 λz z z z z z z q=>sub_int q
theorem Vo:OpR X (aeF .FloorDiv) (rI CDiv λi j=>.int (i / j)):=opI λi j z z z z z hc q=>by
 have h1:(0:Int)<j:=hc.1;have h2:j<1073741824:=hc.2;exact floordiv_int 0.0 (by rw[Int.fdiv_eq_ediv_of_nonneg i 0.0];exact q) (.inl (PyProof.noPylong_small 0.0))
theorem ZK:OpR X (aeF .Mod) (rI (λz j=>0<j) λi j=>.int (i%j)):=opI λi j z z z z z hc q=>by
 have h1:(0:Int)<j:=hc;exact mod_int' 0.0 (by rw[Int.fmod_eq_emod_of_nonneg i 0.0];exact q)
theorem ZJ:OpR X (aeF .Pow) (rI CPow λi j=>.int (i^j.toNat)):=opI λz z z z z z z hc q=>pow_int_small hc.1 hc.2.1 hc.2.2 q
theorem unI{f:ce->Sem ce}{g:Int->Int}
  (rule:∀ (i:Int) (t:Tok) (s:gV) (Q:ce->gV->Prop) (E:ce->gV->Prop),Q (.int (g i) s.toks) { s with toks:=s.toks+1 }->aeG 0.3 X.A (f (.int i t)) Q E s) :
  UnR X f (rU λi=>.int (g i)):=by
 intro pins s σ H x v Q I rx h;obtain⟨i,rfl,q⟩:=h;obtain⟨t,rfl⟩:=rx;exact rule i t s _ _ ⟨.int (g i),H,I.tok _,⟨_,rfl⟩,q⟩
theorem YQ:UnR X (unaryOp .USub) (rU λi=>.int (-i)):=unI λz z z z z q=>neg_int q
end
section
variable{X:Cx}{a b c:tx}{ta tb tc:TE}{pos:Pos}
theorem op_lt:OpR X (ZZ .Lt) (UI λi j=>.bl (decide (i<j))):=Vs λz z z z z z z q=>lt_int q
theorem op_le:OpR X (ZZ .LtE) (UI λi j=>.bl (decide (i<=j))):=Vs λz z z z z z z q=>le_int q
theorem op_gt:OpR X (ZZ .Gt) (UI λi j=>.bl (decide (j<i))):=Vs λz z z z z z z q=>gt_int q
theorem op_ge:OpR X (ZZ .GtE) (UI λi j=>.bl (decide (j<=i))):=Vs λz z z z z z z q=>ge_int q
theorem OpR.or(h:OpR X f r)(h':OpR X f r'):OpR X f (λx y H Q=>r x y H Q\/r' x y H Q):=by
 intro pins s σ H x y v u Q I rx ry q;rcases q with q | q
 ·exact h pins s σ H x y v u Q I rx ry q
 ·exact h' pins s σ H x y v u Q I rx ry q
theorem Ve(ho:OpR X (ZZ op) r)(ha:PE X a ta)(hb:PE X b tb)(hm:behindInMarks op b=false):PE X 1.27 (tOp r ta tb):=by
 intro pins s σ H Q I h;exact wpAny_Compare1 (qbM ha hb I h λv u s2 x y H2 I2 rx ry q=>ho pins s2 σ H2 x y v u Q I2 rx ry q) hm
def XE(t:TE):TT:=λσ H Q=>t σ H λx H'=>∃ k,x=.bl k/\Q k H'
theorem UP(ho:OpR X (ZZ op) r)(ha:PE X a ta)(hb:PE X b tb)(hm:behindInMarks op b=false):PT X 1.27 (XE (tOp r ta tb)):=by
 intro pins s σ H Q I h
 refine wpAny_isTrue_Compare1 (eG 3.1 λv s1 ⟨x,H1,I1,r1,q1⟩=>eG 1.20 λu s2 ⟨y,H2,I2,r2,q2⟩=>
  eG 1.11 λc s3 ⟨z,H3,I3,r3,k,e,q3⟩=>?_) hm
 subst e;cases r3;exact abD ⟨H3,I3,q3⟩
def Il(r r':R2)(ta tb tc:TE):TE:=λσ H Q=>ta σ H λx H1=>tb σ H1 λy H2=>r x y H2 λz H3=>∃ k,z=.bl k /\
 (if k=true then tc σ H3 λw' H4=>r' y w' H4 Q else Q 1.6 H3)
theorem Qm(ho:OpR X (ZZ op) r)(ho':OpR X (ZZ op') r')(ha:PE X a ta)(hb:PE X b tb)(hc:PE X c tc)
  (hm:lastMarks [op,op'] [b,c]=false:=by with_unfolding_all rfl):PE X 1.00 (Il r r' ta tb tc):=by
 intro pins s σ H Q I h
 refine Compare_chain (eG 3.1 λv s1 ⟨x,H1,I1,r1,q1⟩=>chain_link (eG 1.20 λu s2 ⟨y,H2,I2,r2,q2⟩=>
  eG 1.11 λd s3 ⟨z,H3,I3,r3,k,e,q3⟩=>?_)) hm
 subst e;cases r3;refine abD ?_;cases k with
 | false=>exact ite_ff ⟨.bl false,H3,I3,rfl,q3⟩
 | true=>exact ite_tt (chain_last (eG (hc pins s3 σ H3 _ I3 q3) λw' s4 ⟨z',H4,I4,r4,q4⟩=>ho' pins s4 σ H4 y z' u w' Q I4 r2 r4 q4))
theorem PX(ho:OpR X (ZZ op) r)(ho':OpR X (ZZ op') r')(ha:PE X a ta)(hb:PE X b tb)(hc:PE X c tc)
  (hm:lastMarks [op,op'] [b,c]=false:=by with_unfolding_all rfl):PT X 1.00 (XE (Il r r' ta tb tc)):=by
 intro pins s σ H Q I h
 refine isTrue_chain (eG 3.1 λv s1 ⟨x,H1,I1,r1,q1⟩=>test_link (eG 1.20 λu s2 ⟨y,H2,I2,r2,q2⟩=>
  eG 1.11 λd s3 ⟨z,H3,I3,r3,k,e,q3⟩=>?_)) hm
 subst e;cases r3;refine abD ?_;cases k with
 | false=>
  obtain⟨k',e',q'⟩:=q3;cases e';exact ite_ff ⟨H3,I3,q'⟩
 | true=>
  refine ite_tt (test_last (eG (hc pins s3 σ H3 _ I3 q3) λw' s4 ⟨z',H4,I4,r4,q4⟩=>eG (ho' pins s4 σ H4 y z' u w' _ I4 r2 r4 q4) λd' s5 ⟨z2,H5,I5,r5,k2,e2,q5⟩=>?_));subst e2;cases r5;exact abD ⟨H5,I5,q5⟩
def OK(K:aeH)(x:V)(H:Hp)(k:Bool):Prop:=
 match x with
 | .non=>k=false
 | .bl b=>k=b
 | .int i=>k=(i != 0)
 | .str y=>y.length<=UJ/\k=((y.length:Int) != 0)
 | .byt y=>y.size<=UJ/\k=((y.size:Int) != 0)
 | .ref p=>(∃ xs,rZ K H p xs/\k = !xs.isEmpty)\/(∃ xs,sO K H p xs/\k = !xs.isEmpty)\/∃ kvs,H p=Y 9.0/\k = !kvs.isEmpty
 | _=>False
theorem JQ{κ:Type}{kvs:List (κ×V)}{vs:List (κ×ce)}(r:KV kvs vs):(!vs.isEmpty) = !kvs.isEmpty:=by
 cases r<;>rfl
theorem zc{xs:List V}{its:List ce}(r:Vals xs its):(!its.toArray.isEmpty) = !xs.isEmpty:=by
 cases r<;>simp
theorem vf:(UJ:Nat)<2^63:=by rw[acM];decide
theorem Cy:TruR X (λx H Q=>∃ k,OK X.K x H k/\Q k H):=by
 intro pins s σ H x v Q I rx h;obtain⟨k,e,q⟩:=h;have hl:=vf;have hs:UJ=16777216:=acM;cases x with
 | non=>
  cases rx;have e':k=false:=e;subst e';exact truthy_none ⟨H,I,q⟩
 | bl b=>
  cases rx;have e':k=b:=e;subst e';exact abD ⟨H,I,q⟩
 | int i=>
  obtain⟨t,rfl⟩:=rx;have e':k=(i != 0):=e;subst e';exact PySem.P.truthy_int ⟨H,I,q⟩
 | str y=>
  obtain⟨t,rfl⟩:=rx;obtain⟨hy,e'⟩:y.length<=UJ/\k=((y.length:Int) != 0):=e;subst e';exact PySem.P.truthy_str 0.0 ⟨H,I.tok _,q⟩
 | byt y=>
  obtain⟨t,rfl⟩:=rx;obtain⟨hy,e'⟩:y.size<=UJ/\k=((y.size:Int) != 0):=e;subst e';exact W.truthy_bytes 0.0 ⟨H,I.tok _,q⟩
 | ref p=>
  cases rx;have e':(∃ xs,rZ X.K H p xs/\k = !xs.isEmpty)\/(∃ xs,sO X.K H p xs/\k = !xs.isEmpty)\/∃ kvs,H p=Y 9.0/\k = !kvs.isEmpty:=e;rcases e' with ⟨xs,hx,e'⟩ | ⟨xs,hx,e'⟩ | ⟨kvs,hx,e'⟩
  ·subst e';obtain⟨its,r,pl,hz⟩:=I.list hx;have hlen:=r.length;exact wpAny_truthy_list pl.isList (by simp only[aak];omega) ⟨H,I.tok _,by rw[zc r];exact q⟩
  ·subst e';obtain⟨its,r,pl,hz⟩:=I.tuple hx;have hlen:=r.length;exact truthy_tuple pl (by simp only[aak];omega) ⟨H,I.tok _,by rw[zc r];exact q⟩
  ·subst e';obtain⟨hz,hS,vs,r,m⟩:kvs.length<=UJ/\(p==sysModules)=false/\∃ vs,KV kvs vs/\s.heap.DictOf 2.21 p vs:=I.hok p _ hx;have hlen:kvs.length=vs.length:=adO r;exact wpAny_truthy_dict hS m 0.0 ⟨H,I.tok _,by rw[JQ r];exact q⟩
 | _=>exact(show False from e).elim
theorem PV(ha:PE X a ta)(he:∀ whole,isTrue a X.env whole=(do let v <- whole;standAt a.pos;holding [v] (truthy v))) :
  PT X a (λσ H Q=>ta σ H λx H'=>∃ k,OK X.K x H' k/\Q k H'):=by
 intro pins s σ H Q I h;exact isTrue_plain (eG 3.1 λv s1 ⟨x,H1,I1,r1,q1⟩=>Cy pins s1 σ H1 x v Q I1 r1 q1) (he _)
theorem IS:OpR X 2.29 (λx y H Q=>∃ i j,x=.str i/\y=.str j/\i.length+j.length<=UJ/\Q (.str (i++j)) H):=by
 intro pins s σ H x y v u Q I rx ry h;obtain⟨i,j,rfl,rfl,hz,q⟩:=h;obtain⟨t,rfl⟩:=rx;obtain⟨t',rfl⟩:=ry;exact add_str (λt' tk=>⟨.str (i++j),H,I.tok _,⟨_,rfl⟩,q⟩) hz
theorem pF{x:V}(r:Vals [x] us):∃ u,us=[u]/\RelV x u:=by
 cases r with
 | cons r1 r2=>cases r2;exact⟨_,rfl,r1⟩
theorem Pb{x y:V}(r:Vals [x,y] us):∃ u w',us=[u,w']/\RelV x u/\RelV y w':=by
 cases r with
 | cons r1 r2=>
  cases r2 with
  | cons r3 r4=>cases r4;exact⟨_,_,rfl,r1,r3⟩
theorem OC(hc:X.calm=true):CallR X (.builtin "max") (λxs H Q=>∃ i j,xs=[.int i,.int j]/\Q (.int (if j>i then j else i)) H):=by
 intro pins s σ H xs us Q I r h;obtain⟨i,j,rfl,q⟩:=h;obtain⟨u,w',rfl,⟨t,rfl⟩,⟨t',rfl⟩⟩:=Pb r;refine max_two_ints 8.3 λh' tk k=>⟨_,H,I.kept k,?_,q⟩
 by_cases hj:j>i
 ·rw[aas hj,aas hj];exact⟨_,rfl⟩
 ·rw[if_neg hj,if_neg hj];exact⟨_,rfl⟩
theorem OA(hc:X.calm=true):CallR X (.builtin "min") (λxs H Q=>∃ i j,xs=[.int i,.int j]/\Q (.int (if j<i then j else i)) H):=by
 intro pins s σ H xs us Q I r h;obtain⟨i,j,rfl,q⟩:=h;obtain⟨u,w',rfl,⟨t,rfl⟩,⟨t',rfl⟩⟩:=Pb r;refine min_two_ints 8.3 λh' tk k=>⟨_,H,I.kept k,?_,q⟩
 by_cases hj:j<i
 ·rw[aas hj,aas hj];exact⟨_,rfl⟩
 ·rw[if_neg hj,if_neg hj];exact⟨_,rfl⟩
theorem OD:CallR X (.type "int") (λxs H Q=>(∃ i,xs=[.int i]/\Q (.int i) H)\/∃ k,xs=[.bl k]/\Q (.int (if k then 1 else 0)) H):=by
 intro pins s σ H xs us Q I r h;rcases h with ⟨i,rfl,q⟩ | ⟨k,rfl,q⟩
 ·obtain⟨u,rfl,t,rfl⟩:=pF r;exact call_int_int ⟨.int i,H,I,⟨_,rfl⟩,q⟩
 ·obtain⟨u,rfl,r1⟩:=pF r;cases r1;exact call_int_bool ⟨.int (if k then 1 else 0),H,I.tok _,⟨_,rfl⟩,q⟩
theorem EB:CallR X (.type "str") (λxs H Q=>∃ i,xs=[.int i]/\i.natAbs.log2<1920/\Q 1.75 H):=by
 intro pins s σ H xs us Q I r h;obtain⟨i,rfl,hz,q⟩:=h;obtain⟨u,rfl,t,rfl⟩:=pF r;exact PySem.P.str_of_int hz ⟨.str _,H,I.tok _,⟨_,rfl⟩,q⟩
end
theorem RelO.some_of(r:RelO (Y v) o):∃ u,o=Y u/\RelV v u:=by
 cases o with
 | none=>exact(show False from r).elim
 | some u=>exact⟨u,rfl,r⟩
structure Room(k:Nat)(A:RQ):Prop where
 hd:A.handled=L
 dp:A.depth+3*k+5<recursionLimit
 un:A.units+16*k+200<cLine
theorem Room.mono{j k:Nat}(r:Room k A)(h:j<=k):Room j A:=⟨r.hd,by have:=r.dp;omega,by have:=r.un;omega⟩
theorem Room.deeper{k:Nat}(r:Room (k+1) A)(env:Env):Room k (A.deeper env):=
 ⟨r.hd,by have:=r.dp;show A.depth+1+3*k+5<_;omega,by have:=r.un;show A.units+3+16*k+200<_;omega⟩
theorem Jo{A:RQ}{us:List ce}{kw:List (Str×ce)}:(A.under (.builtin "type.__call__" ⟨.ref C::us,kw⟩)).depth=A.depth+1:=by
 first | rfl | simp[Around.under,Code.weight,Code.isCreation,Code.isGuard,Code.isCaller,Code.frames,Code.isFrame,guardIds]
theorem Jn{A:RQ}{us:List ce}{kw:List (Str×ce)}:(A.under (.builtin "type.__call__" ⟨.ref C::us,kw⟩)).units=A.units+1:=by
 first | rfl | simp[Around.under,Code.cUnits,Code.frames,Code.isFrame]
theorem Room.make{k:Nat}(r:Room (k+1) A)(C:td)(us:List ce)(kw:List (Str×ce)):Room k (A.under (.builtin "type.__call__" ⟨.ref C::us,kw⟩)):=
 ⟨r.hd,by have:=r.dp;rw[Jo];omega,by have:=r.un;rw[Jn];omega⟩
theorem Room.depth{k:Nat}(r:Room k A):A.depth<recursionLimit:=by have:=r.dp;omega
theorem Room.units{k:Nat}(r:Room k A):A.units+64<cLine:=by have:=r.un;omega
def tNil:TA:=λz H Q=>Q [] H
def tCons(ta:TE)(tr:TA):TA:=λσ H Q=>ta σ H λx H1=>tr σ H1 λxs H2=>Q (x::xs) H2
section
variable{X:Cx}{e:tx}{es:List tx}{te:TE}{t:TA}{pos:Pos}
theorem Qr:PA X [] tNil:=λz z z z H Q I h=>Calls.spliced_nil ⟨[],H,I,.nil,h⟩
theorem Dc(ha:PE X e te)(hr:PA X es t)(hs:Wj (e::es) X.env=1.2::Wj es X.env:=by rfl):PA X (e::es) (tCons te t):=by
 intro pos pins s σ H Q I h;rw[hs];show aeG _ _ (spliced (1.2::backTo pos 2.1)) _ _ s;refine aeD (eG 3.1 λu s1 ⟨x,H1,I1,r1,q1⟩=>?_);exact eG (hr pos pins s1 σ H1 _ I1 q1) λus s2 ⟨xs,H2,I2,r2,q2⟩=>⟨x::xs,H2,I2,.cons r1 r2,q2⟩
def tTup(t:TA):TE:=λσ H Q=>t σ H λxs H1=>xs.length<=UJ/\∀ p,H1 p=L->Q (.ref p) (upd H1 p 5.2)
def tLst(t:TA):TE:=λσ H Q=>t σ H λxs H1=>xs.length<=UJ/\∀ p,H1 p=L->Q (.ref p) (upd H1 p 2.2)
theorem Zy{x1}(h:PA X es t):PE X (.Tuple es x1 pos) (tTup t):=by
 intro pins s σ H Q I hq;refine wpAny_Tuple_spliced (eG (h pos pins s σ H _ I hq) λus s1 ⟨xs,H1,I1,r,z,q⟩=>⟨by rw[<- r.length];exact z,?_⟩);have hf:H1 s1.heap.objs.size=L:=I1.hok.fresh (aao _);refine⟨.ref s1.heap.objs.size,upd H1 s1.heap.objs.size 5.2,I1.laid (t':=s1.toks) (λb u e=>aag _ e) (aao _) ?_,rfl,q _ hf⟩;exact⟨z,us,r,⟨_,aaz _ rfl,rfl,⟨_,rfl⟩,rfl⟩⟩
theorem Qj(h:PA X es t):PE X (.List es pos) (tLst t):=by
 intro pins s σ H Q I hq;refine wpAny_List_spliced (eG (h pos pins s σ H _ I hq) λus s1 ⟨xs,H1,I1,r,z,q⟩=>⟨by rw[<- r.length];exact z,?_⟩);have hf:H1 s1.heap.objs.size=L:=I1.hok.fresh (aao _);refine⟨.ref s1.heap.objs.size,upd H1 s1.heap.objs.size 2.2,I1.laid (t':=s1.toks) (λb u e=>aag _ e) (aao _) ?_,rfl,q _ hf⟩;exact⟨z,us,0,r,aaz _ rfl⟩
end
noncomputable abbrev Sp:=List V->Hp->VK->XK->Prop
noncomputable abbrev ON:=List Env->Hp->gV->XK->ce->gV->Prop
structure Env0(P:vx)(w:Pn)(K:aeH)(mg:Str->Option ce)(base:Ud)(A:RQ)(outer:List Env)(s:gV)(H:Hp):Prop where
 frames:A.frames=Y outer
 mod:Mod K mg base
 bs:∀ b o,base.get? b=Y o->s.heap.get? b=Y o/\H b=L
 bsz:base.objs.size<=s.heap.objs.size
 funs:s.heap.FunFrames base outer
 frf:∀ b∈BV outer,H b=L
 hok:HOk P w H s.heap
 bare:AllBare s.gens
def CE(outer:List Env)(P:vx)(w:Pn)(H:Hp)(s:gV)(Q:VK)(u:ce)(s':gV):Prop:=
 ∃ v H',s'.os=s.os/\AllBare s'.gens/\Un (BV outer) [] H H' s.heap s'.heap/\HOk P w H' s'.heap/\RelV v u/\Q v H'
def CR(CX:ON)(outer:List Env)(P:vx)(w:Pn)(H:Hp)(s:gV)(Q:VK)(E:XK)(r:Result)(s':gV):Prop:=
 match r with
 | .ok (.ret u)=>CE outer P w H s Q u s'
 | .ok _=>False
 | .error e=>CX outer H s E e s'
structure FnOk(P:vx)(w:Pn)(K:aeH)(mg:Str->Option ce)(base:Ud)(CX:ON)(k:Nat)(f:td)(fd:FuncData)(ps:List Str)(sp:Sp):Prop where
 len:∀ vs H Q E,sp vs H Q E->vs.length=ps.length
 run:∀ (A:RQ) (outer:List Env) (s:gV) (H:Hp) (args:Args) (us:List ce) (vs:List V) (Q:VK) (E:XK),Room k A->Env0 P w K mg base A outer s H->BindsTo s fd args 2.02->Vals vs us->sp vs H Q E ->
  codeAny 1.29 A (.call (.ref f) args) (CR CX outer P w H s Q E) s
theorem FnOk.mono{K:aeH}{k:Nat}(F:FnOk P w K mg base CX j f fd ps sp)(h:j<=k) :
  FnOk P w K mg base CX k f fd ps sp:=⟨F.len,λA outer s H args us vs Q E hr=>F.run A outer s H args us vs Q E (hr.mono h)⟩
theorem Env0.make{K:aeH}{s:gV}(e:Env0 P w K mg base A outer s H)(C:td)(us:List ce)(kw:List (Str×ce)) :
  Env0 P w K mg base (A.under (.builtin "type.__call__" ⟨.ref C::us,kw⟩)) outer s H:=⟨by first | exact e.frames | (simpa[Around.under,Code.envs,Code.isFrame,pushEnvs] using e.frames),e.mod,e.bs,e.bsz,e.funs,e.frf,e.hok,e.bare⟩
section
variable{X:Cx}{pins:List (td×Obj)}{σ:St}{H:Hp}{s s':gV}
theorem Inv.env0(I:Inv X pins σ H s):Env0 X.prog X.w X.K X.mg X.base X.A X.stack s H:=
 ⟨I.ok.frames,I.ok.mod,I.bs,aaF I.ok.bsz I.sz,I.stack,I.stkFree,I.hok,I.bare⟩
theorem Inv.after(I:Inv X pins σ H s)(h:CE X.stack X.prog X.w H s Q u s'):EP X pins σ Q u s':=by
 obtain⟨v,H',os,bare,un,hok,r,q⟩:=h;obtain⟨hh,g,d,t,os'⟩:=s';obtain rfl:os'=s.os:=os;exact⟨v,H',I.call (h':=hh) (g':=g) (d':=d) (t':=t) (ch:=[]) un hok bare (λb z=>absurd z 0.4),r,q⟩
end
def Be(sp:Sp)(dvs:List V)(E:XK)(t:TA):TE:=λσ H Q=>t σ H λvs H1=>sp (vs++dvs) H1 Q E
def Binds(K:aeH)(fd:FuncData)(ps:List Str)(ds:List ce):Prop:=
 ∀ (s:gV) (us:List ce),K.In s.heap->(us++ds).length=ps.length->BindsTo s fd ⟨us,[]⟩ (ps.zip (us++ds))
theorem Binds.all{K:aeH}{ps:List Str}(h:∀ us:List ce,us.length=ps.length->bindArgs fd ⟨us,[]⟩=pure 2.02):Binds K fd ps []:=λs us z hl=>by
 rw[aaJ] at hl ⊢;exact .of_eq (h us hl)
def EI(CX:ON)(X:Cx)(E:XK):Prop:=∀ (pins:List 2.4) (σ:St) (H:Hp) (s:gV) (e:ce) (s':gV),Inv X pins σ H s->CX X.stack H s E e s'->X.xe e s'
section
variable{X:Cx}{CX:ON}{k:Nat}{f C:td}{fd:FuncData}{ps:List Str}{sp:Sp}{dvs:List V}{ds:List ce}{E:XK}{x m:Str}{p pos apos:Pos}{e o:tx}{es:List tx}{ta:TE}{t:TA}
theorem IG{s:gV}(F:FnOk X.prog X.w X.K X.mg X.base CX k f fd ps sp)(hr:Room k X.A)(hb:Binds X.K fd ps ds)(hd:Vals dvs ds)(hx:EI CX X E)
  (I:Inv X pins σ H s) (r:Vals vs us) (h:sp (vs++dvs) H Q E):aeG 0.3 X.A (call (.ref f) us) 4.8 X.xe s:=by
 have r2:Vals (vs++dvs) (us++ds):=r.append hd;have hl:(us++ds).length=ps.length:=by rw[<- r2.length];exact F.len _ _ _ _ h
 refine adI (abU (F.run X.A X.stack s H ⟨us,[]⟩ (us++ds) (vs++dvs) Q E hr I.env0 (hb s us I.kIn hl) r2 h) λr s' hq=>?_);cases r with
 | error e=>exact hx pins σ H s e s' I hq
 | ok fl=>
  cases fl with
  | ret u=>exact I.after hq
  | next=>exact False.elim hq
  | brk=>exact False.elim hq
  | cont=>exact False.elim hq
theorem Vf(F:FnOk X.prog X.w X.K X.mg X.base CX k f fd ps sp)(hr:Room k X.A)(hg:Gl X x)(hm:X.mg x=Y (.ref f))(hk:W.keepIn X.K (.ref f)=true)(hb:Binds X.K fd ps ds)(hd:Vals dvs ds)(hx:EI CX X E)
  (ha:PA X (e::es) t) (hdb:(x==("__debug__":Str))=false:=by decide) (he:Wj (e::es) X.env=1.2::Wj es X.env:=by rfl) (hpl:(backTo pos 2.1).any (·.1)=false:=by rfl) :
  PE X (.Call 7.2 (e::es) [] pos) (Be sp dvs E t):=by
 intro pins s σ H Q I h;refine abO (tT I hg hm ?_ hdb);refine aef (h₀:=X.base) I.ok.mod.kin hk (eG 6.9 λus s1 ⟨vs,H1,I1,r,q⟩=>⟨I1.kIn,?_⟩) he hpl;exact IG F hr hb hd hx I1 r q
theorem Qo(F:FnOk X.prog X.w X.K X.mg X.base CX k f fd ps sp)(hr:Room k X.A)(hg:Gl X x)(hm:X.mg x=Y (.ref f))(hk:W.keepIn X.K (.ref f)=true)(hb:Binds X.K fd ps ds)(hd:Vals dvs ds)(hx:EI CX X E)
  (hdb:(x==("__debug__":Str))=false:=by decide):PE X (.Call 7.2 [] [] pos) (Be sp dvs E tNil):=by
 intro pins s σ H Q I h;refine abO (tT I hg hm ?_ hdb);exact W.callWith_K0 I.kIn hk (IG (us:=[]) F hr hb hd hx I .nil h)
end
structure aP(N P:List Str)(sc:Scope):Prop where
 kind:sc.kind=.function
 co:sc.isCoroutine=false
 gen:sc.isGenerator=false
 nd:N.Nodup
 pre:N.take P.length=P
 par:∀ x∈P,sc.names.lookup x=Y .local\/sc.names.lookup x=Y .cell
 nofree:∀ y∈sc.names,y.2≠.free
theorem Co{kindOf:Str->Option NameKind}{x:Str}:∀ {binds:List (Str×ce)} {m:Str->Option ce},(∀ v,(x,v)∉binds)->bindL kindOf binds m x=m x
 | [],_,_=>rfl
 | (n,v)::r,m,h=>by
  unfold bindL;rw[Co λw hw=>h w (aaf _ hw)];split
  ·have:x≠n:=by rintro rfl;exact h v aac
   simp[this]
  ·rfl
theorem Cq{kindOf:Str->Option NameKind}{x:Str}:∀ {binds:List (Str×ce)} {m:Str->Option ce},(∀ v,(x,v)∉binds)->bindC kindOf binds m x=m x
 | [],_,_=>rfl
 | (n,v)::r,m,h=>by
  unfold bindC;rw[Cq λw hw=>h w (aaf _ hw)];split
  ·rfl
  ·have:x≠n:=by rintro rfl;exact h v aac
   simp[this]
theorem Cp{kindOf:Str->Option NameKind}:∀ {P:List Str} {vs:List ce} {i:Nat} {m:Str->Option ce},P.Nodup->P[i]?=Y x->vs[i]?=Y v->kindOf x=Y .local ->
  bindL kindOf (P.zip vs) m x=Y v
 | [],_,_,_,_,h,_,_=>by simp at h
 | _::_,[],_,_,_,_,h,_=>by simp at h
 | p::P,w::vs,0,m,nd,h1,h2,hk=>by
  simp at h1 h2;subst h1;subst h2;show bindL kindOf ((p,w)::P.zip vs) m p=_;unfold bindL;rw[Co λv hv=>(abH.mp nd).1 (adz hv).1,aas hk];simp
 | p::P,w::vs,i+1,m,nd,h1,h2,hk=>by
  show bindL kindOf ((p,w)::P.zip vs) m x=_;unfold bindL;exact Cp (i:=i) (abH.mp nd).2 (by simpa using h1) (by simpa using h2) hk
theorem Cr{kindOf:Str->Option NameKind}:∀ {P:List Str} {vs:List ce} {i:Nat} {m:Str->Option ce},P.Nodup->P[i]?=Y x->vs[i]?=Y v->kindOf x≠Y .local ->
  bindC kindOf (P.zip vs) m x=Y v
 | [],_,_,_,_,h,_,_=>by simp at h
 | _::_,[],_,_,_,_,h,_=>by simp at h
 | p::P,w::vs,0,m,nd,h1,h2,hk=>by
  simp at h1 h2;subst h1;subst h2;show bindC kindOf ((p,w)::P.zip vs) m p=_;unfold bindC;rw[Cq λv hv=>(abH.mp nd).1 (adz hv).1,if_neg hk];simp
 | p::P,w::vs,i+1,m,nd,h1,h2,hk=>by
  show bindC kindOf ((p,w)::P.zip vs) m x=_;unfold bindC;exact Cr (i:=i) (abH.mp nd).2 (by simpa using h1) (by simpa using h2) hk
def start(N:List Str)(vs:List V):St:=vs.map Y++aeI (N.length - vs.length) L
def wX(CX:ON)(P:vx)(w:Pn)(K:aeH)(mg:Str->Option ce)(base:Ud)(N:List Str)(qual:Str)(scope:Scope)(f:td)(cd:ce)(A:RQ)(outer:List Env)(s:gV)(H:Hp)(E:XK):Cx where
 prog:=P
 w:=w
 K:=K
 mg:=mg
 base:=base
 A:=A.deeper 1.09
 N:=N
 s₀:=s
 H₀:=H
 env:=envOfC qual scope s.heap.objs.size f cd
 outer:=outer
 stack:=envOfC qual scope s.heap.objs.size f cd::outer
 ex:=[]
 calm:=true
 fn:=λz=>true
 pn:=[]
 xe:=λe s'=>aeG 1.29 (A.deeper 1.09) (leaving 1.09 e) (λz s''=>CX outer H s E e s'') (λe' s''=>CX outer H s E e' s'') s'
theorem HK{sc:Scope}(h:sc.names.lookup x=Y .cell):∃ c,(cellsFrom n sc.names []).lookup x=Y c:=by
 have q:=W.cellsFrom_some sc.names n [] (.inl h);exact abG.mp q
theorem NI{K:aeH}{A:RQ}{s:gV}{vs:List V}
  (S:aP N ps scope) (hd:A.handled=L) (e0:Env0 P w K mg base A outer s H) (hl:vs.length=ps.length) (r:Vals vs us)
  (x:InCallC s s.heap.objs.size (bindL (envOfC qual scope s.heap.objs.size f cd).kindOf 2.02 λj=>L) (cellsFrom (s.heap.objs.size+1) scope.names []) (bindC (envOfC qual scope s.heap.objs.size f cd).kindOf 2.02 λj=>L) s1) :
  Inv (wX CX P w K mg base N qual scope f cd A outer s H E) [] 2.16 H s1:=by
 have hpl:ps.length<=N.length:=by have:=congrArg List.length S.pre;rw[abB] at this;omega
 obtain⟨h1,tk,rfl,hk⟩:=x.done;have noA:∀ b:td,b∉(wX CX P w K mg base N qual scope f cd A outer s H E).ex:=λb z=>absurd (show b∈([]:List td) from z) 0.4
 refine⟨⟨e0.mod,S.kind,rfl,rfl,aao _,λy z c h1 h2=>?_,λy hy=>?_,λy c j h=>?_,λj=>hd,Around.frames_deeper e0.frames,.inr ⟨rfl,rfl⟩,λb z=>absurd z (noA b),e0.bs,e0.bsz,λb j j=>noA b,λb z=>absurd z (noA b),e0.funs,e0.frf⟩,
  rfl,e0.bare,Un.kept hk,⟨_,x.toInCall.ns,λi y v h1 h2 h3=>?_⟩,λy c h=>⟨_,x.cell y c h⟩,e0.hok.fresh (aao _),λy c h=>?_,λp hp=>absurd (show p∈([]:List 2.4) from hp) 0.4,e0.hok.kept hk,?_⟩
 ·exact name_of_addr x.apart (aby h1) (aby h2)
 ·have hy:scope.names.lookup y=Y .cell\/scope.names.lookup y=Y .free:=hy;rcases hy with hy | hy
  ·exact HK hy
  ·exact absurd rfl (S.nofree _ (aby hy))
 ·exact ado (x.above y c (aby h))
 ·have hi:i<vs.length:=by
   unfold start at h2;by_cases hi:i<vs.length
   ·exact hi
   ·rw[abo (by simpa using hi)] at h2;rw[List.getElem?_replicate] at h2;split at h2<;>cases h2
  have ha:vs[i]?=Y v:=by
   unfold start at h2;rw[aay (by simpa using hi),abi] at h2;cases e:vs[i]? with
   | none=>rw[e] at h2;cases h2
   | some a=>rw[e] at h2;cases h2;rfl
  obtain⟨u,hu,rv⟩:=r.get ha
  have hp:ps[i]?=Y y:=by
   rw[<- S.pre,adM 0.0];exact h1
  have ndP:ps.Nodup:=by rw[<- S.pre];exact S.nd.sublist (List.take_sublist _ _)
  refine⟨u,rv,?_⟩;rcases S.par y (aaA hp) with k | k
  ·exact .inl ⟨k,Cp ndP hp hu k⟩
  ·obtain⟨c,e⟩:=HK (n:=s.heap.objs.size+1) k;refine .inr ⟨.inl k,c,e,?_⟩;have q:=x.cell y c e;rw[Cr ndP hp hu (by show scope.names.lookup y≠_;rw[k];decide)] at q;exact q
 ·exact e0.hok.fresh (ado (x.above y c (aby h)))
 ·unfold start;show _=N.length;rw[aaj,aai,List.length_replicate];omega
theorem RP{K:aeH}{k:Nat}{kV oc:ce}{od:Option td}
  {osl:Array 1.04} {sp:Sp} (lk:K.lookup f=Y ⟨oc,od,.func (W.fnOf name qual params body scope dV kV doc pm an cdv ct),osl⟩) (hcd:W.codeIn K cdv qual=true) (S:aP N ps scope)
  (len:∀ vs H Q E,sp vs H Q E->vs.length=ps.length)
  (hbody:∀ (A:RQ) (outer:List Env) (s:gV) (H:Hp) (vs:List V) (Q:VK) (E:XK),Room k (A.deeper (envOfC qual scope s.heap.objs.size f cdv))->sp vs H Q E ->
   ∃ t,PSs 7.9 body t/\t { nx:=λz H'=>Q .non H',rt:=Q } 2.16 H) :
  FnOk P w K mg base CX (k+1) f (W.fnOf name qual params body scope dV kV doc pm an cdv ct) ps sp:=by
 refine⟨len,λA outer s H args us vs Q E hr e0 hb r hsp=>?_⟩;have hl:=len _ _ _ _ hsp;have KX:K.In s.heap:=e0.mod.kin.keeps λb o e=>(e0.bs b o e).1;have lim:s.heap.NoLimit:=e0.mod.nolimit.keeps λb o e=>(e0.bs b o e).1
 have hkind:∀ y∈ps.zip us,scope.names.lookup y.1=Y .local\/(scope.names.lookup y.1=Y .cell/\((cellsFrom (s.heap.objs.size+1) scope.names []).lookup y.1).isSome=true):=λ⟨n,v⟩ hy=>by
  rcases S.par n (adz hy).1 with q | q
  ·exact .inl q
  ·exact .inr ⟨q,W.cellsFrom_some _ _ _ (.inl q)⟩
 refine codeAny_call_function hr.depth (KX _ _ lk) rfl S.co S.gen rfl (W.codeRec_of KX hcd) (hb _ _ _ _ ?_);refine wpAny_newFunctionEnv_cells S.kind hkind λenv he s1 x=>?_;subst he;refine⟨lim.keeps x.toInCall.keep,codeAny_func ?_⟩;obtain⟨t,ht,hq⟩:=hbody A outer s H vs Q E (hr.deeper _) hsp;have I:Inv 7.9 [] 2.16 H s1:=NI S hr.hd e0 hl r x;refine aaK (ht [] s1 2.16 H _ I hq) (λfl s' hs=>?_) λe s' hs=>hs
 have fin:∀ {σ':St} {H':Hp} {v:V} {u:ce},Inv 7.9 [] σ' H' s'->RelV v u->Q v H'->CE outer P w H s Q u s':=
  λ{σ' H' v u} J rv q=>⟨v,H',J.os,J.bare,J.base,J.hok,rv,q⟩
 cases fl with
 | ret u=>
  obtain⟨v,σ',H',J,rv,q⟩:=hs;exact fin J rv q
 | next=>
  obtain⟨σ',H',J,q⟩:=hs;exact fin (v:=V.non) (u:=Value.none) J rfl q
 | brk=>
  obtain⟨z,z,z,q⟩:=hs;exact False.elim q
 | cont=>
  obtain⟨z,z,z,q⟩:=hs;exact False.elim q
section
variable{X:Cx}{x:Str}{p pos:Pos}{e:tx}{es:List tx}{t:TA}{id T:String}{r:List V->Hp->VK->Prop}
def tCB(r:List V->Hp->VK->Prop)(t:TA):TE:=λσ H Q=>t σ H λvs H1=>r vs H1 Q
theorem Fz(hc:CallR X 6.1 r)(hg:Gl X x)(hm:X.mg x=L)(hv:bootBuiltins x=Y 6.1)(ha:PA X (e::es) t)(hn:x≠"__name__":=by decide)(hdb:(x==("__debug__":Str))=false:=by decide)
  (he:Wj (e::es) X.env=1.2::Wj es X.env:=by rfl) (hpl:(backTo pos 2.1).any (·.1)=false:=by rfl):PE X (.Call 7.2 (e::es) [] pos) (tCB r t):=by
 intro pins s σ H Q I h;refine abO (sy I hg hm hv ?_ hn hdb);exact PyProof.Rows.callWith_builtin1 (eG 6.9 λus s1 ⟨vs,H1,I1,r1,q1⟩=>hc pins s1 σ H1 vs us Q I1 r1 q1) he hpl
theorem MV(hc:CallR X 1.95 r)(hg:Gl X x)(hm:X.mg x=L)(hv:bootBuiltins x=Y 1.95)(ha:PA X (e::es) t)(hn:x≠"__name__":=by decide)(hdb:(x==("__debug__":Str))=false:=by decide)
  (he:Wj (e::es) X.env=1.2::Wj es X.env:=by rfl) (hpl:(backTo pos 2.1).any (·.1)=false:=by rfl):PE X (.Call 7.2 (e::es) [] pos) (tCB r t):=by
 intro pins s σ H Q I h;refine abO (sy I hg hm hv ?_ hn hdb);exact abz (eG 6.9 λus s1 ⟨vs,H1,I1,r1,q1⟩=>hc pins s1 σ H1 vs us Q I1 r1 q1) he hpl
end
end L2
namespace HT
section
variable{prog:vx}{w:Pn}{A:RQ}{E:ce->gV->Prop}{s:gV}
theorem Xk{vs ws:List ce}{Q:ce->gV->Prop}(ht:IsTup s.heap t vs.toArray)(hb:IsTup s.heap b ws.toArray)(hv:vs≠[])
  (h1:ws=[]->Q (.ref t) s) (h2:ws≠[]->Q 8.1 { s with heap:=s.heap.push { cls:=.type "tuple",data:=.seq (vs++ws).toArray } })
  (hsz:vs.length+ws.length<=UJ):aeG 1.4 A (aeF .Add (.ref t) (.ref b)) Q E s:=by
 obtain⟨⟨cls,dd,data,sl⟩,ho,hc,n,hd⟩:=id ht;obtain⟨⟨cls2,dd2,data2,sl2⟩,ho2,hc2,n2,hd2⟩:=id hb;simp only at hc hd hc2 hd2;subst hc hd hc2 hd2;have e:vs.toArray++ws.toArray=(vs++ws).toArray:=by simp
 by_cases hw:ws=[]
 ·exact aed ⟨_,ho,rfl⟩ ⟨_,ho2,rfl⟩ adq adN ads adm (adf _ _)
   (tuple_addW1 t b vs.toArray ws.toArray n n2 dd dd2 sl sl2 (by simpa using hv) (by simp[hw])) ⟨ho,ho2,h1 hw⟩
 ·refine aed ⟨_,ho,rfl⟩ ⟨_,ho2,rfl⟩ adq adN ads adm (adf _ _)
   (tuple_addW2 t b vs.toArray ws.toArray n n2 dd dd2 sl sl2 (by simpa using hv) (by simpa using hw) (by rw[aak,aak];exact hsz)) ⟨ho,ho2,?_⟩
  rw[e];exact h2 hw
def gX(n d:Nat):Option Int->Nat
 | none=>d
 | some v=>if v<0 then(v+(n:Int)).toNat else min v.toNat n
theorem Zj(n d:Nat)(hd:d<=n)(o:Option Int):gX n d o<=n:=by
 cases o with
 | none=>exact hd
 | some v=>
  show(if v<0 then(v+(n:Int)).toNat else min v.toNat n)<=n;by_cases hv:v<0
  ·rw[aas hv];omega
  ·rw[if_neg hv];exact Nat.min_le_right _ _
theorem Me(v:Int)(n d:Nat):(if v<0 then max (v+(n:Int)) 0 else min v (n:Int))=((gX n d (Y v):Nat):Int):=by
 show(if v<0 then max (v+(n:Int)) 0 else min v (n:Int))=(((if v<0 then(v+(n:Int)).toNat else min v.toNat n):Nat):Int);by_cases hv:v<0
 ·simp only[aas hv];omega
 ·simp only[if_neg hv];omega
theorem KF(lo hi:Option Int)(n:Nat):Builtin.Slice.sliceAdjust lo hi 1 (n:Int)=(1.52,((gX n n hi:Nat):Int)):=by
 have h1:¬ ((1:Int)<0):=by omega
 unfold Builtin.Slice.sliceAdjust;simp only[h1,abP];refine Prod.ext ?_ ?_
 ·cases lo with
  | none=>rfl
  | some v=>exact Me v n 0
 ·cases hi with
  | none=>rfl
  | some v=>exact Me v n n
theorem IQ(i j:Nat):Builtin.Slice.slicePlaces (i:Int) (j:Int) 1=j - i:=by
 unfold Builtin.Slice.slicePlaces;have h1:(1:Int)>0:=by omega
 simp only[h1,acu,Int.ediv_one];split<;>omega
theorem xR{Q:Option Int->gV->Prop}(p:IsPart v o)(h:Q o s):aeG 1.4 A (Builtin.Slice.slicePartIndex v) Q E s:=by
 cases p with
 | none=>exact slicePart_none h
 | int i t=>exact slicePart_int h
theorem nC{lo:Option Int}{n:Nat}{Q:Int×Int×Nat->gV->Prop}(hs:s.heap.IsSliceOf sl vl vu .none)(pl:IsPart vl lo)(pu:IsPart vu hi)
  (h:Q (1.52,1,gX n n hi - gX n 0 lo) s):aeG 1.4 A (Builtin.Slice.sliceApplied (.ref sl) (pure (n:Int))) Q E s:=by
 obtain⟨os,hos,hcs,hds⟩:=id hs;unfold Builtin.Slice.sliceApplied Builtin.Slice.sliceFields;refine aab (aab (abx hos hds (x:=vl) rfl (aab (abx hos hds (x:=vu) rfl (aab (abx hos hds (x:=.none) rfl (aat ?_)))))));refine aab (slicePart_none ?_);show aeG _ _ (if ((1:Int)==0)=true then _ else _) _ _ s;rw[if_neg 0.1];refine aab (xR pl (aab (xR pu (aab (aat ?_)))));show aeG _ _ (match Builtin.Slice.sliceAdjust lo hi 1 (n:Int) with | (lo,hi)=>pure (lo,(1:Int),Builtin.Slice.slicePlaces lo hi 1)) _ _ s;rw[KF lo hi n];show aeG _ _ (pure (1.52,(1:Int),Builtin.Slice.slicePlaces 1.52 ((gX n n hi:Nat):Int) 1)) _ _ s;rw[IQ];exact aat h
theorem Qf(xs:Array ce)(i k:Nat):((List.range k).filterMap λ(m:Nat)=>xs[((i:Int)+(m:Int)*1).toNat]?).toArray=((xs.toList.drop i).take k).toArray:=by
 have e:(λ(m:Nat)=>xs[((i:Int)+(m:Int)*1).toNat]?)=λm=>xs[i+m]?:=by
  funext m;have:((i:Int)+(m:Int)*1).toNat=i+m:=by omega
  rw[this]
 rw[e];have:=pick_run xs i k;rw[List.filterMap_map] at this;have e2:((λx=>xs[x]?) ∘ λx=>i+x)=λm=>xs[i+m]?:=rfl;rw[e2] at this;rw[this]
theorem ua{lo:Option Int}{Q:ce->gV->Prop}(ht:IsTup s.heap t items)(hs:s.heap.IsSliceOf sl vl vu .none)(pl:IsPart vl lo)(pu:IsPart vu hi)
  (hw:¬ (gX items.size 0 lo=0/\gX items.size items.size hi=items.size))
  (h:Q 8.1 { s with heap:=s.heap.push { cls:=.type "tuple",data:=.seq ((items.toList.drop 2.35).take (gX items.size items.size hi - gX items.size 0 lo)).toArray } })
  (hsz:items.size<=UJ):aeG 1.4 A (getItem (.ref t) (.ref sl)) Q E s:=by
 have htake:sizeOk (.seq ((items.toList.drop 2.35).take (gX items.size items.size hi - gX items.size 0 lo)).toArray):=by
  show((items.toList.drop 2.35).take (gX items.size items.size hi - gX items.size 0 lo)).toArray.size<=UJ;rw[aak,abB,acw,acF];omega
 have hj:gX items.size items.size hi<=items.size:=Zj _ _ (aao _) hi;obtain⟨os,hos,hcs,hds⟩:=id hs;have hTs:s.TypeIs (.ref sl) "slice":=⟨os,hos,hcs⟩
 unfold getItem
 try with_reducible refine abd ?_
 first | refine aab (aat ?_) | skip
 refine aab (wpAny_sequenceKey ht.typeIs 0.1 ?_)
 refine aab (ack (name:=Str.ofString "__getitem__") ht.typeIs abF
  (acP abF ht.typeIs aeo ?_ (aeu _ _)))
 show aeG _ _ (Builtin.Tuple.tupleItemsOf (.ref t) >>= _) _ _ s;refine aab (tupleItemsOf_ ht ?_);refine aab (aea hTs ?_);rw[aas 0.1];refine aab (nC hs pl pu ?_)
 have hno:¬ ((7.6==0&&(1:Int)==1&&(gX items.size items.size hi - gX items.size 0 lo)==items.size)=true):=by
  intro q;rw[aad,aad] at q;have q1:7.6=0:=eq_of_beq q.1.1;have q2:gX items.size items.size hi - gX items.size 0 lo=items.size:=eq_of_beq q.2;exact hw ⟨by omega,by omega⟩
 show aeG _ _ (if (7.6==0&&(1:Int)==1&&(gX items.size items.size hi - gX items.size 0 lo)==items.size)=true then _ else _) _ _ s;rw[if_neg hno,Qf]
 first
  | exact aab (m:=Builtin.Tuple.tupleExact _) (abf (aat ⟨_,rfl,aat h⟩) htake)
  | exact aab (m:=Builtin.Tuple.tupleExact _) (abf (aab 1.54) htake)
  | exact aab (aab (m:=Builtin.Tuple.tupleExact _) (abf 1.54 htake))
  | exact aab (aab (m:=Builtin.Tuple.tupleExact _) (abf (aat ⟨_,rfl,aat h⟩) htake))
end
end HT
namespace L2
noncomputable abbrev TO:=St->Hp->(Option Int->Hp->Prop)->Prop
def PO(X:Cx)(e:Option tx)(t:TO):Prop:=
 ∀ (pins:List 2.4) (s:gV) (σ:St) (H:Hp) (Q:Option Int->Hp->Prop),Inv X pins σ H s->t σ H Q ->
  aeG 0.3 X.A (evalPart e X.env) (λu s'=>∃ o H',Inv X pins σ H' s'/\IsPart u o/\Q o H') X.xe s
def Uv:TO:=λz H Q=>Q L H
def tPart(t:TE):TO:=λσ H Q=>t σ H λx H1=>∃ i,x=.int i/\Q (Y i) H1
section
variable{X:Cx}{e:tx}{te:TE}{lo hi:Option tx}{tl th:TO}{pos p2:Pos}
theorem UX:PO X L Uv:=by
 intro pins s σ H Q I h;rw[evalPart_none];exact aat ⟨L,H,I,.none,h⟩
theorem UW(h:PE X e te):PO X (Y e) (tPart te):=by
 intro pins s σ H Q I hw;rw[evalPart_some];refine eG (h pins s σ H _ I hw) λu s1 ⟨x,H1,I1,r1,q1⟩=>?_;obtain⟨i,rfl,q⟩:=q1;obtain⟨t,rfl⟩:=r1;exact⟨Y i,H1,I1,.int i t,q⟩
def SlR(X:Cx)(r:V->Option Int->Option Int->Hp->VK->Prop):Prop:=
 ∀ (pins:List 2.4) (s:gV) (σ:St) (H:Hp) (x:V) (v vl vu:ce) (lo hi:Option Int) (sl:td) (Q:VK),Inv X pins σ H s->RelV x v->s.heap.IsSliceOf sl vl vu .none->IsPart vl lo->IsPart vu hi->r x lo hi H Q ->
  ∃ T id,typeLookup 1.95 "__getitem__" = pure (Y 6.1)/\s.TypeIs v T/\aeG 0.3 X.A (getItem v (.ref sl)) 4.8 X.xe s
theorem SlR.or(h:SlR X r)(h':SlR X r'):SlR X (λx lo hi H Q=>r x lo hi H Q\/r' x lo hi H Q):=by
 intro pins s σ H x v vl vu lo hi sl Q I rx hs pl pu q;rcases q with q | q
 ·exact h pins s σ H x v vl vu lo hi sl Q I rx hs pl pu q
 ·exact h' pins s σ H x v vl vu lo hi sl Q I rx hs pl pu q
def tSl(r:V->Option Int->Option Int->Hp->VK->Prop)(te:TE)(tl th:TO):TE:=λσ H Q=>te σ H λx H1=>tl σ H1 λl H2=>th σ H2 λu H3=>r x l u H3 Q
theorem Qi(hr:SlR X r)(he:PE X e te)(hl:PO X lo tl)(hu:PO X hi th):PE X (.Subscript e 2.54 pos) (tSl r te tl th):=by
 intro pins s σ H Q I h;refine Subscript_ (eG 7.1 λv s1 ⟨x,H1,I1,r1,q1⟩=>?_);refine wpAny_Slice (eG (hl pins s1 σ H1 _ I1 q1) λvl s2 ⟨l,H2,I2,pl,q2⟩=>eG (hu pins s2 σ H2 _ I2 q2) λvu s3 ⟨u,H3,I3,pu,q3⟩=>?_);rw[evalPart_none];refine aat ?_;have I4:Inv X pins σ H3 { s3 with heap:=s3.heap.push { cls:=.type "slice",data:=.fields #[vl,vu,.none] } }:=I3.kept (t':=s3.toks) λb ob q=>aag _ q;obtain⟨T,id,hT,ht,hg⟩:=hr pins { s3 with heap:=s3.heap.push { cls:=.type "slice",data:=.fields #[vl,vu,.none] } } σ H3 x v vl vu l u s3.heap.objs.size Q I4 r1 (Heap.IsSliceOf.new ..) pl pu q3;show aeG 0.3 X.A (subscriptTail e 2.54 v (.ref s3.heap.objs.size)) 4.8 X.xe { s3 with heap:=s3.heap.push { cls:=.type "slice",data:=.fields #[vl,vu,.none] } };exact tail_any (ops:=[.ref s3.heap.objs.size,v]) ht hT hg (by with_unfolding_all rfl)
def HJ(xs:List V)(lo hi:Option Int):List V:=(xs.drop 1.42).take (HT.gX xs.length xs.length hi - HT.gX xs.length 0 lo)
theorem wv(xs:List V)(lo hi:Option Int):(HJ xs lo hi).length<=xs.length:=by
 unfold HJ;rw[abB,acw];omega
def rSlT(K:aeH):V->Option Int->Option Int->Hp->VK->Prop:=λx lo hi H Q=>∃ a xs,x=.ref a/\sO K H a xs /\
 ¬ (HT.gX xs.length 0 lo=0/\HT.gX xs.length xs.length hi=xs.length)/\∀ p,H p=L->Q (.ref p) (upd H p (.tup (HJ xs lo hi)))
theorem Ze:SlR X (rSlT X.K):=by
 intro pins s σ H x v vl vu lo hi sl Q I rx hs pl pu h;obtain⟨a,xs,rfl,hx,hw,q⟩:=h;cases rx;obtain⟨its,r,ht,hz⟩:=I.tuple hx;have hlen:its.toArray.size=xs.length:=by rw[aak];exact r.length.symm
 refine⟨"tuple",_,PyProof.Rows.slot_tuple_getitem.lookup,ht.typeIs,?_⟩;refine HT.ua ht hs pl pu (by rw[hlen];exact hw) ?_ (by rw[hlen];exact hz);rw[hlen];refine⟨.ref s.heap.objs.size,_,I.laid (t':=s.toks) (o:=.tup (HJ xs lo hi)) (λb ob q=>aag _ q) (aao _) ?_,rfl,q _ 1.15⟩;exact⟨aaF (wv xs lo hi) hz,_,(r.drop 1.42).take (HT.gX xs.length xs.length hi - HT.gX xs.length 0 lo),IsTupN.new _ _⟩
def rCatT(K:aeH):R2:=λx y H Q=>∃ a b xs ys,x=.ref a/\y=.ref b/\sO K H a xs/\sO K H b ys/\xs≠[]/\xs.length+ys.length<=UJ /\
 (ys=[]->Q (.ref a) H)/\(ys≠[]->∀ p,H p=L->Q (.ref p) (upd H p (.tup (xs++ys))))
theorem Vals.nil_iff(r:Vals xs us):us=[]↔xs=[]:=by
 cases r with
 | nil=>simp
 | cons _ _=>simp
theorem Vp:OpR X 2.29 (rCatT X.K):=by
 intro pins s σ H x y v u Q I rx ry h;obtain⟨a,b,xs,ys,rfl,rfl,ha,hb,hx,hz,q1,q2⟩:=h;cases rx;cases ry;obtain⟨its,r1,p1,j⟩:=I.tuple ha;obtain⟨its2,r2,p2,j⟩:=I.tuple hb;refine HT.Xk p1 p2 (λz=>hx (r1.nil_iff.mp z)) (λz=>⟨.ref a,H,I,rfl,q1 (r2.nil_iff.mp z)⟩) (λz=>?_) (by rw[<- r1.length,<- r2.length];exact hz);refine⟨.ref s.heap.objs.size,_,I.laid (t':=s.toks) (o:=.tup (xs++ys)) (λb ob q=>aag _ q) (aao _) ?_,rfl,q2 (λw=>z (r2.nil_iff.mpr w)) _ 1.15⟩;exact⟨by rw[aaj];exact hz,_,r1.append r2,IsTupN.new _ _⟩
end
def JJ(n:Nat)(i:Int):Option Nat:=if 0<=i then(if i<n then Y i.toNat else L) else if -(n:Int)<=i then Y (i+n).toNat else L
def qD{α:Type}(xs:List α)(i:Int):Option α:=(JJ xs.length i).bind λj=>xs[j]?
theorem LD(h:JJ n i=Y j):seqIndex? i n=Y j/\j<n/\-(n:Int)<=i/\i<n:=by
 unfold JJ at h;by_cases h0:0<=i
 ·rw[aas h0] at h;by_cases h1:i<n
  ·rw[aas h1] at h;have e:i.toNat=j:=aaB h;exact⟨by rw[aen h0 h1,e],by omega,by omega,h1⟩
  ·rw[if_neg h1] at h;cases h
 ·rw[if_neg h0] at h;by_cases h1:-(n:Int)<=i
  ·rw[aas h1] at h;have e:(i+n).toNat=j:=aaB h;exact⟨by rw[aec 0.0 h1,e],by omega,h1,by omega⟩
  ·rw[if_neg h1] at h;cases h
theorem Mh{α:Type}{xs:List α}{i:Int}{v:α}(h:qD xs i=Y v):∃ j,seqIndex? i xs.length=Y j/\xs[j]?=Y v/\j<xs.length/\-(xs.length:Int)<=i/\i<xs.length:=by
 unfold qD at h;cases e:JJ xs.length i with
 | none=>rw[e] at h;cases h
 | some j=>
  rw[e] at h;obtain⟨h1,h2,h3,h4⟩:=LD e;exact⟨j,h1,h,h2,h3,h4⟩
def rp(b:tx):Prop:=∀ o i,subscripted b false o i=operate [o,i] (getItem o i)
def IxR(X:Cx)(r:R2):Prop:=
 ∀ (value slice:tx) (pins:List 2.4) (s:gV) (σ:St) (H:Hp) (x y:V) (v u:ce) (Q:VK),Inv X pins σ H s->RelV x v->RelV y u->r x y H Q ->
  subscripted slice false v u=operate [v,u] (getItem v u)->aeG 0.3 X.A (subscriptTail value slice v u) 4.8 X.xe s
def MtR(X:Cx)(id:String)(r:V->List V->Hp->VK->Prop):Prop:=
 ∀ (pins:List 2.4) (s:gV) (σ:St) (H:Hp) (x:V) (xs:List V) (v:ce) (us:List ce) (Q:VK),Inv X pins σ H s->RelV x v->Vals xs us->r x xs H Q ->
  aeG 0.3 X.A (call 6.1 (v::us)) 4.8 X.xe s
section
variable{X:Cx}{a b:tx}{ta tb:TE}{pos:Pos}
theorem IxR.or(h:IxR X r)(h':IxR X r'):IxR X (λx y H Q=>r x y H Q\/r' x y H Q):=by
 intro value slice pins s σ H x y v u Q I rx ry q hs;rcases q with q | q
 ·exact h value slice pins s σ H x y v u Q I rx ry q hs
 ·exact h' value slice pins s σ H x y v u Q I rx ry q hs
theorem Qk(hr:IxR X r)(ha:PE X a ta)(hb:PE X b tb)(hs:rp b):PE X (.Subscript a b pos) (tOp r ta tb):=by
 intro pins s σ H Q I h;exact Subscript_ (qbM ha hb I h λv u s2 x y H2 I2 rx ry q=>hr a b pins s2 σ H2 x y v u Q I2 rx ry q (hs _ _))
def rIxL(K:aeH):R2:=λx y H Q=>∃ p xs i v,x=.ref p/\y=.int i/\rZ K H p xs/\qD xs i=Y v/\Q v H
def rIxT(K:aeH):R2:=λx y H Q=>∃ p xs i v,x=.ref p/\y=.int i/\sO K H p xs/\qD xs i=Y v/\Q v H
theorem ix_list:IxR X (rIxL X.K):=by
 intro value slice pins s σ H x y v u Q I rx ry h hs;obtain⟨p,xs,i,z,rfl,rfl,hq,he,q⟩:=h;cases rx;obtain⟨t,rfl⟩:=ry;obtain⟨its,r,pl,hz⟩:=I.list hq;obtain⟨j,h1,h2,h3,h4,h5⟩:=Mh he;obtain⟨w,ew,rw'⟩:=r.get h2;have hl:=r.length;have hn:=vf;have fin:EP X pins σ Q w s:=⟨z,H,I,rw',q⟩
 by_cases h0:0<=i
 ·have hj:i.toNat=j:=by
   rw[aen h0 h5] at h1;exact aaB h1
  exact item_listR pl.isList h0 0.0 (by rw[hj];simpa using ew) fin hs
 ·have hj:(i+(its.toArray.size:Int)).toNat=j:=by
   rw[aec 0.0 h4] at h1;rw[aak,<- hl];exact aaB h1
  exact adV (x:=w) pl.isList.typeIs slot_list_getitem.lookup
   (wpAny_getItem_list_neg (Q:=λr s'=>r=w/\EP X pins σ Q r s') pl.isList 0.0 (by rw[aak]<;>omega) 0.0 (by rw[hj];simpa using ew) ⟨rfl,fin⟩) hs
theorem qaI:IxR X (rIxT X.K):=by
 intro value slice pins s σ H x y v u Q I rx ry h hs;obtain⟨p,xs,i,z,rfl,rfl,hq,he,q⟩:=h;cases rx;obtain⟨t,rfl⟩:=ry;obtain⟨its,r,pl,hz⟩:=I.tuple hq;obtain⟨j,h1,h2,h3,h4,h5⟩:=Mh he;obtain⟨w,ew,rw'⟩:=r.get h2;have hl:=r.length;have hn:=vf;have fin:EP X pins σ Q w s:=⟨z,H,I,rw',q⟩
 exact adV (x:=w) pl.typeIs slot_tuple_getitem.lookup
  (getItem_tuple (j:=j) (Q:=λr s'=>r=w/\EP X pins σ Q r s') pl 0.0 0.0 (by rw[aak,<- hl];exact h1) (by simpa using ew) ⟨rfl,fin⟩) hs
theorem Jm(its:List ce)(n j:Nat)(u:ce):Obj.mapSeq (·.setIfInBounds j u) { cls:=.type "list",data:=.seq its.toArray n } = { cls:=.type "list",data:=.seq (its.set j u).toArray n }:=by
 simp[Obj.mapSeq]
theorem Inv.lst{s:gV}(I:Inv X pins σ H s)(h:H p=Y 2.2) :
  ∃ (its:List ce) (n:Nat),Vals xs its/\s.heap.get? p=Y { cls:=.type "list",data:=.seq its.toArray n }/\xs.length<=UJ:=by
 obtain⟨z,its,n,r,e⟩:=I.hok p _ h;exact⟨its,n,r,e,z⟩
theorem Inv.lstUpd{s:gV}{its its':List ce}{f:Obj->Obj}(I:Inv X pins σ H s)(h:H p=Y 2.2)
  (ho:s.heap.get? p=Y { cls:=.type "list",data:=.seq its.toArray n }) (hf:f { cls:=.type "list",data:=.seq its.toArray n } = { cls:=.type "list",data:=.seq its'.toArray n' }) (r:Vals ys its') (hz:ys.length<=UJ) (t:Nat) :
  Inv X pins σ (upd H p 2.23) { s with heap:=s.heap.update p f,toks:=t }:=by
 have e:(s.heap.update p f).get? p=Y { cls:=.type "list",data:=.seq its'.toArray n' }:=by
  rw[aba f ho (by rw[hf]<;>rfl),hf]
 refine I.write (x:=p) (e:=p) (by rw[h];trivial) 4.5 (λb u hb q=>(aaw _ _ (Ne.symm hb)).trans q) ⟨_,e⟩ ?_;exact⟨hz,its',n',r,e⟩
def rSetL:V->V->V->Hp->(Hp->Prop)->Prop:=λo i v H Q=>∃ p xs k j,o=.ref p/\i=.int k/\H p=Y 2.2/\JJ xs.length k=Y j/\Q (upd H p (.lst (xs.set j v)))
theorem Pz:PSet X rSetL:=by
 intro pins s σ H o i v ov iv u Q I ro ri rv h;obtain⟨p,xs,k,j,rfl,rfl,hp,hj,q⟩:=h;cases ro;obtain⟨t,rfl⟩:=ri;obtain⟨its,n,r,ho,hz⟩:=I.lst hp;obtain⟨h1,h2,h3,h4⟩:=LD hj;have hl:=r.length;have hn:=vf
 have I':Inv X pins σ (upd H p (.lst (xs.set j v))) { s with heap:=s.heap.update p (Obj.mapSeq (·.setIfInBounds j u)) }:=
  I.lstUpd hp ho (Jm its n j u) (r.set rv j) (by rw[acT];exact hz) s.toks
 by_cases h0:0<=k
 ·have hk:k.toNat=j:=by
   rw[aen h0 h4] at h1;exact aaB h1
  exact W.ki_setAt ho h0 0.0 (by rw[aak,<- hl];exact h4) (by rw[hk];exact⟨_,I',q⟩)
 ·have hk:(k+(its.toArray.size:Int)).toNat=j:=by
   rw[aec 0.0 h3] at h1;rw[aak,<- hl];exact aaB h1
  exact W.ki_setBack ho 0.0 (by rw[aak,<- hl];exact h3) 0.0 (by rw[hk];exact⟨_,I',q⟩)
theorem CB(lo hi:Option Int)(n:Nat):(sliceBounds lo hi L n).1=((HT.gX n 0 lo:Nat):Int)/\(sliceBounds lo hi L n).2.1=((HT.gX n n hi:Nat):Int)/\(sliceBounds lo hi L n).2.2=1:=by
 refine⟨?_,?_,rfl⟩
 ·cases lo with
  | none=>simp[sliceBounds,HT.gX]
  | some i=>
   simp only[sliceBounds,HT.gX,Option.getD_none,show(1:Int)>0 by decide,acu];by_cases h:i<0
   ·simp only[h,acu]<;>omega
   ·simp only[h,abP]<;>omega
 ·cases hi with
  | none=>simp[sliceBounds,HT.gX]
  | some i=>
   simp only[sliceBounds,HT.gX,Option.getD_none,show(1:Int)>0 by decide,acu];by_cases h:i<0
   ·simp only[h,acu]<;>omega
   ·simp only[h,abP]<;>omega
theorem zT(its:List ce)(lo hi:Option Int):slicePick its.toArray lo hi L=((its.drop (HT.gX its.length 0 lo)).take (HT.gX its.length its.length hi - HT.gX its.length 0 lo)).toArray:=by
 obtain⟨h1,h2,h3⟩:=CB lo hi its.toArray.size;unfold slicePick;rw[h1,h2,h3];simp only[sliceRange_one,pick_run,aak]<;>rfl
def rSlL(K:aeH):V->Option Int->Option Int->Hp->VK->Prop:=λx lo hi H Q=>∃ a xs,x=.ref a/\rZ K H a xs/\∀ p,H p=L->Q (.ref p) (upd H p (.lst (HJ xs lo hi)))
theorem UC:SlR X (rSlL X.K):=by
 intro pins s σ H x v vl vu lo hi sl Q I rx hs pl pu h;obtain⟨a,xs,rfl,hx,q⟩:=h;cases rx;obtain⟨its,r,ht,hz⟩:=I.list hx;have hlen:=r.length;refine⟨"list",_,slot_list_getitem.lookup,ht.isList.typeIs,?_⟩;refine wpAny_getItem_list_slice ht.isList hs pl pu .none 0.4 ?_ (by rw[aak]<;>omega);rw[zT,<- hlen];refine⟨.ref s.heap.objs.size,_,I.laid (t':=s.toks) (o:=.lst (HJ xs lo hi)) (λb ob q=>aag _ q) (aao _) ?_,rfl,q _ 1.15⟩;exact⟨aaF (wv xs lo hi) hz,_,0,(r.drop 1.42).take (HT.gX xs.length xs.length hi - HT.gX xs.length 0 lo),aaz _ rfl⟩
theorem call_len_seq:CallR X (.builtin "len") (λxs H Q=>∃ p ys,xs=[.ref p]/\(rZ X.K H p ys\/sO X.K H p ys)/\Q (.int ys.length) H):=by
 intro pins s σ H xs us Q I r h;obtain⟨p,ys,rfl,hq,q⟩:=h;obtain⟨u,rfl,rx⟩:=pF r;cases rx;have hn:=vf;rcases hq with hq | hq
 ·obtain⟨its,r',pl,hz⟩:=I.list hq;have hlen:=r'.length;exact Calls.call_len_list pl.isList (by simp only[aak]<;>omega) ⟨.int ys.length,H,I.tok _,⟨s.toks+1,by rw[aak,hlen]⟩,q⟩
 ·obtain⟨its,r',pl,hz⟩:=I.tuple hq;have hlen:=r'.length;exact len_tuple pl (by simp only[aak]<;>omega) ⟨.int ys.length,H,I.tok _,⟨s.toks+1,by rw[aak,hlen]⟩,q⟩
theorem ED:CallR X (.builtin "len") (λxs H Q=>∃ z,xs=[.str z]/\z.length<=UJ/\Q (.int z.length) H):=by
 intro pins s σ H xs us Q I r h;obtain⟨z,rfl,hz,q⟩:=h;obtain⟨u,rfl,t,rfl⟩:=pF r;have hn:=vf;exact len_str 0.0 ⟨.int z.length,H,I.tok _,⟨_,rfl⟩,q⟩
theorem CallR.or(h:CallR X f r)(h':CallR X f r'):CallR X f (λxs H Q=>r xs H Q\/r' xs H Q):=by
 intro pins s σ H xs us Q I rs q;rcases q with q | q
 ·exact h pins s σ H xs us Q I rs q
 ·exact h' pins s σ H xs us Q I rs q
theorem EC:CallR X (.type "list") (λxs H Q=>∃ p ys,xs=[.ref p]/\(rZ X.K H p ys\/sO X.K H p ys)/\∀ l,H l=L->Q (.ref l) (upd H l 2.23)):=by
 intro pins s σ H xs us Q I r h;obtain⟨p,ys,rfl,hq,q⟩:=h;obtain⟨u,rfl,rx⟩:=pF r;cases rx
 have fin:∀ (its:List ce),Vals ys its->ys.length<=UJ->∀ (h':Ud) (c':Nat),(∀ b o',s.heap.get? b=Y o'->h'.get? b=Y o') ->
   h'.get? s.heap.objs.size=Y { cls:=.type "list",dict:=L,data:=.seq its.toArray c',slots:=#[] }->EP X pins σ Q 8.1 { s with heap:=h' }:=λits r' hz h' c' kp e=>
  ⟨.ref s.heap.objs.size,_,I.laid (t':=s.toks) kp (aao _) (show ObjOk X.prog X.w _ h' _ 2.23 from ⟨hz,its,c',r',e⟩),rfl,q _ 1.15⟩
 rcases hq with hq | hq
 ·obtain⟨its,r',pl,hz⟩:=I.list hq;have hlen:=r'.length;obtain⟨o,ho,hc,n,hd⟩:=pl.isList;exact call_list_seq p 4.5 ho hc hd (λh' c' kp e=>fin its r' hz h' c' kp e) (by simp only[aak]<;>omega)
 ·obtain⟨its,r',pl,hz⟩:=I.tuple hq;have hlen:=r'.length;obtain⟨o,ho,hc,n,hd⟩:=pl;exact call_list_seq p 2.32 ho hc hd (λh' c' kp e=>fin its r' hz h' c' kp e) (by simp only[aak]<;>omega)
theorem AT:CallR X (.type "tuple") (λxs H Q=>∃ p ys,xs=[.ref p]/\((rZ X.K H p ys/\∀ l,H l=L->Q (.ref l) (upd H l (.tup ys)))\/(sO X.K H p ys/\Q (.ref p) H))):=by
 intro pins s σ H xs us Q I r h;obtain⟨p,ys,rfl,h⟩:=h;obtain⟨u,rfl,rx⟩:=pF r;cases rx;rcases h with ⟨hq,q⟩ | ⟨hq,q⟩
 ·obtain⟨its,r',pl,hz⟩:=I.list hq;have hlen:=r'.length;refine call_tuple_list pl.isList (λh' kp=>?_) (by simp only[aak]<;>omega);have I1:Inv X pins σ H { s with heap:=h' }:=I.kept (t':=s.toks) kp
  have I2:Inv X pins σ (upd H h'.objs.size (.tup ys)) { s with heap:=h'.push { cls:=.type "tuple",data:=.seq its.toArray } }:=
   I1.laid (t':=s.toks) (λb o e=>aag _ e) (aao _) (show ObjOk X.prog X.w _ _ _ (.tup ys) from ⟨hz,its,r',IsTupN.new _ _⟩)
  exact⟨.ref h'.objs.size,_,I2,rfl,q _ 8.7⟩
 ·obtain⟨its,r',pl,hz⟩:=I.tuple hq;exact call_tuple_same pl ⟨.ref p,H,I,rfl,q⟩
def tyV(K:aeH)(T:String)(x:V)(H:Hp):Prop:=match x with
 | .str _=>T = "str"
 | .int _=>T = "int"
 | .ref p=>(T = "list"/\∃ xs,rZ K H p xs)\/(T = "tuple"/\∃ o,K.lookup p=Y o/\o.cls=.type "tuple"/\o.dict=L) \/
   (T = "dict"/\∃ kvs,H p=Y 9.0)\/(T = "set"/\∃ S n,H p=Y (.set S n))
 | _=>False
theorem YS{s:gV}(I:Inv X pins σ H s)(r:RelV x v)(ty:tyV X.K T x H) :
  s.TypeIs v T/\∀ a,v=.ref a->∃ ob,s.heap.get? a=Y ob/\ob.dict=L:=by
 cases x with
 | str z=>
  obtain⟨t,rfl⟩:=r;cases(show T = "str" from ty);exact⟨typeIs_str s z t,λw e=>nomatch e⟩
 | int i=>
  obtain⟨t,rfl⟩:=r;cases(show T = "int" from ty);exact⟨adh s i t,λw e=>nomatch e⟩
 | ref p=>
  cases r;rcases ty with ⟨rfl,xs,hq⟩ | ⟨rfl,o,hk,hc,hd⟩ | ⟨rfl,hk⟩ | ⟨rfl,S,n,hk⟩
  ·obtain⟨its,w,pl,w⟩:=I.list hq;refine⟨pl.isList.typeIs,λa e=>?_⟩;cases e;obtain⟨o,n,e,c,hd,w⟩:=pl;exact⟨o,e,hd⟩
  ·refine⟨⟨o,I.kIn p o hk,hc⟩,λa e=>?_⟩;cases e;exact⟨o,I.kIn _ o hk,hd⟩
  ·have z:∃ o,s.heap.get? p=Y o/\o.ExactDict:=by
    obtain⟨kvs,hk⟩:=hk;obtain⟨w,w,w,w,o,w,w,e,ex,w⟩:=I.hok p _ hk;exact⟨o,e,ex⟩
   obtain⟨o,e,ex⟩:=z;refine⟨⟨o,e,ex.1⟩,λa e2=>?_⟩;cases e2;exact⟨o,e,ex.2.1⟩
  ·obtain⟨o,w,w,w,e,ex,w⟩:=I.hok p _ hk;refine⟨⟨o,e,ex.1⟩,λa e2=>?_⟩;cases e2;exact⟨o,e,ex.2.1⟩
 | _=>exact False.elim ty
def tBM(K:aeH)(T:String)(r:V->List V->Hp->VK->Prop)(to:TE)(t:TA):TE:=λσ H Q=>to σ H λx H1=>tyV K T x H1/\t σ H1 λxs H2=>r x xs H2 Q
variable{o e:tx}{es:List tx}{to:TE}{t:TA}{name:Str}{apos cpos:Pos}{T id:String}{r:V->List V->Hp->VK->Prop}
theorem pe_bm(pa:PlainAttrs T)(slot:Slot T name id)(hty:typeOf 6.1=pure (.type "method_descriptor"))(hm:MtR X id r)(ho:PE X o to)(ha:PA X (e::es) t)
  (hbase:attributeBase o name X.env 9.3=eval o X.env:=by rfl)
  (hfew:((backTo cpos (Wj (e::es) X.env)).all (λx=>!x.1)&&(backToKw cpos 6.0).all (λx=>x.1.isSome)
  &&decide ((e::es).length+([]:List Keyword).length+(if ([]:List Keyword).isEmpty then 0 else 1)<30))=true:=by rfl)
  (hline:(apos.endLine==cpos.line)=true:=by rfl) (hs:Wj (e::es) X.env=1.2::Wj es X.env:=by rfl) (hplain:(backTo cpos 2.1).any (·.1)=false:=by rfl) :
  PE X (.Call 1.01 (e::es) [] cpos) (tBM X.K T r to t):=by
 intro pins s σ H Q I h;refine acQ hbase hfew hline rfl (eG 1.41 λv s1 ⟨x,H1,I1,r1,ty,q1⟩=>?_);obtain⟨h1,h2⟩:=YS I1 r1 ty;refine⟨T,id,pa,slot,hty,h1,h2,?_⟩;have hA:=ha cpos pins s1 σ H1 _ I1 q1;rw[hs] at hA ⊢;refine acR (by show(false||(backTo cpos 2.1).any (·.1))=false;rw[hplain]<;>rfl) (acA ?_);exact eG hA λus s2 ⟨vs,H2,I2,r2,q2⟩=>hm pins s2 σ H2 x vs v us Q I2 r1 r2 q2
end
def MtM(X:Cx)(id:String)(r:V->List V->Hp->VK->Prop):Prop:=
 ∀ (pins:List 2.4) (s:gV) (σ:St) (H:Hp) (x:V) (xs:List V) (v:ce) (us:List ce) (Q:VK),Inv X pins σ H s->RelV x v->Vals xs us->r x xs H Q ->
  aeG 0.3 X.A (call 6.1 (v::us)) 4.8 X.xe s
theorem Vals.one:∀ {x:V} {us:List ce},Vals [x] us->∃ u,us=[u]/\RelV x u:=by
 intro x us h;cases h with | cons r t=>cases t;exact⟨_,rfl,r⟩
theorem Vals.two:∀ {x y:V} {us:List ce},Vals [x,y] us->∃ u v,us=[u,v]/\RelV x u/\RelV y v:=by
 intro x y us h;cases h with | cons r t=>cases t with | cons q t=>cases t;exact⟨_,_,rfl,r,q⟩
theorem Vals.rep(h:Vals xs us):∀ k:Nat,Vals (aeI k xs).flatten (aeI k us).flatten
 | 0=>.nil
 | k+1=>by
  rw[aaN,aaN,abj,abj];exact Vals.append h (Vals.rep h k)
theorem BW(its:List ce):∀ (k:Nat) (acc:List ce),
  List.foldl (λx1 x2=>x1++x2) acc.toArray (aeI k its.toArray)=(acc++(aeI k its).flatten).toArray
 | 0=>λacc=>by simp
 | k+1=>λacc=>by
  have e:acc.toArray++its.toArray=(acc++its).toArray:=by simp
  have e2:(acc++its)++(aeI k its).flatten=acc++(aeI (k+1) its).flatten:=by
   rw[aaN,abj,aaP]
  rw[<- e2,<- BW its k (acc++its),<- e,aaN,List.foldl_cons]
section
variable{X:Cx}{pins:List (td×Obj)}{σ:St}{H:Hp}{s:gV}{l b:td}{xs ys zs:List V}
theorem Inv.lset{its its':List ce}{f:Array ce->Array ce}{t':Nat}(I:Inv X pins σ H s)(hH:H l=Y 2.2)
  (e:s.heap.get? l=Y { cls:=.type "list",data:=.seq its.toArray n }) (hf:f its.toArray=its'.toArray) (hv:Vals ys its') (hz:ys.length<=UJ) :
  Inv X pins σ (upd H l 2.23) { s with heap:=s.heap.update l (Obj.mapSeq f),toks:=t' }:=by
 have q:=PySem.IsL.update e f;rw[hf] at q;refine I.write (x:=l) (e:=l) (by rw[hH];exact trivial) 4.5 (λb' u hb hu=>(aaw s.heap (Obj.mapSeq f) (Ne.symm hb)).trans hu) ⟨_,q⟩ ?_;exact⟨hz,its',_,hv,q⟩
theorem Inv.lnew{t':Nat}(I:Inv X pins σ H s)(hv:Vals ys its)(hz:ys.length<=UJ) :
  Inv X pins σ (upd H s.heap.objs.size 2.23) { s with heap:=s.heap.push { cls:=.type "list",data:=.seq its.toArray },toks:=t' }:=
 I.laid (λz z q=>aag _ q) (aao _) ⟨hz,its,0,hv,aaz _ rfl⟩
theorem Inv.fresh(I:Inv X pins σ H s):H s.heap.objs.size=L:=I.hok.fresh (aao _)
theorem Inv.lstM(I:Inv X pins σ H s)(hH:H l=Y 2.2):xs.length<=UJ/\∃ (its:List ce) (n:Nat),Vals xs its/\xs.length=its.length/\s.heap.get? l=Y { cls:=.type "list",data:=.seq its.toArray n }:=by
 obtain⟨z,its,n,r,e⟩:=I.hok l _ hH;exact⟨z,its,n,r,r.length,e⟩
theorem FJ{n:Nat}(h:n<=UJ):Builtin.List.listTooLong n=false:=by
 unfold Builtin.List.listTooLong;exact aap 0.0
end
section
variable{X:Cx}
def UK:V->List V->Hp->VK->Prop:=λx vs H Q=>∃ l xs y,x=.ref l/\vs=[y]/\H l=Y 2.2/\xs.length<UJ/\Q .non (upd H l (.lst (xs++[y])))
theorem Bt:MtM X "list.append" UK:=by
 intro pins s σ H x vs v us Q I rx rv h;obtain⟨l,xs,y,rfl,rfl,hH,hz,q⟩:=h;cases rx;obtain⟨u,rfl,ru⟩:=rv.one;obtain⟨z,its,n,r,hl,e⟩:=I.lstM hH;refine aci aeA ⟨_,e,rfl⟩ F.entry_list_append (F.args_list_append_2 _ _) (PySem.list_append l its.toArray n u (by rw[aak];omega)) ⟨e,?_⟩;refine⟨.non,_,I.lset (its':=its++[u]) hH e 0.4 (r.append (.cons ru .nil)) ?_,rfl,q⟩;rw[aaj,aaZ];omega
def rCat:R2:=λx y H Q=>∃ l b xs zs,x=.ref l/\y=.ref b/\H l=Y 2.2/\H b=Y (.lst zs)/\xs.length+zs.length<=UJ/\∀ p,H p=L->Q (.ref p) (upd H p (.lst (xs++zs)))
theorem Qs:OpR X 2.29 rCat:=by
 intro pins s σ H x y v u Q I rx ry h;obtain⟨l,b,xs,zs,rfl,rfl,hH,hB,hz,q⟩:=h;cases rx;cases ry;obtain⟨z,its,n,r,hl,e⟩:=I.lstM hH;obtain⟨z2,its2,n2,r2,hl2,e2⟩:=I.lstM hB;refine PySem.P.add_list e e2 ?_ (by rw[aak,aak];omega);have ea:its.toArray++its2.toArray=(its++its2).toArray:=by simp
 rw[ea];exact⟨.ref _,_,I.lnew (t':=s.toks) (r.append r2) (by rw[aaj];omega),rfl,q _ I.fresh⟩
def rRep:R2:=λx y H Q=>∃ l k xs,x=.ref l/\y=.int k/\H l=Y 2.2/\-(2^63)<=k/\k<2^63/\xs.length*k.toNat<=UJ /\
 ∀ p,H p=L->Q (.ref p) (upd H p (.lst (aeI k.toNat xs).flatten))
theorem DP{α:Type}(xs:List α)(k:Nat):(aeI k xs).flatten.length=k*xs.length:=by
 induction k with
 | zero=>simp
 | succ k ih=>rw[aaN,abj,aaj,ih,Nat.succ_mul,Nat.add_comm]
theorem ZI:OpR X 2.49 rRep:=by
 intro pins s σ H x y v u Q I rx ry h;obtain⟨l,k,xs,rfl,rfl,hH,h1,h2,hz,q⟩:=h;cases rx;obtain⟨t,rfl⟩:=ry;obtain⟨z,its,n,r,hl,e⟩:=I.lstM hH;have hlen:its.toArray.size*k.toNat<=UJ:=by rw[aak,<- hl];exact hz
 have hcap:¬ its.toArray.size*k.toNat>(2^63 - 1) / 8:=by
  have:(UJ:Nat)<=(2^63 - 1) / 8:=by decide
  omega
 have hfit:¬ (!Builtin.List.listFitsIndex k)=true:=by
  rw[fitsIndex_both h1 h2];exact aeJ
 have hlong:¬ Builtin.List.listTooLong (its.toArray.size*k.toNat)=true:=by
  rw[FJ hlen];exact aeJ
 have hnew:List.foldl (λx1 x2=>x1++x2) #[] (aeI (if its.toArray.isEmpty=true then 0 else k.toNat) its.toArray)=(aeI k.toNat its).flatten.toArray:=by
  have f0:∀ m:Nat,List.foldl (λx1 x2=>x1++x2) #[] (aeI m its.toArray)=(aeI m its).flatten.toArray:=λm=>by
   have:=BW its m [];rw[adA] at this;exact this
  rw[f0];cases its with
  | nil=>simp
  | cons a r'=>rw[if_neg 0.4]
 refine adE (T:="list") (U:="int") 0.1 ⟨_,e,rfl⟩ (λs'=>adh s' k t) noFill_list_mul F.fills_int_mul acU repeat_list F.slot_int_index.lookup
  (aci acU (adh s k t) F.entry_int_rmul (F.args_int_rmul_2 _ _) (int___rmul___int_list k t l its.toArray n)
   ⟨e,rfl,⟨_,e,rfl⟩,aci F.slot_list_mul ⟨_,e,rfl⟩ F.entry_list_mul (F.args_list_mul_2 _ _) (AutoListH.list___mul___list_int_3 l its.toArray n k t hfit hcap hlong) ⟨e,?_⟩⟩)
 rw[hnew];exact⟨.ref _,_,I.lnew (t':=s.toks) (r.rep k.toNat) (by rw[DP,adn];exact hz),rfl,q _ I.fresh⟩
end
section
variable{κ:Type}[DecidableEq κ]
def xN(kvs:List (κ×V))(k:κ):Option V:=(kvs.find? λkv=>decide (kv.1=k)).map (·.2)
def Ai(kvs:List (κ×V))(k:κ)(v:V):List (κ×V):=
 if (kvs.any λkv=>decide (kv.1=k))=true then kvs.map (λkv=>if kv.1=k then(kv.1,v) else kv) else kvs++[(k,v)]
theorem ER{p:κ×V}{r:List (κ×V)}{k:κ}(e:p.1=k):xN (p::r) k=Y p.2:=by simp[xN,abl,e]
theorem xM{p:κ×V}{r:List (κ×V)}{k:κ}(e:¬ p.1=k):xN (p::r) k=xN r k:=by simp[xN,abl,e]
theorem GJ(kvs:List (κ×V))(k:κ)(v:V):(Ai kvs k v).length<=kvs.length+1:=by
 unfold Ai;split
 ·rw[aai];omega
 ·rw[aaj,aam,abk];omega
theorem RelO.getD{d:V}(r:RelO o u)(rd:RelV d d'):RelV (o.getD d) (u.getD d'):=by
 cases o with
 | none=>cases u with
  | none=>exact rd
  | some _=>exact(show False from r).elim
 | some _=>cases u with
  | none=>exact(show False from r).elim
  | some _=>exact r
theorem KV.val(r:KV kvs vs)(k:κ):RelO (xN kvs k) (valueAt vs k):=by
 unfold KV at r
 induction r with
 | nil=>exact True.intro
 | @cons p q ps qs h t ih=>
  obtain⟨h1,h2⟩:=h;by_cases e:p.1=k
  ·have e':q.1=k:=h1.symm.trans e;have b:valueAt (q::qs) k=Y q.2:=by simp[valueAt,abl,e']
   rw[ER e,b];exact h2
  ·have e':¬ q.1=k:=λz=>e (h1.trans z);have b:valueAt (q::qs) k=valueAt qs k:=by simp[valueAt,abl,e']
   rw[xM e,b];exact ih
theorem KV.any(r:KV kvs vs)(k:κ):(kvs.any λkv=>decide (kv.1=k))=vs.any λkv=>decide (kv.1=k):=by
 unfold KV at r
 induction r with
 | nil=>rfl
 | cons h t ih=>rw[abr,abr,ih,h.1]
theorem KV.repl(r:KV kvs vs)(k:κ)(ry:RelV y u) :
  KV (kvs.map λkv=>if kv.1=k then(kv.1,y) else kv) (vs.map λkv=>if kv.1=k then(kv.1,u) else kv):=by
 unfold KV at r ⊢
 induction r with
 | nil=>exact .nil
 | @cons p q ps qs h t ih=>
  rw[aah,aah];refine .cons ?_ ih;obtain⟨h1,h2⟩:=h;by_cases e:p.1=k
  ·rw[aas e,aas (h1.symm.trans e)];exact⟨h1,ry⟩
  ·rw[if_neg e,if_neg (λz=>e (h1.trans z))];exact⟨h1,h2⟩
theorem KV.put(r:KV kvs vs)(k:κ)(ry:RelV y u):KV (Ai kvs k y) (stored vs k u):=by
 unfold Ai stored;rw[r.any k];by_cases e:(vs.any λkv=>decide (kv.1=k))=true
 ·rw[aas e,aas e];exact r.repl k ry
 ·rw[if_neg e,if_neg e];exact Paired.snoc r ⟨rfl,ry⟩
theorem KV.length{kvs:List (κ×V)}{vs:List (κ×ce)}(r:KV kvs vs):kvs.length=vs.length:=adO r
end
theorem yO{k:cj}(r:RelV (kV k) u):(cZ P w).is k u=true:=by
 cases k with
 | inl i=>obtain⟨t,e⟩:=(show ∃ t,u=Value.int i t from r);subst e;exact FP P w i t
 | inr x=>obtain⟨t,e⟩:=(show ∃ t,u=Value.str x t from r);subst e;exact FO P w x t
section
variable{P:vx}{w:Pn}{H:Hp}{h:Ud}{a:td}
theorem rd_of(ok:HOk P w H h)(e:Rd H a u):ObjOk P w H h a u:=e.ok ok
theorem Cf(ok:HOk P w H h)(e:Rd H a 9.0):kvs.length<=UJ/\(a==sysModules)=false/\∃ vs,KV kvs vs/\h.DictOf (cZ P w) a vs:=
 show ObjOk P w H h a 9.0 from rd_of ok e
theorem Tb(ok:HOk P w H h)(e:H a=Y 9.0):kvs.length<=UJ/\(a==sysModules)=false/\∃ vs,KV kvs vs/\h.DictOf (cZ P w) a vs:=Cf ok (.inl e)
end
def DGet(H:Hp)(a:td)(y:V)(r:Option V):Prop:=
 ∃ kvs k,Rd H a 9.0/\y=kV k/\r=xN kvs k
theorem DGet.k{H:Hp}{k:cj}(e:H a=Y 9.0):DGet H a (kV k) (xN kvs k):=⟨kvs,k,.inl e,rfl,rfl⟩
section
variable{X:Cx}{pins:List (td×Obj)}{σ:St}{H:Hp}{s:gV}{a:td}{y v:V}{u r:ce}{o:Option V}{A:RQ}{E:ce->gV->Prop}
theorem Inv.big(I:Inv X pins σ H s):sysModules<s.heap.objs.size:=by
 have h:Zn<s.heap.objs.size:=(I.mod.glob.keeps I.bk).lt;exact Nat.lt_trans 0.1 h
theorem Oq{Q:ce->gV->Prop}(hu:A.units+1<cLine)(I:Inv X pins σ H s)(g:DGet H a y (Y v))(ry:RelV y u)(h:∀ w' s',Inv X pins σ H s'->RelV v w'->Q w' s') :
  aeG 0.3 A (getItem (.ref a) u) Q E s:=by
 obtain⟨kvs,k,e,ey,l⟩:=g
 ·subst ey;obtain⟨z,hd,vs,rel,dd⟩:=Cf I.hok e;obtain⟨w',hw,rw'⟩:=RelO.some_of (v:=v) (o:=valueAt vs k) (by rw[l];exact rel.val k);exact wpAny_getItem_of (yO ry) dd.mapOf hw (h w' _ (I.tok _) rw')
theorem Md{t':Nat}{ob:HO}(I:Inv X pins σ H s)(mu:Mut (H a))(hs:Heap.SameBut a s.heap h')(he:∃ q,h'.get? a=Y q)(new:ObjOk X.prog X.w (upd H a ob) h' a ob) :
  Inv X pins σ (upd H a ob) { s with heap:=h',toks:=t' }:=
 I.write (x:=a) (e:=a) mu 4.5 (λb q hb z=>(hs.2 b hb).trans z) he new
theorem Tc{h':Ud}{kvs:List (cj×V)}(z:kvs.length<=UJ)(hd:(a==sysModules)=false)(rel:KV kvs vs)(dd:h'.DictOf (cZ P w) a vs) :
  ObjOk P w H' h' a 9.0:=⟨z,hd,vs,rel,dd⟩
end
theorem HG{s:gV}(I:Inv X pins σ H s)(g:DGet H a y o):s.TypeIs (.ref a) "dict":=by
 obtain⟨kvs,k,e,z,z⟩:=g
 ·obtain⟨z,z,vs,z,dd⟩:=Cf I.hok e;exact dd.typeIs
theorem HF(h:Ud)(hb:sysModules<h.objs.size):ObjOk P w H (h.push { cls:=.type "dict",data:=.dict #[] }) h.objs.size (.dK []):=
 ⟨acp _,aaX.mpr (Ne.symm (aaI hb)),[],.nil,Heap.DictOf.new h⟩
def Za:TE:=λz H Q=>∀ p,H p=L->Q (.ref p) (upd H p (.dK []))
section
variable{X:Cx}{pos:Pos}
theorem Fx:PE X (.Dict [] [] pos) Za:=λpins s σ H Q I h=>
 wpAny_Dict_empty ⟨.ref s.heap.objs.size,_,I.laid (a:=s.heap.objs.size) (o:=.dK []) (t':=s.toks) (λz z q=>aag _ q) (aao _) (HF s.heap I.big),rfl,h _ 1.15⟩
end
def Cz:List (TE×TE)->St->Hp->(List (V×V)->Hp->Prop)->Prop
 | [],_,H,Q=>Q [] H
 | (tk,tv)::r,σ,H,Q=>tk σ H λx H1=>tv σ H1 λy H2=>Cz r σ H2 λps H3=>Q ((x,y)::ps) H3
noncomputable abbrev VV:List (V×V)->List (ce×ce)->Prop:=Paired λp q=>RelV p.1 q.1/\RelV p.2 q.2
def PPs(X:Cx)(pos:Pos)(keys:List 1.32)(values:List tx)(trs:List (TE×TE)):Prop:=
 ∀ (pins:List 2.4) (s:gV) (σ:St) (H:Hp) (Q:List (V×V)->Hp->Prop),Inv X pins σ H s->Cz trs σ H Q ->
  aeG 0.3 X.A (evalPairs (pairTrees keys values X.env pos)) (λvs s'=>∃ ps H',Inv X pins σ H' s'/\VV ps vs/\Q ps H') X.xe s
theorem UV:PPs X pos [] [] []:=λpins s σ H Q I h=>pairTrees_nil_walk ⟨[],H,I,.nil,h⟩
theorem Qe{k:tx}(hk:PE X k tk)(hv:PE X v tv)(hr:PPs X pos ks vs trs) :
  PPs X pos (Y k::ks) (v::vs) ((tk,tv)::trs):=λpins s σ H Q I h=>
 pairTrees_cons_walk (eG (hk pins s σ H _ I h) λu s1 ⟨x,H1,I1,rx,q1⟩=>eG (hv pins s1 σ H1 _ I1 q1) λw2 s2 ⟨y,H2,I2,ry,q2⟩=>
  eG (hr pins s2 σ H2 _ I2 q2) λws s3 ⟨ps,H3,I3,rel,q3⟩=>⟨(x,y)::ps,H3,I3,.cons ⟨rx,ry⟩ rel,q3⟩)
def lY(kvs more:List (cj×V)):List (cj×V):=more.foldl (λacc kv=>Ai acc kv.1 kv.2) kvs
theorem KV.merge:∀ {more:List (cj×V)} {rs:List (cj×ce)} {kvs:List (cj×V)} {vs:List (cj×ce)},KV more rs->KV kvs vs->KV (lY kvs more) (merged vs rs):=by
 intro more rs kvs vs r;unfold KV at r
 induction r generalizing kvs vs with
 | nil=>intro q;exact q
 | @cons p q ps qs h t ih=>
  intro r0
  have e:KV (Ai kvs p.1 p.2) (stored vs q.1 q.2):=by
   have:=r0.put p.1 h.2;rw[<- h.1];exact this
  exact ih e
theorem nj:∀ (more kvs:List (cj×V)),(lY kvs more).length<=kvs.length+more.length
 | []=>λkvs=>by show kvs.length<=kvs.length+0;omega
 | p::r=>λkvs=>by
  have h1:=nj r (Ai kvs p.1 p.2);have h2:=GJ kvs p.1 p.2;show(lY (Ai kvs p.1 p.2) r).length<=_;rw[aam];omega
theorem zI:∀ {kvs:List (cj×V)} {ws:List (ce×ce)},VV (kvs.map λkv=>(kV kv.1,kv.2)) ws->∃ rs,Carries (cZ P w) ws rs/\KV kvs rs
 | [],_,r=>by rw[acJ] at r;cases r;exact⟨[],True.intro,.nil⟩
 | p::kvs,_,r=>by
  rw[aah] at r;cases r with
  | @cons a b as bs h t=>
   obtain⟨rs,c,q⟩:=zI (P:=P) (w:=w) t;obtain⟨b1,b2⟩:=b;exact⟨(p.1,b2)::rs,⟨yO h.1,rfl,c⟩,.cons ⟨rfl,h.2⟩ q⟩
def tDisp(trs:List (TE×TE)):TE:=λσ H Q=>∀ p,H p=L->Cz trs σ (upd H p (.dK [])) λps H2=>H2 p=Y (.dK [])/\∃ kvs:List (cj×V),ps=kvs.map (λkv=>(kV kv.1,kv.2))/\kvs.length<=15/\Q (.ref p) (upd H2 p (.dK (lY [] kvs)))
theorem KY{keys:List 1.32}(h:PPs X pos keys values trs)(hall:keys.all (·.isSome)=true)(hl:keys.length=values.length)(h0:keys≠[])
  (h15:keys.length<=15):PE X 2.06 (tDisp trs):=by
 intro pins s σ H Q I q;have hn:=I.hok.fresh (aao s.heap.objs.size);have I1:=I.laid (a:=s.heap.objs.size) (o:=.dK []) (h':=s.heap.push { cls:=.type "dict",data:=.dict #[] }) (t':=s.toks) (λu u q=>aag _ q) (aao _) (HF s.heap I.big);refine wpAny_Dict_walk (knd:=cZ X.prog X.w) hall hl h0 h15 (eG (h pins _ σ _ _ I1 (q _ hn)) λws s2 ⟨ps,H2,I2,rel,e,kvs,ep,lk,q2⟩=>?_);subst ep;obtain⟨rs,c,rk⟩:=zI (P:=X.prog) (w:=X.w) rel;obtain⟨z,hd,vs0,r0,dd⟩:=Tb I2.hok e;cases r0;refine⟨rs,c,dd,λh' dd' hs=>⟨.ref s.heap.objs.size,_,?_,rfl,q2⟩⟩
 have hz:(lY [] kvs).length<=UJ:=by
  have h1:=nj kvs [];rw[abk] at h1;rw[acM];omega
 have he:∃ q,h'.get? s.heap.objs.size=Y q:=let ⟨q,_,_,hq,_⟩:=dd';⟨q,hq⟩;exact Md I2 (by rw[e];exact True.intro) hs he (Tc hz hd (rk.merge .nil) dd')
def IsD(H:Hp)(a:td):Prop:=∃ kvs,Rd H a 9.0
theorem qaJ{s:gV}(I:Inv X pins σ H s)(d:IsD H a) :
  s.TypeIs (.ref a) "dict"/\(∀ b,Value.ref a=.ref b->∃ ob,s.heap.get? b=Y ob/\ob.dict=L)/\(a==sysModules)=false:=by
 obtain⟨kvs,e⟩:=d;obtain⟨z,hd,vs,z,dd⟩:=Cf I.hok e;refine⟨dd.typeIs,λb q=>?_,hd⟩;cases q;obtain⟨ob,z,z,h1,h2,z⟩:=dd;exact⟨ob,h1,h2.2.1⟩
section
variable{X:Cx}{pins:List (td×Obj)}{σ:St}{H:Hp}{s:gV}{a:td}{y d:V}{u r:ce}{o:Option V}{A:RQ}{E:ce->gV->Prop}
theorem qbC{Q:ce->gV->Prop}(hu:A.units+1<cLine)(I:Inv X pins σ H s)(g:DGet H a y o)(ry:RelV y u)(h:∀ w' s',Inv X pins σ H s'->RelV (o.getD .non) w'->Q w' s') :
  aeG 0.3 A (call (.builtin "dict.get") [.ref a,u]) Q E s:=by
 obtain⟨kvs,k,e,ey,l⟩:=g
 ·subst ey;obtain⟨z,hd,vs,rel,dd⟩:=Cf I.hok e;refine aee adC dd.typeIs F.entry_dict_get (F.args_dict_get_2 _ _) (meets_dict_get 2.21 a (yO ry) hd) ⟨_,dd.mapOf,h _ _ (I.tok _) ?_⟩;rw[l];exact(rel.val k).getD rfl
theorem qbB{Q:ce->gV->Prop}(hu:A.units+1<cLine)(I:Inv X pins σ H s)(g:DGet H a y o)(ry:RelV y u)(rd:RelV d r)(h:∀ w' s',Inv X pins σ H s'->RelV (o.getD d) w'->Q w' s') :
  aeG 0.3 A (call (.builtin "dict.get") [.ref a,u,r]) Q E s:=by
 obtain⟨kvs,k,e,ey,l⟩:=g
 ·subst ey;obtain⟨z,hd,vs,rel,dd⟩:=Cf I.hok e;refine aee adC dd.typeIs F.entry_dict_get (F.args_dict_get_3 _ _ _) (meets_dict_get_default 2.21 a (yO ry) hd r) ⟨_,dd.mapOf,h _ _ (I.tok _) ?_⟩;rw[l];exact(rel.val k).getD rd
end
end L2
namespace Att
open PySem.W PySem.Calls
theorem wR:∀ (ns:List Int) (vs:List ce),WellAll P h vs (ns.map WData.int)->IntsAre vs ns:=by
 intro ns
 induction ns with
 | nil=>
  intro vs w;rw[acJ] at w;cases w;exact .nil
 | cons n ns ih=>
  intro vs w;rw[aah] at w;cases w with
  | cons a b=>
   cases a;exact .cons _ _ (ih _ b)
theorem Mv{l:OpenLaw}(hn:l.most=Y n)
  (hpre:l.row.toRowW.claim.pre args=true) (hwl:WellAll P h vals args) :
  ∃ a vs ns,vals=[Value.ref a]/\args=[WData.list (ns.map WData.int)]/\h.get? a=Y { cls:=.type "list",data:=.seq vs.toArray }/\IntsAre vs ns/\ns.length<=n:=by
 have hsh:WShape.hasAll [] args [.list .int]=true:=(pre_splitW hpre).1;have hc:l.pre.holds [] { args:=args } = true:=(pre_splitW hpre).2;obtain⟨d,r,rfl,h1,h2⟩:=hasAllW_cons hsh;obtain rfl:=hasAllW_nil h2;obtain⟨xs,rfl,h3⟩:=hasW_list h1;obtain⟨ns,rfl⟩:=items_int h3
 have hlen:ns.length<=n:=by
  unfold OpenLaw.pre at hc
  have h4:(WTm.not (.lt (.lit 0.5) (.len (.arg 0)))).holds [] { args:=[.list 2.0] } = true:=by
   have h4:=(holds_andW hc).1;rw[hn] at h4;exact h4
  have h5:=condW_of h4 (w_not (w_lt w_lit (w_len_list (w_arg rfl))));rw[aai] at h5;refine Nat.le_of_not_lt λq=>?_;have q':(n:Int)<((ns.length:Nat):Int):=by omega
  first
   | (rw[aal q'] at h5;exact absurd h5 0.1)
   | (simp at h5;omega)
 cases hwl with
 | cons w1 w2=>
  cases w2;cases w1 with
  | list ho hall=>exact⟨_,_,ns,rfl,rfl,ho,wR ns _ hall,hlen⟩
theorem MR(l:OpenLaw)(args:List WData):l.row.toRowW.claim.post args 1.37 args=true:=
 postW_of (r:=l.row.toRowW) (X:=(true==true))
  (show WShape.has [] 1.37 .bool=true by first | rfl | decide | simp[WShape.has,WShape.arms,WShape.armsAll])
  (show(WTm.eq .res (.lit 1.37)).value [] { args:=args,res:=Y 1.37,after:=args } = Y (.bool (true==true)) from w_eq_bool (w_res rfl) w_lit) rfl
theorem HS{l:OpenLaw}{YP:Pn->Ud->Prop}{d:DefRec}
  (hn:l.most=Y n) (hdf:d.params.defaults=[])
  (call:∀ (w:Pn) (s₀ s₁:gV) (mg mb:Str->Option ce) (fa:td) (o:Obj) (pm cd doc:ce) (a:td) (vs:List ce) (ns:List Int),
   Ground q loose [] XP w s₀ mg mb s₁.heap->YP w s₁.heap ->
   s₁.heap.get? fa=Y o->o.data=.func (docDef d.name d.params d.body d.scope pm cd doc)->s₁.heap.CodeRec cd d.name->mg d.name=Y (.ref fa) ->
   s₁.heap.get? a=Y { cls:=.type "list",data:=.seq vs.toArray }->IntsAre vs ns->ns.length<=n->s₁.gens = #[] ->
   codeAny (model l.prog w) callerA 1.35 (λr s'=>r=.ok (.ret 1.37)/\OldK s₁.heap s'.heap/\s'.os=s₁.os/\AllBare s'.gens) s₁) :
  WalkO q loose XP YP l.row.toRowW d [] (λf vs=>PySem.call f vs):=by
 intro w s₀ s₁ mg mb G Y0 fa o pm cd doc dV kV ho hd hcd hD hmg hg args vals as hpre hlay hrd hwl hlo;obtain rfl:dV=.none:=Dflts.none hD hdf;obtain rfl:kV=.none:=Dflts.noKw hD;obtain⟨a,vs,ns,rfl,rfl,hobj,hints,hlen⟩:=Mv hn hpre hwl;refine enter_call (abU (call w s₀ s₁ mg mb fa o pm cd doc a vs ns G Y0 ho (fd_plain hd) hcd hmg hobj hints hlen hg) λr s' hq=>?_);obtain⟨rfl,h2,h3,h4⟩:=hq;exact⟨.inl ⟨.bool true,.bool true,[],rfl,λz=>rfl,.bool true,MR l _,λz=>⟨List.Pairwise.nil,λz hm=>(nomatch hm)⟩⟩,h2,h3,h4⟩
end Att
namespace L2
theorem AZ:∀ {vs:List ce} {ns:List Int},IntsAre vs ns->Vals 9.2 vs
 | _,_,.nil=>.nil
 | _,_,.cons n t h=>.cons ⟨t,rfl⟩ (AZ h)
def qbY(H:Hp):Prop:=∀ b,H b=L\/∃ o xs,H b=Y (.frz o 2.2)
theorem Rc{K:aeH}{mb:Str->Option ce}{k:Nat}{x:Str}{s₁:gV}{vs:List ce}
  (KX:K.In s₁.heap) (hns:s₁.heap.Ns Zn mg) (hb:s₁.heap.Ns builtinsNs mb) (hbb:∀ x:Str,x≠"__name__"->mb x=bootBuiltins x) (hlim:s₁.heap.NoLimit) (hg:s₁.gens = #[])
  (ha:s₁.heap.get? a=Y { cls:=.type "list",data:=.seq vs.toArray }) (hi:IntsAre vs ns) (hl:ns.length<=UJ) (hr:Room k callerA)
  (F:∀ base:Ud,K.In base->base.Ns Zn mg->FnOk P w K mg base CX k fa fd [x] sp) (hbind:∀ (s:gV) (u:ce),BindsTo s fd ⟨[u],[]⟩ [(x,u)])
  (hsp:∀ H:Hp,qbY H->rZ K H a 9.2->sp [.ref a] H (λv j=>v=.bl true) λj j j=>False)
  (hCX:∀ H e s',CX [] H s₁ (λj j j=>False) e s'->False) :
  codeAny 1.29 callerA 1.35 (λr s'=>r=.ok (.ret 1.37)/\OldK s₁.heap s'.heap/\s'.os=s₁.os/\AllBare s'.gens) s₁:=by
 have rv:=AZ hi;have lenV:=hi.length
 have core:∀ H:Hp,qbY H->rZ K H a 9.2->HOk P w H s₁.heap->(∀ b,H b≠L->b=a)->(H a≠L->K.lookup a=L) ->
   codeAny 1.29 callerA 1.35 (λr s'=>r=.ok (.ret 1.37)/\OldK s₁.heap s'.heap/\s'.os=s₁.os/\AllBare s'.gens) s₁:=by
  intro H hO hS hok hA hK;have base_of:∀ {b:td} {o:Obj},s₁.heap.get? b=Y o->H b=L->(Eg s₁.heap H).get? b=Y o:=λe n=>RE e n
  have noA:∀ {b:td} {o:Obj} {es:Array DictEntry} {ep:Nat},s₁.heap.get? b=Y o->o.data=.dict es ep->H b=L:=λ{b o es ep} e d=>by
   cases q:H b with
   | none=>rfl
   | some u=>
    have e':b=a:=hA b (by rw[q];simp);subst e';rw[ha] at e;cases e;have d':Data.seq vs.toArray _=Data.dict es ep:=d;cases d'
  have nsK:∀ {b:td} {m:Str->Option ce},s₁.heap.Ns b m->(Eg s₁.heap H).Ns b m:=λ{b m} ⟨o,es,ep,e,d,r⟩=>⟨o,es,ep,base_of e (noA e d),d,r⟩
  have hKb:K.In (Eg s₁.heap H):=λb o e=>base_of (KX b o e) (by
   cases q:H b with
   | none=>rfl
   | some u=>
    have e':b=a:=hA b (by rw[q];simp);subst e'
    rw[hK (by rw[q];simp)] at e;cases e)
  have hM:Mod K mg (Eg s₁.heap H):=⟨hKb,nsK hns,⟨mb,nsK hb,hbb⟩,let ⟨mc,h1,h2⟩:=hlim;⟨mc,nsK h1,h2⟩⟩
  have e0:Env0 P w K mg (Eg s₁.heap H) callerA [] s₁ H:=⟨rfl,hM,λb o e=>Vu e,aeg (NK _ _),trivial,λb hb=>absurd (show b∈([]:List td) from hb) 0.4,hok,.of_eq hg⟩
  refine abU ((F _ hKb (nsK hns)).run callerA [] s₁ H ⟨[.ref a],[]⟩ [.ref a] [.ref a] _ _ hr e0 (hbind s₁ (.ref a)) (.cons rfl .nil) (hsp H hO hS)) λr s' h=>?_;cases r with
  | error e=>exact(hCX H e s' h).elim
  | ok fl=>
   cases fl with
   | next=>exact False.elim h
   | brk=>exact False.elim h
   | cont=>exact False.elim h
   | ret u=>
    obtain⟨v,H',os,bare,un,hok',r',q⟩:=h;have q':v=.bl true:=q;subst q';obtain rfl:u=Value.bool true:=r';refine⟨rfl,OldK.of_keep λb o e=>?_,os,bare⟩;cases q:H b with
    | none=>exact un.keep b o e q (by intro z;exact absurd (show b∈([]:List td) from z) 0.4) 0.4
    | some u=>
     rcases hO b with z | ⟨ob,xs,z⟩
     ·rw[q] at z;cases z
     ·have z2:=un.frzs b ob _ z;obtain⟨e1,j⟩:=hok b _ z;obtain⟨e2,j⟩:=hok' b _ z2;rw[e] at e1;cases e1;exact e2
 cases hk:K.lookup a with
 | some o=>
  have e:=KX a o hk;rw[ha] at e;cases e;refine core (λj=>L) (λj=>.inl rfl) (.inr ⟨_,vs.toArray,_,hk,rfl,rfl,rfl,by rw[aak,lenV];exact hl,by simpa using rv⟩) (λb u z=>by have z':(L:Option HO)=Y u:=z;cases z') (λb z=>absurd rfl z) λz=>absurd rfl z
 | none=>
  refine core (λb=>if b=a then Y (.frz { cls:=.type "list",data:=.seq vs.toArray } (.lst 9.2)) else L) (λb=>?_) (.inl (.inr ⟨{ cls:=.type "list",data:=.seq vs.toArray },aas rfl⟩)) (λb u z=>?_) (λb z=>?_) λj=>hk
  ·by_cases hb:b=a
   ·exact .inr ⟨_,_,aas hb⟩
   ·exact .inl (if_neg hb)
  ·by_cases hb:b=a
   ·have z':=(aas hb).symm.trans z;cases z';subst hb;exact⟨ha,by rw[aai];exact hl,vs,_,rv,ha⟩
   ·have z':=(if_neg hb).symm.trans z;cases z'
  ·by_cases hb:b=a
   ·exact hb
   ·exact absurd (if_neg hb) z
theorem Uo{l:W.OpenLaw}{k:Nat}{YP:Pn->Ud->Prop}{d:DefRec}{K:Params->aeH}{CX:Pn->ON}{sp:Pn->Sp}{x:Str}
  (hn:l.most=Y n) (hn2:n<=UJ) (hdf:d.params.defaults=[]) (hr:Room k callerA)
  (hY:∀ (w:Pn) (h:Ud),YP w h->(K w.params).In h)
  (F:∀ (w:Pn) (mg:Str->Option ce) (fa:td) (h:Ud),(K w.params).In h->h.Ns Zn mg->mg d.name=Y (.ref fa) ->
   ∃ fd:FuncData,(∀ (s:gV) (u:ce),BindsTo s fd ⟨[u],[]⟩ [(x,u)]) /\
    ∀ base:Ud,(K w.params).In base->base.Ns Zn mg->FnOk l.prog w (K w.params) mg base (CX w) k fa fd [x] (sp w))
  (hsp:∀ (w:Pn) (H:Hp) (a:td) (ns:List Int),ns.length<=n->qbY H->rZ (K w.params) H a 9.2->sp w [.ref a] H (λv z=>v=.bl true) λz z z=>False)
  (hCX:∀ (w:Pn) (H:Hp) (s:gV) (e:ce) (s':gV),CX w [] H s (λz z z=>False) e s'->False) :
  W.WalkO q loose XP YP l.row.toRowW d [] (λf vs=>PySem.call f vs):=by
 refine Att.HS hn hdf λw s₀ s₁ mg mb fa o pm cd doc a vs ns G Y0 ho hd hcd hmg hobj hints hlen hg=>?_;have KX:=hY w _ Y0;obtain⟨fd,hb,hF⟩:=F w mg fa _ KX G.T.g hmg;exact Rc KX G.T.g G.T.b G.T.builtins G.T.nolimit hg hobj hints (aaF hlen hn2) hr hF hb (λH hO hS=>hsp w H a ns hlen hO hS) λH e s'=>hCX w H s₁ e s'
def iL(s:QP):Arguments:=match s with
 | .FunctionDef _ a _ _ _ _ _ _ _ _=>a
 | _=>{ posonlyargs:=[],args:=[],vararg:=L,kwonlyargs:=[],kw_defaults:=[],kwarg:=L,defaults:=[] }
def aK(s:QP):List QP:=match s with
 | .FunctionDef _ _ b _ _ _ _ _ _ _=>b
 | _=>[]
def ax(s:QP):Scope:=match s with
 | .FunctionDef _ _ _ _ _ _ sc _ _ _=>sc
 | _=>{ kind:=.function,names:=[],isGenerator:=false,isCoroutine:=false }
noncomputable abbrev HY:ON:=λ_ _ _ _ _ _=>False
noncomputable abbrev E0:XK:=λ_ _ _=>False
theorem Qq:EI HY X E0:=λz z z z z z z h=>h.elim
structure Fun(K:aeH)(x qual:Str)(st:QP)(f:td)(fd:FuncData):Prop where
 ex:∃ (oc:ce) (od:Option td) (kV doc pm:ce) (an:Option td) (cdv ct:ce) (osl:Array 1.04),
  fd=W.fnOf x qual (iL st) (aK st) (ax st) .none kV doc pm an cdv ct/\K.lookup f=Y ⟨oc,od,.func fd,osl⟩/\W.codeIn K cdv qual=true
 kp:W.keepIn K (.ref f)=true
section
variable{P:vx}{w:Pn}{K:aeH}{mg:Str->Option ce}{base:Ud}
theorem Fun.ok{st:QP}{k:Nat}{sp:Sp}(F:Fun K x qual st f fd)(S:aP N ps (ax st))(len:∀ vs H Q E,sp vs H Q E->vs.length=ps.length)
  (hbody:∀ (cdv:ce) (A:RQ) (outer:List Env) (s:gV) (H:Hp) (vs:List V) (Q:VK) (E:XK),Room k (A.deeper (envOfC qual (ax st) s.heap.objs.size f cdv))->sp vs H Q E ->
   ∃ t,PSs (wX HY P w K mg base N qual (ax st) f cdv A outer s H E).nox (aK st) t/\t { nx:=λz H'=>Q .non H',rt:=Q } 2.16 H):FnOk P w K mg base HY (k+1) f fd ps sp:=by
 obtain⟨oc,od,kV,doc,pm,an,cdv,ct,osl,rfl,lk,hcd⟩:=F.ex;refine RP lk hcd S len λA outer s H vs Q E hr hsp=>?_;obtain⟨t,h,q⟩:=hbody cdv A outer s H vs Q E hr hsp;exact⟨t,h.nox,q⟩
theorem Fun.binds{st:QP}{ps:List Str}(F:Fun K x qual st f fd)
  (h:∀ (kV doc pm:ce) (an:Option td) (cdv ct:ce) (us:List ce),us.length=ps.length->bindArgs 6.3 ⟨us,[]⟩=pure 2.02):Binds K fd ps []:=by
 obtain⟨oc,od,kV,doc,pm,an,cdv,ct,osl,rfl,lk,hcd⟩:=F.ex;exact .all (h kV doc pm an cdv ct)
theorem qaO{st:QP}{oc:ce}{od:Option td}{osl:Array 1.04}{kV:ce}(l:K.lookup f=Y ⟨oc,od,.func 6.3,osl⟩)
  (c:W.codeIn K cdv qual=true) (k:W.keepIn K (.ref f)=true):Fun K x qual st f 6.3:=⟨⟨oc,od,kV,doc,pm,an,cdv,ct,osl,rfl,l,c⟩,k⟩
end
section
variable{X:Cx}
theorem pv(i:Nat)(hN:X.N[i]?=Y x:=by rfl)(hv:Xz X.env.scope x:=by first | exact Or.inl rfl | exact Or.inr (Or.inl rfl) | exact Or.inr (Or.inr rfl))(hd:(x==("__debug__":Str))=false:=by decide)
  (hcd:(x==("__classdict__":Str))=false:=by decide):PE X 6.6 (tVar i):=IR hN hv hd hcd
end
def qB(cells:List (Str×td)):List (Str×NameKind)->List (Str×td)->List (Str×td)
 | [],acc=>acc
 | (n,k)::r,acc=>if k==.free then qB cells r ((n,(cells.lookup n).getD 0)::acc) else qB cells r acc
theorem lx{env:Env}:∀ (names:List (Str×NameKind)) (acc:List (Str×td)),(∀ x∈names,x.2=.free->(env.cells.lookup x.1).isSome=true) ->
  (forIn names acc λ(x:Str×NameKind) (r:List (Str×td))=>(do
   if x.2==.free then do let c <- cellOf env x.1;pure (ForInStep.yield ((x.1,c)::r)) else pure 1.73:Sem (ForInStep (List (Str×td)))))=pure (qB env.cells names acc)
 | []=>λacc z=>rfl
 | (n,k)::r=>λacc h=>by
  rw[List.forIn_cons];cases hk:k==NameKind.free with
  | true=>
   have e:k=.free:=by simpa using hk
   have hs:=h (n,k) aac e;obtain⟨c,hc⟩:=abG.mp hs;have hc':env.cells.lookup n=Y c:=hc;have hce:cellOf env n=pure c:=by unfold cellOf;rw[hc']
   simp only[acu,hce,hc',adr,pure_bind,qB,hk];rw[lx r _ λx hx=>h x 1.63]
  | false=>
   simp only[aaQ,abP,pure_bind,qB,hk];exact lx r _ λx hx=>h x 1.63
theorem rX{scope:Scope}{env:Env}(h:∀ x∈scope.names,x.2=.free->(env.cells.lookup x.1).isSome=true):closureFor scope env=pure (qB env.cells scope.names []):=by
 have q:=lx (env:=env) scope.names [] h;unfold closureFor;refine abm ?_ (abm (congrArg (λ(m:Sem (List (Str×td)))=>m >>= λcs=>pure cs) q) ?_)
 ·rfl
 ·rfl
theorem vz(cells:List (Str×td)):∀ (names:List (Str×NameKind)) (acc:List (Str×td)),(∀ x∈names,x.2=.free->(cells.lookup x.1).isSome=true)->(∀ y c,acc.lookup y=Y c->cells.lookup y=Y c) ->
  ∀ y c,(qB cells names acc).lookup y=Y c->cells.lookup y=Y c
 | []=>λz z ha=>ha
 | (n,k)::r=>λacc h ha=>by
  unfold qB;split
  ·rename_i hk;refine vz cells r _ (λx hx=>h x 1.63) λy c e=>?_;rw[acv] at e;split at e
   ·rename_i hy;have hy':y=n:=by simpa using hy
    subst hy';obtain⟨c',hc'⟩:=abG.mp (h (y,k) aac (by simpa using hk));have hc'':cells.lookup y=Y c':=hc';rw[hc''] at e ⊢;exact e
   ·exact ha y c e
  ·exact vz cells r _ (λx hx=>h x 1.63) ha
theorem sL(cells:List (Str×td)):∀ (names:List (Str×NameKind)) (acc:List (Str×td)) (y:Str),(acc.lookup y).isSome=true->((qB cells names acc).lookup y).isSome=true
 | []=>λz z h=>h
 | (n,k)::r=>λacc y h=>by
  unfold qB;split
  ·refine sL cells r _ y ?_;rw[acv];split
   ·rfl
   ·exact h
  ·exact sL cells r _ y h
theorem uz(cells:List (Str×td)):∀ (names:List (Str×NameKind)) (acc:List (Str×td)) (y:Str),(y,NameKind.free)∈names->((qB cells names acc).lookup y).isSome=true
 | []=>λz z h=>by simp at h
 | (n,k)::r=>λacc y h=>by
  unfold qB;rcases aaG.mp h with e | h
  ·cases e;rw[aas (by rfl)];exact sL cells r _ _ (by rw[acv];simp)
  ·split
   ·exact uz cells r _ y h
   ·exact uz cells r _ y h
theorem oH{scope:Scope}{env:Env}{y:Str}:∀ {names:List (Str×NameKind)},
  ((names.map λ(n,k)=>if (k==NameKind.free&&env.scope.kind==.function&&env.kindOf n==Y .cell) then(n,NameKind.cell) else(n,k)).lookup y=Y .cell \/
  (names.map λ(n,k)=>if (k==NameKind.free&&env.scope.kind==.function&&env.kindOf n==Y .cell) then(n,NameKind.cell) else(n,k)).lookup y=Y .free) ->
  (∀ x∈names,x.2≠.cell)->(y,NameKind.free)∈names
 | [],h,_=>by simp at h
 | (n,k)::r,h,hc=>by
  have ih:=@oH scope env y r;have hr:∀ x∈r,x.2≠.cell:=λx hx=>hc x 1.63;rw[aah] at h;by_cases hq:(k==NameKind.free&&env.scope.kind==.function&&env.kindOf n==Y .cell)=true
  ·have hk:k=.free:=by
    have:=hq;simp only[aad] at this;simpa using this.1.1
   simp only[hq,acu] at h;simp only[acv] at h;cases hy:y==n with
   | true=>
    have e:y=n:=by simpa using hy
    rw[e,hk];exact aac
   | false=>
    simp only[hy] at h;exact aaf _ (ih h hr)
  ·simp only[hq,aaQ,abP] at h;simp only[acv] at h;cases hy:y==n with
   | true=>
    simp only[hy] at h;have e:y=n:=by simpa using hy
    rcases h with h | h
    ·exact absurd (aaB h) (hc (n,k) aac)
    ·rw[e,<- aaB h];exact aac
   | false=>
    simp only[hy] at h;exact aaf _ (ih h hr)
def oE(X:Cx)(N':List Str)(scope:Scope)(C:td)(s:gV)(H:Hp)(fp:List td):Cx:=
 {X with N:=N',s₀:=s,H₀:=H,env:=compEnvC scope 1.43 C X.env,outer:=X.stack,ex:=fp,fn:=λz=>false,pn:=[],xe:=λz z=>False }
def Uj(X:Cx)(ifs:List tx)(t:TT):Prop:=
 ∀ (pins:List 2.4) (s:gV) (σ:St) (H:Hp) (Q:Bool->Hp->Prop),Inv X pins σ H s->t σ H Q->aeG 0.3 X.A (forIn ifs true λc r=>if r=true then do let ok <- isTrue c X.env (eval c X.env);pure 2.43 else pure 1.73) 2.08 X.xe s
theorem UO:Uj X [] (λz H Q=>Q true H):=λz z z H z I h=>wpAny_tests_nil ⟨H,I,h⟩
theorem UN(h:PT X c t):Uj X [c] t:=λpins s σ H Q I q=>wpAny_tests_one (h pins s σ H Q I q)
def pG(e tg:tx)(p0:Pos)(ifs:List tx)(d:Nat)(it acc:ce)(env:Env)(bc:Sem Unit):Sem Fin:=do
 standAt p0
 let r <- pyNext it
 match r with
 | none=>pure (Fin.done Flow.next)
 | some v=>do
  letOwnedTupleGo tg it v
  assign tg env v
  let ok <- forIn ifs true λc r=>if r=true then do let ok <- isTrue c env (eval c env);pure 2.43 else pure 1.73
  if ok=true then do bc;again (.compLoop e d it acc env) else again (.compLoop e d it acc env)
def SG(elt:tx)(acc:ce)(env:Env):Sem Unit:=do
 let x <- eval elt env;let _ <- call (.builtin "list.append") [acc,x]
 pure ()
section
variable{prog:vx}{w:Pn}{A:RQ}{R:Result->gV->Prop}{s:gV}
theorem qA{e:tx}{d:Nat}(he:e=.ListComp elt gens scope pos)(htn:compTurn e d it acc env=pG e tg p0 ifs d it acc env bc)(I:Nat->gV->Prop)
  (turn:∀ n s,I n s->aeG 1.4 A (pyNext it) (λr s₁=>match r with
   | none=>R (.ok .next) s₁
   | some v=>aeG 1.4 A (letOwnedTupleGo tg it v) (λz s₁'=>aeG 1.4 A (assign tg env v) (λz s₂=>
     aeG 1.4 A (forIn ifs true λc r=>if r=true then do let ok <- isTrue c env (eval c env);pure 2.43 else pure 1.73) (λok s₃=>
      if ok=true then aeG 1.4 A bc (λz s₅=>∃ m,m<n/\I m s₅) (λz z=>False) s₃
      else ∃ m,m<n/\I m s₃) (λz z=>False) s₂) (λz z=>False) s₁') (λz z=>False) s₁) (λz z=>False) s)
  (n:Nat) (h:I n s) :
  codeAny 1.4 A (.compLoop e d it acc env) R s:=by
 refine codeAny_loop rfl I (λn s hI=>?_) n h;subst he;show aeG _ A ((compTurn (.ListComp elt gens scope pos) d it acc env).onRaise (λx=>do noteFrame x env;theTreesLotGoes x)) _ _ s;refine wpAny_noted ?_;rw[htn];refine aab (abC (aab (aaK (turn n s hI) (λr s₁ h₁=>?_) λz z h'=>h'.elim)));cases r with
 | none=>exact aat h₁
 | some v=>
  refine aab (aaK h₁ (λz s₁' h₁'=>?_) λz z h'=>h'.elim);refine aab (aaK h₁' (λz s₂ h₂=>aab (aaK h₂ (λok s₃ h₃=>?_) λz z h'=>h'.elim)) λz z h'=>h'.elim);cases ok with
  | false=>exact aat ⟨rfl,h₃⟩
  | true=>exact aab (aaK h₃ (λz s₅ h₅=>aat ⟨rfl,h₅⟩) λz z h'=>h'.elim)
end
noncomputable abbrev TB:=St->Hp->(St->Hp->Prop)->Prop
def PB(X:Cx)(m:Sem Unit)(tb:TB):Prop:=
 ∀ (pins:List 2.4) (s:gV) (σ:St) (H:Hp) (Q:St->Hp->Prop),Inv X pins σ H s->tb σ H Q->aeG 0.3 X.A m (λz s'=>∃ σ' H',Inv X pins σ' H' s'/\Q σ' H') X.xe s
def tEm(te:TE)(p:td):TB:=λσ H Q=>te σ H λy H5=>∃ ys,H5 p=Y 2.23/\ys.length<UJ/\Q σ (upd H5 p (.lst (ys++[y])))
theorem Db(he:PE X elt te):PB X (SG elt (.ref p) X.env) (tEm te p):=λpins s σ H Q I h=>by
 refine aab (eG 7.1 λxv s8 ⟨y,H8,J8,r8,q8⟩=>?_);obtain⟨ys,hy,hz,q9⟩:=q8;refine aab (eG (Bt _ s8 σ H8 (.ref p) [y] (.ref p) [xv] (λz H9=>H9=upd H8 p (.lst (ys++[y]))) J8 rfl (.cons r8 .nil) ⟨_,ys,y,rfl,rfl,hy,hz,rfl⟩) λ_ s9 ⟨_,H9,J9,_,e9⟩=>?_);subst e9;exact aat ⟨_,_,J9,q9⟩
def Ik(J:It)(g:TG)(tt:TT)(tb:TB)(σ:St)(H:Hp)(Q:St->Hp->Prop):Prop:=∃ W:Nat->Nat->St->Hp->Prop,(∃ m,W 0 m σ H)/\∀ i m σ' H',W i m σ' H' ->
 (J.stop i H'/\Q σ' H')\/(J.go i H'/\∀ x H2,J.yld i H' x H2->g x σ' H2 λσ2 H3=>tt σ2 H3 λok H4=>
  if ok=true then tb σ2 H4 λσ3 H5=>∃ m',m'<m/\W (i+1) m' σ3 H5 else ∃ m',m'<m/\W (i+1) m' σ2 H4)
theorem Ci{X:Cx}{e:tx}{d:Nat}
  (hc:X.calm=true) (hx:∀ e s,X.xe e s->False) (hl:e=.ListComp elt gens scope pos) (htn:compTurn e d 8.0 acc X.env=pG e tg p0 ifs d 8.0 acc X.env bc) (hg:PG X tg g) (ht:Uj X ifs tt) (hb:PB X bc tb) (T:OJ X.prog X.w X.K tg J fp it tn) {s:gV} (I:Inv X pins σ H s) (st:tn 0 s.heap) (f2:∀ b∈fp,vG X pins H b) (h:Ik J g tt tb σ H Q) :
  codeAny 0.3 X.A (.compLoop e d 8.0 acc X.env) (λr s'=>∃ σ' H',r=.ok .next/\Inv X pins σ' H' s'/\Q σ' H') s:=by
 obtain⟨W,⟨m0,w0⟩,turn⟩:=h;have no:∀ e s,X.xe e s->(λ(_:ce) (_:gV)=>False) e s:=hx;have stat:∀ {H':Hp},(∀ b∈fp,H' b=L)->∀ b∈fp,vG X pins H' b:=λhn b hb=>⟨hn b hb,(f2 b hb).2⟩
 refine qA hl htn (λn s'=>∃ i σ' H',Inv X pins σ' H' s'/\tn i s'.heap/\(∀ b∈fp,H' b=L)/\W i n σ' H') ?_ m0 ⟨0,_,_,I,st,λb hb=>(f2 b hb).1,w0⟩;rintro n s3 ⟨i,σ3,H3,J3,st3,fr3,w3⟩;rcases turn i n σ3 H3 w3 with ⟨stop,qn⟩ | ⟨go,step⟩
 ·refine eG (T.done X rfl rfl rfl hc i pins s3 σ3 H3 _ J3 (stat fr3) st3 stop) λr s4 ⟨hr,J4⟩=>?_;subst hr;exact⟨σ3,H3,rfl,J4,qn⟩
 ·refine eG (T.item X rfl rfl rfl hc i pins s3 σ3 H3 _ J3 (stat fr3) st3 go) λr s4 ⟨u,hr,h4⟩=>?_;subst hr;refine eG h4 λ_ s5 ⟨x,H5,J5,r5,y5,st5,fr5⟩=>?_;have J5':=J5.pinned (stat fr5) (T.obj _ _ st5);refine aaK (hg _ s5 σ3 H5 x u _ J5' r5 (step x H5 y5)) (λ_ s6 ⟨σ6,H6,J6,q6⟩=>?_) no;refine aaK (ht _ s6 σ6 H6 _ J6 q6) (λok s7 ⟨H7,J7,q7⟩=>?_) no
  have again:∀ {s':gV} {σ7:St} {H7:Hp},Inv X (pins++yh fp s5.heap) σ7 H7 s'->(∃ m',m'<n/\W (i+1) m' σ7 H7)->∃ m,m<n/\∃ i σ' H',Inv X pins σ' H' s'/\tn i s'.heap/\(∀ b∈fp,H' b=L)/\W i m σ' H':=λ{s' σ7 H7} J7 n7=>by
   obtain⟨m',hm,w7⟩:=n7;refine⟨m',hm,i+1,σ7,H7,J7.unpinned,T.keep _ _ _ st5 λb hb o e=>(J7.pin (b,o) 1.25).1,λb hb=>?_,w7⟩;obtain⟨o,e,d⟩:=T.obj _ _ st5 b hb;exact(J7.pin (b,o) 1.25).2.1
  cases ok with
  | false=>
   rw[if_neg aeJ] at q7 ⊢;exact again J7 q7
  | true=>
   rw[aas rfl] at q7 ⊢;exact aaK (hb _ s7 σ6 H7 _ J7 q7) (λ_ s9 ⟨σ9,H9,J9,q9⟩=>again J9 q9) no
structure BlockOk(X:Cx)(N':List Str)(scope:Scope)(cap:List 5.9):Prop where
 kind:scope.kind=.function
 nocell:∀ x∈scope.names,x.2≠.cell
 names:∀ x∈scope.names,x.2=.local->scope.names.lookup x.1=Y .local
 free:∀ x∈scope.names,x.2=.free->(X.env.kindOf x.1=Y .cell\/X.env.kindOf x.1=Y .free)
 nd:N'.Nodup
 len:cap.length=N'.length
 cap:∀ (j i:Nat),cap[j]?=Y (Y i)->∃ y,N'[j]?=Y y/\X.N[i]?=Y y/\Xz X.env.scope y/\(X.env.kindOf y=Y .cell\/X.env.kindOf y=Y .free)/\((relabel scope X.env).names.lookup y=Y .cell\/(relabel scope X.env).names.lookup y=Y .free)
def σB(cap:List 5.9)(σ:St):St:=cap.map λo=>o.bind λi=>(σ[i]?).join
section
variable{X:Cx}{pins:List (td×Obj)}{σ:St}{H:Hp}{s:gV}{N':List Str}{scope:Scope}{cap:List (Option Nat)}{C:td}{fp:List td}
theorem BlockOk.cells(B:BlockOk X N' scope cap)(ok:X.Ok):∀ x∈scope.names,x.2=.free->(X.env.cells.lookup x.1).isSome=true:=λx hx hf=>by
 obtain⟨c,e⟩:=ok.has x.1 (B.free x hx hf);rw[e];rfl
theorem BlockOk.cl(B:BlockOk X N' scope cap)(ok:X.Ok):∀ y c,(qB X.env.cells scope.names []).lookup y=Y c->X.env.cells.lookup y=Y c:=
 vz _ _ _ (B.cells ok) λy c e=>by simp at e
theorem Inv.notStk(I:Inv X pins σ H s){b:td}(h1:b≠X.env.locals)(h2:b∉X.fs):b∉BV X.stack:=λz=>(aaG.mp (I.stkSub b z)).elim h1 h2
theorem Inv.block{h4:Ud}{tk:Nat}(I:Inv X pins σ H s)(B:BlockOk X N' scope cap)(hfp:∀ b∈fp,vG X pins H b/\b<s.heap.objs.size)(hC:s.heap.objs.size<=C)
  (hk:∀ b o,s.heap.get? b=Y o->h4.get? b=Y o) (hn:h4.Ns C m0):Inv 0.6 [] (σB cap σ) H { s with heap:=h4,toks:=tk }:=by
 have okX:=I.ok;have hcl:=B.cl okX;have cellC:∀ x c,(qB X.env.cells scope.names []).lookup x=Y c->∃ v,s.heap.IsCell c v:=λx c e=>I.cell x c (hcl x c e);have neC:∀ b o,s.heap.get? b=Y o->b≠C:=λb o e=>aaI (aaD (aaq e) hC)
 refine⟨⟨okX.mod,B.kind,okX.glob,okX.blt,hC,λx y c e1 e2=>okX.inj x y c (hcl x c e1) (hcl y c e2),λx hx=>?_,λx c e w=>(by cases e),okX.hd,okX.frames,.inl rfl,λb hb=>⟨λz=>?_,λx c e z=>?_⟩,λb o e=>I.bs b o e,aaF okX.bsz I.sz,λb o e hb=>?_,λb hb z=>?_,I.stack,I.stkFree⟩,
  rfl,I.bare,Un.kept hk,⟨m0,hn,λj y v e1 e2 e3=>?_⟩,λx c e=>?_,I.hok.fresh hC,λx c e=>I.freeC x c (hcl x c e),λp hp=>absurd (show p∈([]:List 2.4) from hp) 0.4,I.hok.kept hk,?_⟩
 ·have q:=oH (scope:=scope) (env:=X.env) (y:=x) (names:=scope.names) hx B.nocell;exact abG.mp (uz _ _ _ _ q)
 ·have z':b=C:=z;exact absurd (hfp b hb).2 (by rw[z'];exact adK.mpr hC)
 ·exact(hfp b hb).1.2.2.2.2.1 x c (hcl x c e) z
 ·obtain⟨h0,h1,h2,h3,h4',h5⟩:=(hfp b hb).1;rcases h3 with h3 | h3
  ·exact okX.noex b o e h3
  ·have:=(okX.bs b o e).1;exact absurd (aaD (aaq this) h3) (abI _)
 ·obtain⟨h0,h1,h2,h3,h4',h5⟩:=(hfp b hb).1;exact I.notStk h1 h2 z
 ·have e1':N'[j]?=Y y:=e1;unfold σB at e2;rw[abi] at e2;cases ec:cap[j]? with
  | none=>rw[ec] at e2;cases e2
  | some o=>
   rw[ec] at e2;cases o with
   | none=>cases e2
   | some i=>
    obtain⟨y',n1,n2,vis,kx,kb⟩:=B.cap j i ec;rw[e1'] at n1;cases n1;have e2':(σ[i]?).join=Y v:=aaB e2
    have e2'':σ[i]?=Y (Y v):=by
     cases q:σ[i]? with
     | none=>rw[q] at e2';cases e2'
     | some z=>rw[q] at e2';exact congrArg Y e2'
    obtain⟨m,hm,hl⟩:=I.loc;obtain⟨u,ru,lk⟩:=hl i y v n2 e2'' vis;refine⟨u,ru,.inr ⟨kb,?_⟩⟩;rcases lk with ⟨k,_⟩ | ⟨k,c,ec',z⟩
    ·rcases kx with kx | kx
     ·rw[kx] at k;cases k
     ·rw[kx] at k;cases k
    ·have q:=oH (scope:=scope) (env:=X.env) (y:=y) (names:=scope.names) kb B.nocell;obtain⟨c',hc'⟩:=abG.mp (uz X.env.cells scope.names [] y q);have:=hcl y c' hc';rw[ec'] at this;cases this;exact⟨c,hc',z.keeps hk⟩
 ·obtain⟨v,z⟩:=cellC x c e;exact⟨v,z.keeps hk⟩
 ·show(σB cap σ).length=N'.length;unfold σB;rw[aai,B.len]
theorem Inv.unblock(I:Inv X pins σ H s)(hfp:∀ b∈fp,vG X pins H b)(J:Inv 0.6 pins' σ' Hf s'):Inv X pins σ Hf s':=
 I.call' (ch:=fp) J.os J.base J.hok J.bare λb hb=>by
  obtain⟨h0,h1,h2,h3,h4,h5⟩:=hfp b hb;exact⟨h3,h1,h4,h5⟩
end
def xP(wi:TI)(g:TG)(tt:TT)(tb:td->TB)(cap:List 5.9):TE:=λσ H Q=>wi σ H λJ H1=>∀ p,H1 p=L->Ik J g tt (tb p) (σB cap σ) (upd H1 p (.lst [])) λz H'=>Q (.ref p) H'
def Ph(wi:TI)(g:TG)(tt:TT)(te:TE)(cap:List 5.9):TE:=xP wi g tt (tEm te) cap
def Behind(X:Cx)(pins:List 2.4)(σ:St)(Q:VK)(acc:ce)(C:td)(r:Result)(s':gV):Prop:=
 ∃ p Hf m,r=.ok .next/\acc=.ref p/\Inv X pins σ Hf s'/\Q (.ref p) Hf/\s'.heap.Ns C m/\Hf C=L/\C≠X.env.locals/\X.s₀.heap.objs.size<=C/\(∀ x c,X.env.cells.lookup x=Y c->c≠C)/\(∀ q∈X.pn++pins,q.1≠C)
theorem zF{X:Cx}{rest:List Comprehension}{tb:td->TB}{bc:ce->Env->Sem Unit}
  (hc:X.calm=true) (B:BlockOk X N' scope cap) (hi:PI X tg iter wi) (hg:∀ C s H fp,PG 0.6 tg g) (ht:∀ C s H fp,Uj 0.6 ifs tt)
  (htn:∀ it acc env,compTurn (.ListComp elt (⟨tg,iter,ifs,0⟩::rest) scope pos) 0 it acc env=pG (.ListComp elt (⟨tg,iter,ifs,0⟩::rest) scope pos) tg iter.pos ifs 0 it acc env (bc acc env))
  (hb:∀ C s H fp p,PB 0.6 (bc (.ref p) (oE X N' scope C s H fp).env) (tb p)) {s:gV} (I:Inv X pins σ H s) (h:xP wi g tt tb cap σ H Q) {E:ce->gV->Prop} (hE:∀ e s,X.xe e s->E e s) :
  aeG 0.3 X.A (eval iter X.env) (λx s₁=>aeG 0.3 X.A (pyIter x) (λit s₂=>aeG 0.3 X.A (newList []) (λacc s₃=>
   aeG 0.3 X.A (newFunctionEnv scope X.env.globals 1.43 [] X.env.qual L .none (Y X.env)) (λcenv s₄=>
    codeAny 0.3 X.A (.compStart (.ListComp elt (⟨tg,iter,ifs,0⟩::rest) scope pos) 0 it acc { cenv with scope:=relabel scope X.env }) (Behind X pins σ Q acc cenv.locals) s₄) E s₃) E s₂) E s₁) E s:=by
 refine aaK 2.11 (λv s1 h1=>aaK h1 (λitv s2 h2=>?_) hE) hE;obtain⟨it,fp,tn,J,H1,e,I2,T,st2,f2,hW⟩:=h2;subst e;refine abf (wpAny_newFunctionEnv B.nocell (by intro y hy;simp at hy) (λh₁ hns₁ hsb₁=>?_) B.kind);dsimp only at hns₁ hsb₁ ⊢;have hp1:H1 s2.heap.objs.size=L:=I2.hok.fresh (aao _);have hL:=hW s2.heap.objs.size hp1
 have I3:Inv X pins σ 1.22 { s2 with heap:=s2.heap.push { cls:=.type "list",dict:=L,data:=.seq ([]:List ce).toArray },toks:=s2.toks }:=
  I2.laid (λb o e=>aag _ e) (aao _) ⟨acp _,[],_,.nil,aaz _ rfl⟩
 generalize hH2:s2.heap.push { cls:=.type "list",dict:=L,data:=.seq ([]:List ce).toArray } = H2 at hns₁ hsb₁ I3 ⊢;have hC:H2.objs.size=s2.heap.objs.size+1:=by rw[<- hH2,acW]
 have ltfp:∀ b∈fp,b<s2.heap.objs.size:=λb hb=>by
  obtain⟨o,e,w⟩:=T.obj _ _ st2 b hb;exact aaq e
 have hf3:∀ b∈fp,vG X pins 1.22 b/\b<H2.objs.size:=λb hb=>by
  obtain⟨a0,a⟩:=f2 b hb;refine⟨⟨?_,a⟩,by rw[hC];exact Nat.lt_succ_of_lt (ltfp b hb)⟩;rw[bj (aaI (ltfp b hb))];exact a0
 have up:∀ b o,H2.get? b=Y o->h₁.get? b=Y o:=λb o e=>hsb₁.extBut b o (aaI (aaq e)) (aag _ e);have I4:=I3.block (C:=H2.objs.size) (fp:=fp) (h4:=h₁) (tk:=s2.toks+([]:List (Str×ce)).length) B hf3 (aao _) up hns₁;have st4:tn 0 h₁:=T.keep _ _ _ st2 λb hb o e=>up b o (by rw[<- hH2];exact aag _ e)
 have loop:codeAny 0.3 X.A (.compLoop (.ListComp elt (⟨tg,iter,ifs,0⟩::rest) scope pos) 0 8.0 (.ref s2.heap.objs.size) (compEnvC scope 1.43 H2.objs.size X.env))
    (Behind X pins σ Q (.ref s2.heap.objs.size) H2.objs.size) { s2 with heap:=h₁,toks:=s2.toks+([]:List (Str×ce)).length }:=by
  refine abU (Ci (X:=oE X N' scope H2.objs.size { s2 with heap:=H2,toks:=s2.toks } 1.22 fp) hc (λw w z=>z) rfl (htn _ _ _) (hg _ _ _ _) (ht _ _ _ _) (hb _ _ _ _ _) T I4 st4 (λb hb=>?_) hL) λr s4 ⟨σ4,H4,hr,J4,qn⟩=>?_
  ·obtain⟨h0,h1,h2,h3,h4',h5⟩:=(hf3 b hb).1;exact⟨h0,aaI (hf3 b hb).2,I3.notStk h1 h2,.inl hb,λx c e=>h4' x c (B.cl I3.ok x c e),λp hp=>absurd (show p∈([]:List 2.4) from hp) 0.4⟩
  ·obtain⟨m,hm,w⟩:=J4.loc;have IX:=I3.unblock (λb hb=>(hf3 b hb).1) J4;refine⟨_,H4,m,hr,rfl,IX,qn,hm,J4.free,?_,?_,λx c e z=>?_,λq hq z=>?_⟩
   ·exact Ne.symm (aaI I3.lt)
   ·exact I3.sz
   ·obtain⟨v,q⟩:=I3.cell x c e;exact absurd q.lt (by rw[z];exact abI _)
   ·exact absurd (aaq (I3.pin q hq).1) (by rw[z];exact abI _)
 exact codeAny_compStart_list loop (T.self _ 0 _ _ _ st4 loop)
theorem Fy{X:Cx}{iter:tx}{rest:List Comprehension}{tb:td->TB}{bc:ce->Env->Sem Unit}
  (hc:X.calm=true) (B:BlockOk X N' scope cap) (hi:PI X tg iter wi) (hg:∀ C s H fp,PG 0.6 tg g) (ht:∀ C s H fp,Uj 0.6 ifs tt) (htn:∀ it acc env,compTurn (.ListComp elt (⟨tg,iter,ifs,0⟩::rest) scope pos) 0 it acc env=pG (.ListComp elt (⟨tg,iter,ifs,0⟩::rest) scope pos) tg iter.pos ifs 0 it acc env (bc acc env))
  (hb:∀ C s H fp p,PB 0.6 (bc (.ref p) (oE X N' scope C s H fp).env) (tb p))
  (hs:∀ x,XM iter X.env x=pure x:=by intro z;rfl):PE X (.ListComp elt (⟨tg,iter,ifs,0⟩::rest) scope pos) (xP wi g tt tb cap):=by
 intro pins s σ H Q I h;rw[eval_ListComp];refine adH (use:=L) rfl hs (rX (B.cells I.ok)) B.kind B.names ?_;refine aaK (zF hc B hi hg ht htn hb I h λz z x=>x) (λx s1 h1=>aaK h1 (λit s2 h2=>aaK h2 (λacc s3 h3=>aaK h3 (λcenv s4 h4=>abU h4 λr s' hr=>?_) λz z x=>x) λz z x=>x) λz z x=>x) λz z x=>x;obtain⟨p,Hf,m,rfl,rfl,J,q,hn,c1,c2,c3,c4,c5⟩:=hr;exact⟨m,hn,λh' sb=>⟨_,Hf,J.turned (t':=s'.toks) (λb o hb e=>(sb.2 b hb).trans e) c1 c2 (.inr c3) c4 c5,(show RelV (.ref p) (.ref p) from rfl),q⟩⟩
theorem vK{X:Cx}{iter:tx}{rest:List Comprehension}{spos:Pos}{tb:td->TB}{bc:ce->Env->Sem Unit}{i:Nat}
  (hN:X.N.Nodup) (hy:X.N[i]?=Y y) (hx:OS X.env.scope y)
  (hc:X.calm=true) (B:BlockOk X N' scope cap) (hi:PI X tg iter wi) (hg:∀ C s H fp,PG 0.6 tg g) (ht:∀ C s H fp,Uj 0.6 ifs tt) (htn:∀ it acc env,compTurn (.ListComp elt (⟨tg,iter,ifs,0⟩::rest) scope pos) 0 it acc env=pG (.ListComp elt (⟨tg,iter,ifs,0⟩::rest) scope pos) tg iter.pos ifs 0 it acc env (bc acc env))
  (hb:∀ C s H fp p,PB 0.6 (bc (.ref p) (oE X N' scope C s H fp).env) (tb p))
  (hsw:swapsWith (.ListComp elt (⟨tg,iter,ifs,0⟩::rest) scope pos) 1.28 spos.line X.env=pure true:=by rfl)
  (hs:∀ x,XM iter X.env x=pure x:=by intro z;rfl) (hf:X.fn y=true\/X.env.scope.names.lookup y=Y .local:=by first | exact .inl rfl | exact .inr rfl | assumption) :
  PS X (.Assign [.Name y py] (.ListComp elt (⟨tg,iter,ifs,0⟩::rest) scope pos) spos) (Pj (xP wi g tt tb cap) (LH i)):=by
 intro pins s σ H D I h;rw[exec_Assign_Name_used _ _ _ _ hsw];refine aab (abC (aab ?_));show aeG _ _ (do let _ <- comprehension (.ListComp elt (⟨tg,iter,ifs,0⟩::rest) scope pos) scope X.env _ (newList []) false (eval iter X.env) (Y (assign (.Name y py) X.env))) _ _ s
 refine aab (aaK (adH (use:=Y (assign (.Name y py) X.env)) (Q:=λz s'=>SP X pins D .next s') rfl hs (rX (B.cells I.ok)) B.kind B.names
  (aaK (zF hc B hi hg ht htn hb I h λz z x=>x) (λx s1 h1=>aaK h1 (λit s2 h2=>aaK h2 (λacc s3 h3=>aaK h3 (λcenv s4 h4=>abU h4 λr s' hr=>?_) λz z x=>x) λz z x=>x) λz z x=>x) λz z x=>x))
  (λz s' hq=>aat (aat hq)) λz z e=>e)
 obtain⟨p,Hf,m,rfl,rfl,J,q,hn,c1,c2,c3,c4,c5⟩:=hr;refine wpAny_assign_Name (Bf J hN hy hx (v:=.ref p) rfl (λs2 J2 ⟨a,sb,ha⟩=>?_) hf);refine⟨m,hn.sameBut sb ?_,λh' sb2=>⟨_,Hf,J2.turned (t':=s2.toks) (λb o hb e=>(sb2.2 b hb).trans e) c1 c2 (.inr c3) c4 c5,q⟩⟩;rcases ha with rfl | ha
 ·exact c2
 ·exact Ne.symm (c4 _ _ ha)
theorem Vd{X:Cx}{iter:tx}
  (hc:X.calm=true) (B:BlockOk X N' scope cap) (hi:PI X tg iter wi) (hg:∀ C s H fp,PG 0.6 tg g) (ht:∀ C s H fp,Uj 0.6 ifs tt) (he:∀ C s H fp,PE 0.6 elt te)
  (hs:∀ x,XM iter X.env x=pure x:=by intro z;rfl):PE X 2.7 (Ph wi g tt te cap):=
 Fy hc B hi hg ht (λz z z=>compTurn_list ..) (λC s H fp p=>Db (he C s H fp)) hs
theorem IM{X:Cx}{iter:tx}{spos:Pos}{i:Nat}
  (hN:X.N.Nodup) (hy:X.N[i]?=Y y) (hx:OS X.env.scope y)
  (hc:X.calm=true) (B:BlockOk X N' scope cap) (hi:PI X tg iter wi) (hg:∀ C s H fp,PG 0.6 tg g) (ht:∀ C s H fp,Uj 0.6 ifs tt) (he:∀ C s H fp,PE 0.6 elt te)
  (hsw:swapsWith 2.7 1.28 spos.line X.env=pure true:=by rfl)
  (hs:∀ x,XM iter X.env x=pure x:=by intro z;rfl) (hf:X.fn y=true\/X.env.scope.names.lookup y=Y .local:=by first | exact .inl rfl | exact .inr rfl | assumption) :
  PS X (.Assign [.Name y py] 2.7 spos) (Pj (Ph wi g tt te cap) (LH i)):=
 vK hN hy hx hc B hi hg ht (λz z z=>compTurn_list ..) (λC s H fp p=>Db (he C s H fp)) hsw hs hf
def Hz(x C dx:td)(h:Ud):Prop:=∃ oe vs,h.get? x=Y oe/\oe.cls=.ref C/\oe.dict=Y dx/\oe.data=.fields vs
end L2
namespace M
open L2
def vI:Option Int->V
 | none=>.non
 | some i=>.int i
def Ye(a:td)(h:Ud):Prop:=∃ o,h.get? a=Y o/\o.cls=.type "dict"
inductive Bd1{α β:Type}(o:Option α)(f:α->Option β)(c:β):Prop
 | mk (a:α) (h:o=Y a) (h':f a=Y c)
inductive Bd2{α β γ:Type}(o:Option (α×β))(f:α×β->Option γ)(c:γ):Prop
 | mk (a:α) (b:β) (h:o=Y (a,b)) (h':f (a,b)=Y c)
theorem iq{α β:Type}:∀ {o:Option α} {f:α->Option β} {c:β},o.bind f=Y c->Bd1 o f c:=λ{o f c} h=>by
 cases o with
 | none=>cases h
 | some a=>exact⟨a,rfl,h⟩
theorem dW{α β γ:Type}:∀ {o:Option (α×β)} {f:α×β->Option γ} {c:γ},o.bind f=Y c->Bd2 o f c:=λ{o f c} h=>by
 cases o with
 | none=>cases h
 | some a=>exact⟨a.1,a.2,rfl,h⟩
inductive D where
 | non
 | bl (b:Bool)
 | int (i:Int)
 | str (x:Str)
 | tup (xs:List D)
 | lst (xs:List D)
 | rol (xs:List D)
 | dct (ks:List cj) (vs:List D)
 | ref (r:Nat)
 | txt
 | obj
 | exc (C:td) (fl:Str) (i:Option Int)
 | fn (a:td)
inductive wZ where
 | lst (xs:List D)
 | dct (ks:List cj) (vs:List D)
noncomputable abbrev ac:=List wZ
structure Fp where
 cs:List td
 fb:List td
def Fp.no(μ:Fp)(a:td):Prop:=a∉μ.cs/\a∉μ.fb
noncomputable abbrev bf:=List (Option D)
theorem Li{α:Type}{N:List α}(hN:N.Nodup){i j:Nat}{x:α}(a:N[i]?=Y x)(b:N[j]?=Y x):i=j:=by
 obtain⟨h1,e1⟩:=aaa.mp a;obtain⟨h2,e2⟩:=aaa.mp b;exact(List.getElem_inj hN).mp (e1.trans e2.symm)
def KList(K:aeH)(a:td)(xs:List V):Prop:=∃ (o:Obj) (its:Array ce) (n:Nat),K.lookup a=Y o/\o.cls=.type "list"/\o.dict=L/\o.data=.seq its n/\its.size<=UJ/\Vals xs its.toList
def KTup(K:aeH)(a:td)(xs:List V):Prop:=∃ (o:Obj) (its:Array ce) (n:Nat),K.lookup a=Y o/\o.cls=.type "tuple"/\o.dict=L/\o.data=.seq its n/\its.size<=UJ/\Vals xs its.toList
mutual
inductive Rep(K:aeH)(μ:Fp)(H:Hp):V->D->Prop
 | non:Rep K μ H .non .non
 | bl (b:Bool):Rep K μ H (.bl b) (.bl b)
 | int (i:Int):Rep K μ H (.int i) (.int i)
 | str (x:Str):Rep K μ H (.str x) (.str x)
 | tup {a:td} {vs:List V} {ds:List D} (h:H a=Y (.tup vs)) (n:μ.no a) (r:Reps K μ H vs ds):Rep K μ H (.ref a) (.tup ds)
 | ktup {a:td} {vs:List V} {ds:List D} (h:KTup K a vs) (r:Reps K μ H vs ds):Rep K μ H (.ref a) (.tup ds)
 | lst {a:td} {vs:List V} {ds:List D} (h:H a=Y 1.07) (n:μ.no a) (r:Reps K μ H vs ds):Rep K μ H (.ref a) (.lst ds)
 | rol {a:td} {vs:List V} {ds:List D} (h:Rd H a 1.07) (n:μ.no a) (r:Reps K μ H vs ds):Rep K μ H (.ref a) (.rol ds)
 | krol {a:td} {vs:List V} {ds:List D} (h:KList K a vs) (r:Reps K μ H vs ds):Rep K μ H (.ref a) (.rol ds)
 | dct {a:td} {kvs:List (cj×V)} {ds:List D} (h:H a=Y 9.0) (n:μ.no a) (r:Reps K μ H (kvs.map (·.2)) ds):Rep K μ H (.ref a) (.dct (kvs.map (·.1)) ds)
 | ref {a:td} {r:Nat} (h:μ.cs[r]?=Y a):Rep K μ H (.ref a) (.ref r)
 | txt (x:Str):Rep K μ H (.str x) .txt
 | obj {a:td} (h:H a=Y (.ext (Ye a))) (n:μ.no a):Rep K μ H (.ref a) .obj
 | exc {a dx C:td} {fl:Str} {i:Option Int} (h:H a=Y (.ext (Hz a C dx))) (n:μ.no a) (h2:H dx=Y (.xd [(fl,vI i)])) (n2:μ.no dx):Rep K μ H (.ref a) (.exc C fl i)
 | fn (a:td):Rep K μ H (.ref a) (.fn a)
inductive Reps(K:aeH)(μ:Fp)(H:Hp):List V->List D->Prop
 | nil:Reps K μ H [] []
 | cons {v:V} {d:D} {vs:List V} {ds:List D} (h:Rep K μ H v d) (t:Reps K μ H vs ds):Reps K μ H (v::vs) (d::ds)
end
structure Ext(μ:Fp)(H:Hp)(μ':Fp)(H':Hp):Prop where
 fb:μ'.fb = μ.fb
 pre:∃ l,μ'.cs = μ.cs++l/\∀ a∈l,H a=L
 keep:∀ a o,a∉μ.cs->H a=Y o->H' a=Y o
 dom:∀ a∈μ'.cs,H' a≠L
section
variable{K:aeH}{μ μ' μ'':Fp}{H H' H'':Hp}
theorem Ext.stays(e:Ext μ H μ' H')(h:H a=Y o)(n:μ.no a):H' a=Y o/\μ'.no a:=by
 refine⟨e.keep a o n.1 h,λz=>?_,by rw[e.fb];exact n.2⟩;obtain⟨l,q,hl⟩:=e.pre;rw[q] at z;rcases aar.mp z with z | z
 ·exact n.1 z
 ·rw[hl a z] at h;cases h
theorem Ext.keeps(e:Ext μ H μ' H')(h:H a=Y o)(n:a∉μ.cs):H' a=Y o/\a∉μ'.cs:=by
 refine⟨e.keep a o n h,λz=>?_⟩;obtain⟨l,q,hl⟩:=e.pre;rw[q] at z;rcases aar.mp z with z | z
 ·exact n z
 ·rw[hl a z] at h;cases h
theorem Ext.trans(e:Ext μ H μ' H')(f:Ext μ' H' μ'' H''):Ext μ H μ'' H'':=by
 obtain⟨l,q,hl⟩:=e.pre;obtain⟨l',q',hl'⟩:=f.pre;refine⟨f.fb.trans e.fb,⟨l++l',by rw[q',q,aaP],λa ha=>?_⟩,λa o n h=>?_,f.dom⟩
 ·rcases aar.mp ha with ha | ha
  ·exact hl a ha
  ·have h1:=hl' a ha;cases q2:H a with
   | none=>rfl
   | some o=>
    by_cases hm:a∈μ.cs
    ·exact absurd h1 (e.dom a (by rw[q];exact aaW _ hm))
    ·rw[e.keep a o hm q2] at h1;cases h1
 ·have:=e.keeps h n;exact f.keep a o this.2 this.1
theorem Ext.refl(h:∀ a∈μ.cs,H a≠L):Ext μ H μ H:=⟨rfl,⟨[],by simp,λw z=>by simp at z⟩,λw w w h=>h,h⟩
def kids:D->List D
 | .tup xs=>xs
 | .lst xs=>xs
 | .rol xs=>xs
 | .dct _ xs=>xs
 | _=>[]
theorem Rep.to{P:D->Prop}(hc:∀ d,P d->∀ x∈kids d,P x)(hk:∀ {a:td} {o:HO},H a=Y o->μ.no a->H' a=Y o/\μ'.no a)(hr:∀ {r:Nat} {a:td},P (.ref r)->μ.cs[r]?=Y a->μ'.cs[r]?=Y a){d:D}(r:Rep K μ H v d):P d->Rep K μ' H' v d:=
 Rep.rec (motive_1:=λv d z=>P d->Rep K μ' H' v d) (motive_2:=λvs ds z=>(∀ d∈ds,P d)->Reps K μ' H' vs ds)
  (λz=>.non) (λb z=>.bl b) (λi z=>.int i) (λx z=>.str x) (λh n z ih p=>.tup (hk h n).1 (hk h n).2 1.60) (λh z ih p=>.ktup h 1.60)
  (λh n z ih p=>.lst (hk h n).1 (hk h n).2 1.60) (λh n z ih p=>.rol (h.imp (λh=>(hk h n).1) λ⟨o,h⟩=>⟨o,(hk h n).1⟩) (h.elim (λh=>(hk h n).2) λ⟨_,h⟩=>(hk h n).2) 1.60) (λh z ih p=>.krol h 1.60)
  (λh n z ih p=>.dct (hk h n).1 (hk h n).2 1.60) (λh p=>.ref (hr p h)) (λx z=>.txt x) (λh n z=>.obj (hk h n).1 (hk h n).2) (λh n h2 n2 z=>.exc (hk h n).1 (hk h n).2 (hk h2 n2).1 (hk h2 n2).2)
  (λa z=>.fn a)
  (λz=>.nil) (λz z i1 i2 p=>.cons (i1 (p _ aac)) (i2 λx hx=>p x 1.63)) r
theorem Reps.ind{Q:List V->List D->Prop}(h0:Q [] [])(h1:∀ {v:V} {d:D} {vs:List V} {ds:List D},Rep K μ H v d->Reps K μ H vs ds->Q vs ds->Q (v::vs) (d::ds)):∀ {vs:List V} {ds:List D},Reps K μ H vs ds->Q vs ds
 | _,_,.nil=>h0
 | _,_,.cons h t=>h1 h t (Reps.ind h0 h1 t)
theorem Reps.to{P:D->Prop}(hR:∀ {v:V} {d:D},Rep K μ H v d->P d->Rep K μ' H' v d)(r:Reps K μ H vs ds):(∀ d∈ds,P d)->Reps K μ' H' vs ds:=
 Reps.ind (Q:=λvs ds=>(∀ d∈ds,P d)->Reps K μ' H' vs ds) (λz=>.nil) (λh z i p=>.cons (hR h (p _ aac)) (i λx hx=>p x 1.63)) r
theorem Rep.imp(hk:∀ {a:td} {o:HO},H a=Y o->μ.no a->H' a=Y o/\μ'.no a)(hr:∀ {r:Nat} {a:td},μ.cs[r]?=Y a->μ'.cs[r]?=Y a){d:D}(r:Rep K μ H v d):Rep K μ' H' v d:=Rep.to (P:=λz=>True) (λz z z z=>trivial) hk (λz=>hr) r trivial
theorem Reps.imp(hk:∀ {a:td} {o:HO},H a=Y o->μ.no a->H' a=Y o/\μ'.no a)(hr:∀ {r:Nat} {a:td},μ.cs[r]?=Y a->μ'.cs[r]?=Y a)(r:Reps K μ H vs ds):Reps K μ' H' vs ds:=Reps.to (P:=λz=>True) (λr z=>r.imp hk hr) r λz z=>trivial
theorem EG{l m:List td}{k:List td}(q:k=l++m){r:Nat}(h:l[r]?=Y a):k[r]?=Y a:=by
 rw[q,aay (aaa.mp h).1];exact h
theorem Ext.ix(e:Ext μ H μ' H'){r:Nat}(h:μ.cs[r]?=Y a):μ'.cs[r]?=Y a:=by
 obtain⟨l,q,z⟩:=e.pre;exact EG q h
theorem Rep.mono(e:Ext μ H μ' H'){d:D}(r:Rep K μ H v d):Rep K μ' H' v d:=r.imp e.stays e.ix
theorem Reps.mono(e:Ext μ H μ' H')(r:Reps K μ H vs ds):Reps K μ' H' vs ds:=r.imp e.stays e.ix
theorem Reps.length{vs:List V}{ds:List D}(r:Reps K μ H vs ds):vs.length=ds.length:=Reps.ind (Q:=λvs ds=>vs.length=ds.length) rfl (λz z i=>congrArg (· + 1) i) r
theorem Reps.get:∀ {vs:List V} {ds:List D} {i:Nat} {d:D},Reps K μ H vs ds->ds[i]?=Y d->∃ v,vs[i]?=Y v/\Rep K μ H v d
 | _,_,_,_,.nil,e=>by simp at e
 | _,_,0,_,.cons h _,e=>by simp at e;subst e;exact⟨_,rfl,h⟩
 | _,_,i+1,d,.cons _ t,e=>by
  obtain⟨u,h1,h2⟩:=Reps.get (i:=i) (d:=d) t (by simpa using e);exact⟨u,by simpa using h1,h2⟩
theorem Reps.append{ws:List V}(r:Reps K μ H vs ds)(s:Reps K μ H ws es):Reps K μ H (vs++ws) (ds++es):=Reps.ind (Q:=λvs ds=>Reps K μ H (vs++ws) (ds++es)) s (λr z i=>.cons r i) r
theorem Reps.take:∀ {vs:List V} {ds:List D} (n:Nat),Reps K μ H vs ds->Reps K μ H (vs.take n) (ds.take n)
 | _,_,0,_=>.nil
 | _,_,_+1,.nil=>.nil
 | _,_,n+1,.cons r t=>.cons r (Reps.take n t)
theorem Reps.drop:∀ {vs:List V} {ds:List D} (n:Nat),Reps K μ H vs ds->Reps K μ H (vs.drop n) (ds.drop n)
 | _,_,0,r=>r
 | _,_,_+1,.nil=>.nil
 | _,_,n+1,.cons _ t=>Reps.drop n t
theorem Reps.set{d:D}(r:Rep K μ H x d):∀ {vs:List V} {ds:List D} (i:Nat),Reps K μ H vs ds->Reps K μ H (vs.set i x) (ds.set i d)
 | _,_,_,.nil=>.nil
 | _,_,0,.cons _ t=>.cons r t
 | _,_,i+1,.cons q t=>.cons q (Reps.set r i t)
theorem Reps.flat:∀ (k:Nat) {ds:List D},Reps K μ H xs ds->Reps K μ H (aeI k xs).flatten (aeI k ds).flatten
 | 0,_,_=>.nil
 | k+1,_,r=>by rw[aaN,aaN,abj,abj];exact r.append (Reps.flat k r)
def CellOk(K:aeH)(μ:Fp)(H:Hp)(a:td):wZ->Prop
 | .lst ds=>∃ vs,H a=Y 1.07/\Reps K μ H vs ds
 | .dct ks ds=>∃ kvs,H a=Y 9.0/\ks=kvs.map (·.1)/\Reps K μ H (kvs.map (·.2)) ds
structure SOk(K:aeH)(μ:Fp)(S:ac)(H:Hp):Prop where
 nd:μ.cs.Nodup
 len:μ.cs.length=S.length
 cell:∀ (r:Nat) (a:td) (c:wZ),μ.cs[r]?=Y a->S[r]?=Y c->CellOk K μ H a c
 fdom:∀ a∈μ.fb,H a≠L
 disj:∀ a∈μ.fb,a∉μ.cs
theorem CellOk.ne_none(h:CellOk K μ H a c):H a≠L:=by
 cases c with
 | lst ds=>obtain⟨vs,h,z⟩:=h;rw[h];simp
 | dct ks ds=>obtain⟨vs,h,z⟩:=h;rw[h];simp
theorem CellOk.mono(e:Ext μ H μ' H')(he:H' a=H a)(h:CellOk K μ H a c):CellOk K μ' H' a c:=by
 cases c with
 | lst ds=>obtain⟨vs,h,r⟩:=h;exact⟨vs,he.trans h,r.mono e⟩
 | dct ks ds=>obtain⟨vs,h,q,r⟩:=h;exact⟨vs,he.trans h,q,r.mono e⟩
theorem SOk.dom(s:SOk K μ S H):∀ a∈μ.cs,H a≠L:=λa ha=>by
 obtain⟨r,hr⟩:=acs.mp ha;have hl:=(aaa.mp hr).1;rw[s.len] at hl;exact(s.cell r a S[r] hr (by simp[hl])).ne_none
theorem SOk.ext(s:SOk K μ S H):Ext μ H μ H:=.refl s.dom
theorem SOk.notMem(s:SOk K μ S H)(h:H p=L):μ.no p:=⟨λz=>s.dom p z h,λz=>s.fdom p z h⟩
theorem SOk.laid(s:SOk K μ S H)(h:H p=L):Ext μ H μ 6.4/\SOk K μ S 6.4:=by
 have e:Ext μ H μ 6.4:=⟨rfl,⟨[],by simp,λw z=>by simp at z⟩,λa o' w q=>by rw[bj (cP q h)];exact q,λa ha=>by
  by_cases z:a=p
  ·subst z;rw[bF];simp
  ·rw[bj z];exact s.dom a ha⟩
 refine⟨e,s.nd,s.len,λr a c h1 h2=>(s.cell r a c h1 h2).mono e ?_,λa ha=>?_,s.disj⟩
 case refine_2=>
  by_cases z:a=p
  ·subst z;rw[bF];simp
  ·rw[bj z];exact s.fdom a ha
 have:=(s.cell r a c h1 h2).ne_none;refine bj λz=>?_;rw[z] at this;exact this h
theorem SOk.alloc(s:SOk K μ S H)(h:H p=L)(r:Reps K μ H vs ds):Ext μ H ⟨μ.cs++[p],μ.fb⟩ (upd H p 1.07)/\SOk K ⟨μ.cs++[p],μ.fb⟩ (S++[.lst ds]) (upd H p 1.07):=by
 have hp:=s.notMem h
 have e:Ext μ H ⟨μ.cs++[p],μ.fb⟩ (upd H p 1.07):=⟨rfl,⟨[p],rfl,λa z=>by rw[aav.mp z];exact h⟩,λa o' w q=>by rw[bj (cP q h)];exact q,λa ha=>by
  by_cases z:a=p
  ·subst z;rw[bF];simp
  ·rw[bj z];rcases aar.mp ha with q | q
   ·exact s.dom a q
   ·exact absurd (aav.mp q) z⟩
 refine⟨e,?_,by simp[s.len],λi a c h1 h2=>?_,λa ha=>?_,λa ha z=>?_⟩
 case refine_3=>
  by_cases z:a=p
  ·subst z;rw[bF];simp
  ·rw[bj z];exact s.fdom a ha
 case refine_4=>
  rcases aar.mp z with q | q
  ·exact s.disj a ha q
  ·rw[aav.mp q] at ha;exact hp.2 ha
 ·show(μ.cs++[p]).Nodup;rw[abZ];exact⟨s.nd,by simp,λa ha b hb=>by rw[aav.mp hb];rintro rfl;exact hp.1 ha⟩
 ·have h1:(μ.cs++[p])[i]?=Y a:=h1;by_cases hi:i < μ.cs.length
  ·rw[aay hi] at h1;rw[aay (by rw[<- s.len];exact hi)] at h2;have q:=s.cell i a c h1 h2;refine q.mono e (bj λz=>?_);exact hp.1 (z ▸ aaA h1)
  ·have hl:i = μ.cs.length:=by
    have:=(aaa.mp h1).1;simp at this;omega
   subst hl;rw[abo (aao _)] at h1;rw[s.len,abo (aao _)] at h2;simp at h1 h2;subst h1 h2;exact⟨vs,bF,r.mono e⟩
theorem SOk.write(s:SOk K μ S H){i:Nat}(hi:μ.cs[i]?=Y a)(h:H a=Y 1.07)(r:Reps K μ H vs' ds):Ext μ H μ 2.33/\SOk K μ (S.set i (.lst ds)) 2.33:=by
 have ha:=aaA hi
 have e:Ext μ H μ 2.33:=⟨rfl,⟨[],by simp,λw z=>by simp at z⟩,λb o' n q=>by rw[bj (by rintro rfl;exact n ha)];exact q,λb hb=>by
  by_cases z:b=a
  ·subst z;rw[bF];simp
  ·rw[bj z];exact s.dom b hb⟩
 refine⟨e,s.nd,by simp[s.len],λj b c h1 h2=>?_,λb hb=>?_,s.disj⟩
 case refine_2=>
  by_cases z:b=a
  ·subst z;rw[bF];simp
  ·rw[bj z];exact s.fdom b hb
 by_cases hj:j=i
 ·subst hj;rw[hi] at h1;cases h1;have hl:j<S.length:=by rw[<- s.len];exact(aaa.mp hi).1
  rw[aaL hl] at h2;cases h2;exact⟨vs',bF,r.mono e⟩
 ·rw[aaC 1.49] at h2;refine(s.cell j b c h1 h2).mono e (bj λz=>hj ?_);subst z;exact Li s.nd h1 hi
inductive EOk(K:aeH)(μ:Fp)(H:Hp):L2.St->bf->Prop
 | nil:EOk K μ H [] []
 | no {x:Option V} {σ:L2.St} {env:bf} (t:EOk K μ H σ env):EOk K μ H (x::σ) (L::env)
 | yes {v:V} {d:D} {σ:L2.St} {env:bf} (h:Rep K μ H v d) (t:EOk K μ H σ env):EOk K μ H (Y v::σ) (Y d::env)
theorem EOk.to(hR:∀ {v:V} {d:D},Rep K μ H v d->Rep K μ' H' v d)(h:EOk K μ H σ env):EOk K μ' H' σ env:=by
 induction h with
 | nil=>exact .nil
 | no _ ih=>exact .no ih
 | yes h _ ih=>exact .yes (hR h) ih
theorem EOk.mono(e:Ext μ H μ' H')(h:EOk K μ H σ env):EOk K μ' H' σ env:=h.to (·.mono e)
theorem EOk.get:∀ {σ:L2.St} {env:bf} {i:Nat} {d:D},EOk K μ H σ env->env[i]?=Y (Y d)->∃ v,σ[i]?=Y (Y v)/\Rep K μ H v d
 | _,_,_,_,.nil,h=>by simp at h
 | _,_,0,_,.no _,h=>by simp at h
 | _,_,0,_,.yes h _,q=>by simp at q;subst q;exact⟨_,rfl,h⟩
 | _,_,i+1,d,.no t,h=>by
  obtain⟨v,h1,h2⟩:=EOk.get (i:=i) (d:=d) t (by simpa using h);exact⟨v,by simpa using h1,h2⟩
 | _,_,i+1,d,.yes _ t,h=>by
  obtain⟨v,h1,h2⟩:=EOk.get (i:=i) (d:=d) t (by simpa using h);exact⟨v,by simpa using h1,h2⟩
theorem EOk.set{d:D}(r:Rep K μ H v d):∀ {σ:L2.St} {env:bf} (i:Nat),EOk K μ H σ env->EOk K μ H (σ.set i (Option.some v)) (env.set i (Option.some d))
 | _,_,_,.nil=>.nil
 | _,_,0,.no t=>.yes r t
 | _,_,0,.yes _ t=>.yes r t
 | _,_,i+1,.no t=>.no (EOk.set r i t)
 | _,_,i+1,.yes h t=>.yes h (EOk.set r i t)
theorem EOk.start{N:Nat}:∀ {vs:List V} {ds:List D},Reps K μ H vs ds->EOk K μ H (vs.map Option.some++aeI N Option.none) (ds.map Option.some++aeI N Option.none)
 | _,_,.nil=>by
  induction N with
  | zero=>exact .nil
  | succ n ih=>exact .no ih
 | _,_,.cons h t=>.yes h (EOk.start t)
theorem EOk.block(h:EOk K μ H σ env):∀ (cap:List 5.9),EOk K μ H (σB cap σ) (cap.map λo=>o.bind λi=>(env[i]?).join)
 | []=>.nil
 | Option.none::r=>.no (EOk.block h r)
 | Option.some i::r=>by
  show EOk K μ H ((σ[i]?).join::σB r σ) ((env[i]?).join::_);cases q:(env[i]?).join with
  | none=>exact .no (EOk.block h r)
  | some d=>
   have q':env[i]?=Option.some (Option.some d):=by
    cases z:env[i]? with
    | none=>rw[z] at q;cases q
    | some y=>rw[z] at q;exact congrArg Option.some q
   obtain⟨v,h1,h2⟩:=h.get q';rw[h1];exact .yes h2 (EOk.block h r)
theorem Lk{p:td}{cs fb:List td}(n:(⟨cs,p::fb⟩:Fp).no a):(⟨cs,fb⟩:Fp).no a:=⟨n.1,λz=>n.2 (aaf _ z)⟩
theorem Rep.less{p:td}{cs fb:List td}{d:D}(r:Rep K ⟨cs,p::fb⟩ H v d):Rep K ⟨cs,fb⟩ H v d:=r.imp (λh n=>⟨h,Lk n⟩) λh=>h
theorem Reps.less{p:td}{cs fb:List td}{d:List D}(r:Reps K ⟨cs,p::fb⟩ H v d):Reps K ⟨cs,fb⟩ H v d:=r.imp (λh n=>⟨h,Lk n⟩) λh=>h
theorem Lj{cs fb:List td}(hp:H p=L)(h:H a=Y o')(n:(⟨cs,fb⟩:Fp).no a):upd H p o a=Y o'/\(⟨cs,p::fb⟩:Fp).no a:=⟨(bj (cP h hp)).trans h,n.1,λz=>(aaG.mp z).elim (cP h hp) n.2⟩
theorem Rep.more{cs fb:List td}(hp:H p=L){d:D}(r:Rep K ⟨cs,fb⟩ H v d):Rep K ⟨cs,p::fb⟩ 6.4 v d:=r.imp (Lj hp) λh=>h
theorem Reps.more{cs fb:List td}(hp:H p=L){d:List D}(r:Reps K ⟨cs,fb⟩ H v d):Reps K ⟨cs,p::fb⟩ 6.4 v d:=r.imp (Lj hp) λh=>h
theorem Fp.no.ne{μ:Fp}{p:td}(n:μ.no a)(hp:p∈μ.fb):a≠p:=λz=>n.2 (by rw[z];exact hp)
theorem Rep.chg{p:td}(hp:p∈μ.fb){d:D}(r:Rep K μ H v d):Rep K μ 6.4 v d:=r.imp (λh n=>⟨(bj (n.ne hp)).trans h,n⟩) λh=>h
theorem Reps.chg{p:td}(hp:p∈μ.fb){d:List D}(r:Reps K μ H v d):Reps K μ 6.4 v d:=r.imp (λh n=>⟨(bj (n.ne hp)).trans h,n⟩) λh=>h
theorem EOk.more{cs fb:List td}(hp:H p=L)(h:EOk K ⟨cs,fb⟩ H σ env):EOk K ⟨cs,p::fb⟩ 6.4 σ env:=h.to (·.more hp)
theorem EOk.chg{p:td}(hp:p∈μ.fb)(h:EOk K μ H σ env):EOk K μ 6.4 σ env:=h.to (·.chg hp)
theorem CellOk.upd{p a:td}(μ':Fp)(hpa:a≠p)(h:CellOk K μ H a c)(f:∀ vs ds,Reps K μ H vs ds->Reps K μ' 6.4 vs ds):CellOk K μ' 6.4 a c:=by
 cases c with
 | lst ds=>obtain⟨vs,h,r⟩:=h;exact⟨vs,(bj hpa).trans h,f _ _ r⟩
 | dct ks ds=>obtain⟨vs,h,q,r⟩:=h;exact⟨vs,(bj hpa).trans h,q,f _ _ r⟩
theorem SOk.less{p:td}{cs fb:List td}(s:SOk K ⟨cs,p::fb⟩ S H):SOk K ⟨cs,fb⟩ S H:=
 ⟨s.nd,s.len,λr a c h1 h2=>by
  have:=s.cell r a c h1 h2;cases c with
  | lst ds=>obtain⟨vs,h,r⟩:=this;exact⟨vs,h,r.less⟩
  | dct ks ds=>obtain⟨vs,h,q,r⟩:=this;exact⟨vs,h,q,r.less⟩,λa ha=>s.fdom a (aaf _ ha),λa ha=>s.disj a (aaf _ ha)⟩
theorem SOk.more{cs fb:List td}(s:SOk K ⟨cs,fb⟩ S H)(hp:H p=L):SOk K ⟨cs,p::fb⟩ S 6.4:=by
 have hn:=s.notMem hp;refine⟨s.nd,s.len,λr a c h1 h2=>(s.cell r a c h1 h2).upd _ (λz=>?_) λvs ds r=>r.more hp,λa ha=>?_,λa ha z=>?_⟩
 ·exact hn.1 (z ▸ aaA h1)
 ·by_cases z:a=p
  ·subst z;rw[bF];simp
  ·rw[bj z];exact s.fdom a ((aaG.mp ha).resolve_left z)
 ·rcases aaG.mp ha with rfl | ha
  ·exact hn.1 z
  ·exact s.disj a ha z
theorem SOk.chg{p:td}(s:SOk K μ S H)(hp:p∈μ.fb):SOk K μ S 6.4:=by
 refine⟨s.nd,s.len,λr a c h1 h2=>(s.cell r a c h1 h2).upd _ (λz=>?_) λvs ds r=>r.chg hp,λa ha=>?_,s.disj⟩
 ·exact s.disj p hp (z ▸ aaA h1)
 ·by_cases z:a=p
  ·subst z;rw[bF];simp
  ·rw[bj z];exact s.fdom a ha
end
noncomputable abbrev ME:=bf->ac->Option (D×ac)
noncomputable abbrev MT:=bf->ac->Option (Bool×ac)
noncomputable abbrev MA:=bf->ac->Option (List D×ac)
inductive se where
 | nx (env:bf) (S:ac)
 | rt (d:D) (S:ac)
 | bk (env:bf) (S:ac)
 | ct (env:bf) (S:ac)
noncomputable abbrev MS:=bf->ac->Option se
def Post(K:aeH)(μ:Fp)(H:Hp)(S':ac)(d:D)(Q:VK):Prop:=∀ v H' μ',Ext μ H μ' H'->SOk K μ' S' H'->Rep K μ' H' v d->Q v H'
def PostT(K:aeH)(μ:Fp)(H:Hp)(S':ac)(b:Bool)(Q:Bool->Hp->Prop):Prop:=∀ H' μ',Ext μ H μ' H'->SOk K μ' S' H'->Q b H'
def PostA(K:aeH)(μ:Fp)(H:Hp)(S':ac)(ds:List D)(Q:List V->Hp->Prop):Prop:=∀ vs H' μ',Ext μ H μ' H'->SOk K μ' S' H'->Reps K μ' H' vs ds->Q vs H'
def PostN(K:aeH)(μ:Fp)(H:Hp)(S':ac)(env':bf)(Q:L2.St->Hp->Prop):Prop:=∀ σ' H' μ',Ext μ H μ' H'->SOk K μ' S' H'->EOk K μ' H' σ' env'->Q σ' H'
def PostS(K:aeH)(μ:Fp)(H:Hp)(o:se)(E:sM):Prop:=match o with
 | .nx env' S'=>PostN K μ H S' env' E.nx
 | .rt d S'=>Post K μ H S' d E.rt
 | .bk env' S'=>PostN K μ H S' env' E.bk
 | .ct env' S'=>PostN K μ H S' env' E.ct
inductive tM(K:aeH)(m:ME)(σ:L2.St)(H:Hp)(Q:VK):Prop
 | mk (μ:Fp) (S:ac) (env:bf) (d:D) (S':ac) (hS:SOk K μ S H) (hE:EOk K μ H σ env) (h:m env S=Y (d,S')) (post:Post K μ H S' d Q)
inductive EL(K:aeH)(m:MT)(σ:L2.St)(H:Hp)(Q:Bool->Hp->Prop):Prop
 | mk (μ:Fp) (S:ac) (env:bf) (b:Bool) (S':ac) (hS:SOk K μ S H) (hE:EOk K μ H σ env) (h:m env S=Y (b,S')) (post:PostT K μ H S' b Q)
inductive tMA(K:aeH)(m:MA)(σ:L2.St)(H:Hp)(Q:List V->Hp->Prop):Prop
 | mk (μ:Fp) (S:ac) (env:bf) (ds:List D) (S':ac) (hS:SOk K μ S H) (hE:EOk K μ H σ env) (h:m env S=Y (ds,S')) (post:PostA K μ H S' ds Q)
inductive YZ(K:aeH)(m:MS)(E:sM)(σ:L2.St)(H:Hp):Prop
 | mk (μ:Fp) (S:ac) (env:bf) (o:se) (hS:SOk K μ S H) (hE:EOk K μ H σ env) (h:m env S=Y o) (post:PostS K μ H o E)
inductive qK(K:aeH)(f:ac->D->D->Option D)(x y:V)(H:Hp)(Q:VK):Prop
 | mk (μ:Fp) (S:ac) (dx dy dz:D) (hS:SOk K μ S H) (h1:Rep K μ H x dx) (h2:Rep K μ H y dy) (h3:f S dx dy=Y dz) (post:Post K μ H S dz Q)
inductive rM1(K:aeH)(f:ac->D->Option D)(x:V)(H:Hp)(Q:VK):Prop
 | mk (μ:Fp) (S:ac) (dx dz:D) (hS:SOk K μ S H) (h1:Rep K μ H x dx) (h3:f S dx=Y dz) (post:Post K μ H S dz Q)
inductive MN(K:aeH)(f:List D->ac->Option (D×ac))(vs:List V)(H:Hp)(Q:VK):Prop
 | mk (μ:Fp) (S:ac) (ds:List D) (d:D) (S':ac) (hS:SOk K μ S H) (h1:Reps K μ H vs ds) (h3:f ds S=Y (d,S')) (post:Post K μ H S' d Q)
def DE(X:Cx)(e:tx)(m:ME):Prop:=PE X e (tM X.K m)
def DT(X:Cx)(e:tx)(m:MT):Prop:=PT X e (EL X.K m)
def DW(X:Cx)(e:tx)(m:MT):Prop:=PW X e (EL X.K m)
def DA(X:Cx)(es:List tx)(m:MA):Prop:=PA X es (tMA X.K m)
def DS(X:Cx)(st:QP)(m:MS):Prop:=PS X st (YZ X.K m)
def AU(X:Cx)(st:List QP)(m:MS):Prop:=PSs X st (YZ X.K m)
section
variable{X:Cx}{K:aeH}{μ μ':Fp}{H H':Hp}{S S':ac}
theorem Post.ext{d:D}(e:Ext μ H μ' H')(p:Post K μ H S' d Q):Post K μ' H' S' d Q:=λv H2 μ2 e2 s r=>p v H2 μ2 (e.trans e2) s r
theorem Post.here{d:D}(p:Post K μ H S d Q)(s:SOk K μ S H)(r:Rep K μ H v d):Q v H:=p v H μ s.ext s r
theorem PE.imp{t':TE}(h:PE X e t)(i:∀ σ H Q,t' σ H Q->t σ H Q):PE X e t':=λpins s σ H Q I q=>h pins s σ H Q I 2.18
theorem PT.imp{t':TT}(h:PT X e t)(i:∀ σ H Q,t' σ H Q->t σ H Q):PT X e t':=λpins s σ H Q I q=>h pins s σ H Q I 2.18
theorem PW.imp{t':TT}(h:PW X e t)(i:∀ σ H Q,t' σ H Q->t σ H Q):PW X e t':=λw pins s σ H Q I q=>h w pins s σ H Q I 2.18
theorem PA.imp{t':TA}(h:PA X e t)(i:∀ σ H Q,t' σ H Q->t σ H Q):PA X e t':=λpos pins s σ H Q I q=>h pos pins s σ H Q I 2.18
theorem PS.imp{t':TS}(h:PS X e t)(i:∀ E σ H,t' E σ H->t E σ H):PS X e t':=λpins s σ H E I q=>h pins s σ H E I (i E σ H q)
theorem PSs.imp{t':TS}(h:PSs X e t)(i:∀ E σ H,t' E σ H->t E σ H):PSs X e t':=λpins s σ H E I q=>h pins s σ H E I (i E σ H q)
theorem OpR.imp{r':R2}(h:OpR X f r)(i:∀ x y H Q,r' x y H Q->r x y H Q):OpR X f r':=λpins s σ H x y v u Q I rx ry q=>h pins s σ H x y v u Q I rx ry (i x y H Q q)
theorem UnR.imp{r':V->Hp->VK->Prop}(h:UnR X f r)(i:∀ x H Q,r' x H Q->r x H Q):UnR X f r':=λpins s σ H x v Q I rx q=>h pins s σ H x v Q I rx (i x H Q q)
theorem CallR.imp{r':List V->Hp->VK->Prop}(h:CallR X f r)(i:∀ x H Q,r' x H Q->r x H Q):CallR X f r':=λpins s σ H x v Q I rx q=>h pins s σ H x v Q I rx (i x H Q q)
theorem IxR.imp{r':R2}(h:IxR X r)(i:∀ x y H Q,r' x y H Q->r x y H Q):IxR X r':=λva sl pins s σ H x y v u Q I rx ry q=>h va sl pins s σ H x y v u Q I rx ry (i x y H Q q)
def af(i:Nat):ME:=λenv S=>(env[i]?).join.bind λd=>Y (d,S)
def mC(d:D):ME:=λz S=>Y (d,S)
theorem ND{α:Type}{o:Option (Option α)}{a:α}(h:o.join=Y a):o=Y (Y a):=by
 cases o with
 | none=>cases h
 | some o=>exact congrArg Y h
theorem qbp{i:Nat}(hN:X.N[i]?=Y x)(hv:Xz X.env.scope x)(hd:(x==("__debug__":Str))=false:=by decide)(hcd:(x==("__classdict__":Str))=false:=by decide):DE X 6.6 (af i):=
 PE.imp (IR hN hv hd hcd) λσ H Q z0=>by
  obtain⟨μ,S,env,d,S',hS,hE,hm,post⟩:=z0;obtain⟨d',h1,h2⟩:=iq hm;cases h2;obtain⟨v,e,r⟩:=hE.get (ND h1);exact⟨v,e,post.here hS r⟩
theorem qx{d:D}(h:PE X e (tC v))(r:∀ μ H,Rep X.K μ H v d):DE X e (mC d):=
 PE.imp h λσ H Q ⟨μ,S,env,d',S',hS,hE,hm,post⟩=>by cases hm;exact post.here hS (r μ H)
theorem qbw{j pos}:DE X (.Constant (.int i) j pos) (mC (.int i)):=qx ZD λz z=>.int i
theorem Yv{b j pos}:DE X (.Constant 2.01 j pos) (mC (.bl b)):=qx pe_bl λz z=>.bl b
theorem qbt{j pos}:DE X (.Constant .none j pos) 1.9:=qx ZC λz z=>.non
theorem qbr{x j pos}:DE X 1.79 (mC (.str x)):=qx Zz λz z=>.str x
structure GC(K:aeH)(mg:Str->Option ce)(x:Str)(d:D):Prop where
 ex:∃ u v,mg x=Y u/\RelV v u/\∀ μ H,Rep K μ H v d
theorem Xa{d:D}(g:GC X.K X.mg x d)(hg:Gl X x:=by rfl)(hd:(x==("__debug__":Str))=false:=by decide):DE X 6.6 (mC d):=by
 obtain⟨u,v,h1,h2,h3⟩:=g.ex;exact qx (Da hg h1 h2 hd) h3
def aB(f:ac->D->D->Option D)(a b:ME):ME:=λenv S=>(a env S).bind λp=>(b env p.2).bind λq=>(f q.2 p.1 q.1).bind λz=>Y (z,q.2)
theorem QL{S S':ac}{d:D}(h:aB f a b env S=Y (d,S')):∃ x S1 y,a env S=Y (x,S1)/\b env S1=Y (y,S')/\f S' x y=Y d:=by
 obtain⟨x,S1,h1,h⟩:=dW h;obtain⟨y,S2,h2,h⟩:=dW h;obtain⟨z,h3,h⟩:=iq h;cases h;exact⟨x,S1,y,h1,h2,h3⟩
theorem CA{mb:ME}(h:tM K (aB f ma mb) σ H Q):tOp (qK K f) (tM K ma) (tM K mb) σ H Q:=by
 obtain⟨μ,S,env,d,S',hS,hE,hm,post⟩:=h;obtain⟨x,S1,y,h1,h2,h3⟩:=QL hm;exact⟨μ,S,env,x,S1,hS,hE,h1,λv H1 μ1 e1 s1 r1=>⟨μ1,S1,env,y,S',s1,hE.mono e1,h2,λw H2 μ2 e2 s2 r2=>⟨μ2,S',x,y,d,s2,r1.mono e2,r2,h3,(post.ext e1).ext e2⟩⟩⟩
section
variable{a b c:tx}{ma mb mc:ME}{pos:Pos}
theorem Ch(ho:OpR X (aeF op) 1.87)(ha:DE X a ma)(hb:DE X b mb):DE X 2.55 (aB f ma mb):=
 PE.imp (pe_op ho ha hb) λz z z h=>CA h
theorem qby(ho:OpR X (ZZ op) 1.87)(ha:DE X a ma)(hb:DE X b mb)(hm:behindInMarks op b=false):DE X 1.27 (aB f ma mb):=
 PE.imp (Ve ho ha hb hm) λz z z h=>CA h
def aI(m:ME):MT:=λenv S=>(m env S).bind λp=>match p.1 with | .bl k=>Y (k,p.2) | _=>L
theorem yF{S S':ac}{k:Bool}(h:aI m env S=Y (k,S')):m env S=Y (.bl k,S'):=by
 obtain⟨x,S1,h1,h⟩:=dW h;cases x<;>first | (cases h;exact h1) | cases h
theorem Rep.bl_inv{k:Bool}(h:Rep K μ H v (.bl k)):v=.bl k:=by cases h;rfl
theorem Rep.int_inv{k:Int}(h:Rep K μ H v (.int k)):v=.int k:=by cases h;rfl
theorem Rep.str_inv{k:Str}(h:Rep K μ H v (.str k)):v=.str k:=by cases h;rfl
theorem qbi(ho:OpR X (ZZ op) 1.87)(ha:DE X a ma)(hb:DE X b mb)(hm:behindInMarks op b=false):DT X 1.27 (aI (aB f ma mb)):=
 PT.imp (UP ho ha hb hm) λσ H Q z0=>by
  obtain⟨μ,S,env,k,S',hS,hE,hm,post⟩:=z0;have h:=yF hm;refine CA ⟨μ,S,env,_,S',hS,hE,h,λv H' μ' e s r=>?_⟩;exact⟨k,r.bl_inv,post H' μ' e s⟩
def dL(f g:ac->D->D->Option D)(a b c:ME):ME:=λenv S=>(a env S).bind λp=>(b env p.2).bind λq=>(f q.2 p.1 q.1).bind λz=>match z with
 | .bl true=>(c env q.2).bind λr=>(g r.2 q.1 r.1).bind λz=>Y (z,r.2)
 | .bl false=>Y (.bl false,q.2)
 | _=>L
theorem Bd(h:tM K (dL f g ma mb mc) σ H Q):Il (qK K f) (qK K g) (tM K ma) (tM K mb) (tM K mc) σ H Q:=by
 obtain⟨μ,S,env,d,S',hS,hE,hm,post⟩:=h;obtain⟨x,S1,h1,hm⟩:=dW hm;obtain⟨y,S2,h2,hm⟩:=dW hm;obtain⟨z,h3,hm⟩:=iq hm;refine⟨μ,S,env,x,S1,hS,hE,h1,λv H1 μ1 e1 s1 r1=>⟨μ1,S1,env,y,S2,s1,hE.mono e1,h2,λw H2 μ2 e2 s2 r2=>⟨μ2,S2,x,y,z,s2,r1.mono e2,r2,h3,λu H3 μ3 e3 s3 r3=>?_⟩⟩⟩;cases z with
 | bl k=>
  refine⟨k,r3.bl_inv,?_⟩;cases k with
  | false=>cases hm;rw[if_neg aeJ];exact post _ H3 μ3 ((e1.trans e2).trans e3) s3 1.6
  | true=>
   obtain⟨t,S4,h4,hm⟩:=dW hm;obtain⟨z,h5,hm⟩:=iq hm;cases hm;rw[aas rfl];exact⟨μ3,S2,env,t,S4,s3,hE.mono ((e1.trans e2).trans e3),h4,λu' H4 μ4 e4 s4 r4=>⟨μ4,_,y,t,_,s4,(r2.mono e3).mono e4,r4,h5,post.ext (((e1.trans e2).trans e3).trans e4)⟩⟩
 | _=>cases hm
theorem Tr(ho:OpR X (ZZ op) 1.87)(ho':OpR X (ZZ op') (qK X.K g))(ha:DE X a ma)(hb:DE X b mb)(hc:DE X c mc)
  (hm:lastMarks [op,op'] [b,c]=false:=by with_unfolding_all rfl):DE X 1.00 (dL f g ma mb mc):=
 PE.imp (Qm ho ho' ha hb hc hm) λz z z h=>Bd h
theorem SM(ho:OpR X (ZZ op) 1.87)(ho':OpR X (ZZ op') (qK X.K g))(ha:DE X a ma)(hb:DE X b mb)(hc:DE X c mc)
  (hm:lastMarks [op,op'] [b,c]=false:=by with_unfolding_all rfl):DT X 1.00 (aI (dL f g ma mb mc)):=
 PT.imp (PX ho ho' ha hb hc hm) λσ H Q z0=>by
  obtain⟨μ,S,env,k,S',hS,hE,hm,post⟩:=z0;have h:=yF hm;refine Bd ⟨μ,S,env,_,S',hS,hE,h,λv H' μ' e s r=>?_⟩;exact⟨k,r.bl_inv,post H' μ' e s⟩
def xO(S:ac):D->Option Bool
 | .non=>Y false
 | .bl b=>Y b
 | .int i=>Y (i != 0)
 | .str y=>if y.length<=UJ then Y ((y.length:Int) != 0) else L
 | .tup xs=>Y (!xs.isEmpty)
 | .lst xs=>Y (!xs.isEmpty)
 | .rol xs=>Y (!xs.isEmpty)
 | .dct ks _=>Y (!ks.isEmpty)
 | .ref r=>match S[r]? with
  | some 2.2=>Y (!xs.isEmpty)
  | some (.dct ks _)=>Y (!ks.isEmpty)
  | _=>L
 | .txt=>L
 | .obj=>L
 | .exc _ _ _=>L
 | .fn _=>L
theorem Reps.isEmpty{vs:List V}{ds:List D}(r:Reps K μ H vs ds):(!ds.isEmpty) = !vs.isEmpty:=by cases r<;>rfl
theorem vV{α β:Type}(f:α->β)(l:List α):(!(l.map f).isEmpty) = !l.isEmpty:=by cases l<;>rfl
theorem xh{d:D}{k:Bool}(s:SOk K μ S H)(r:Rep K μ H x d)(h:xO S d=Y k):OK K x H k:=by
 cases r with
 | non=>cases h;rfl
 | bl b=>cases h;rfl
 | int i=>cases h;rfl
 | str y=>
  simp only[xO] at h;split at h
  ·rename_i hy;cases h;exact⟨hy,rfl⟩
  ·cases h
 | @tup a vs ds h' n r=>cases h;exact .inr (.inl ⟨vs,.inl (.inl h'),r.isEmpty⟩)
 | @ktup a vs ds h' r=>cases h;exact .inr (.inl ⟨vs,.inr h',r.isEmpty⟩)
 | @lst a vs ds h' n r=>cases h;exact .inl ⟨vs,.inl (.inl h'),r.isEmpty⟩
 | @rol a vs ds h' n r=>cases h;exact .inl ⟨vs,.inl h',r.isEmpty⟩
 | @krol a vs ds h' r=>cases h;exact .inl ⟨vs,.inr h',r.isEmpty⟩
 | @dct a kvs ds h' n r=>cases h;exact .inr (.inr ⟨kvs,h',vV _ _⟩)
 | txt x=>cases h
 | obj h' n=>cases h
 | exc h' n h2 n2=>cases h
 | fn a=>cases h
 | @ref a i h'=>
  simp only[xO] at h;cases q:S[i]? with
  | none=>rw[q] at h;cases h
  | some c=>
   rw[q] at h;have ck:=s.cell i a c h' q;cases c with
   | lst xs=>cases h;obtain⟨vs,e,r⟩:=ck;exact .inl ⟨vs,.inl (.inl e),r.isEmpty⟩
   | dct ks xs=>cases h;obtain⟨kvs,e,rfl,r⟩:=ck;exact .inr (.inr ⟨kvs,e,vV _ _⟩)
def dA(m:ME):MT:=λenv S=>(m env S).bind λp=>(xO p.2 p.1).bind λk=>Y (k,p.2)
theorem HA(ha:DE X a ma)(he:∀ whole,isTrue a X.env whole=(do let v <- whole;standAt a.pos;holding [v] (truthy v)):=by intro z;rfl):DT X a (dA ma):=
 PT.imp (PV ha he) λσ H Q z0=>by
  obtain⟨μ,S,env,k,S',hS,hE,hm,post⟩:=z0;obtain⟨x,S1,h1,hm⟩:=dW hm;obtain⟨k',h2,hm⟩:=iq hm;cases hm;exact⟨μ,S,env,x,S1,hS,hE,h1,λv H' μ' e s r=>⟨k,xh s r h2,post H' μ' e s⟩⟩
variable{ta tb tc:MT}{rest:List tx}
def eg(a b:MT):MT:=λenv S=>(a env S).bind λp=>if p.1=true then b env p.2 else Y (false,p.2)
def fI(a b:MT):MT:=λenv S=>(a env S).bind λp=>if p.1=true then Y (true,p.2) else b env p.2
def cS(a:MT):MT:=λenv S=>(a env S).bind λp=>Y (!p.1,p.2)
theorem Ux(h:EL K (eg ta tb) σ H Q):tAnd (EL K ta) (EL K tb) σ H Q:=by
 obtain⟨μ,S,env,k,S',hS,hE,hm,post⟩:=h;obtain⟨x,S1,h1,hm⟩:=dW hm;refine⟨μ,S,env,x,S1,hS,hE,h1,λH1 μ1 e1 s1=>?_⟩;cases x with
 | true=>rw[aas rfl] at hm ⊢;exact⟨μ1,S1,env,k,S',s1,hE.mono e1,hm,λH2 μ2 e2 s2=>post H2 μ2 2.04 s2⟩
 | false=>rw[if_neg aeJ] at hm ⊢;cases hm;exact post H1 μ1 e1 s1
theorem YY(h:EL K (fI ta tb) σ H Q):tOr (EL K ta) (EL K tb) σ H Q:=by
 obtain⟨μ,S,env,k,S',hS,hE,hm,post⟩:=h;obtain⟨x,S1,h1,hm⟩:=dW hm;refine⟨μ,S,env,x,S1,hS,hE,h1,λH1 μ1 e1 s1=>?_⟩;cases x with
 | false=>rw[if_neg aeJ] at hm ⊢;exact⟨μ1,S1,env,k,S',s1,hE.mono e1,hm,λH2 μ2 e2 s2=>post H2 μ2 2.04 s2⟩
 | true=>rw[aas rfl] at hm ⊢;cases hm;exact post H1 μ1 e1 s1
theorem LY(ha:DT X a ta):DW X (.BoolOp .And [a] pos) ta:=UL ha
theorem SJ(ha:DT X a ta):DW X (.BoolOp .Or [a] pos) ta:=Zo ha
theorem SK(ha:DT X a ta)(hb:DW X (.BoolOp .And (b::rest) pos) tb):DW X (.BoolOp .And (a::b::rest) pos) (eg ta tb):=PW.imp (Zp ha hb) λz z z h=>Ux h
theorem Yt(ha:DT X a ta)(hb:DW X (.BoolOp .Or (b::rest) pos) tb):DW X (.BoolOp .Or (a::b::rest) pos) (fI ta tb):=PW.imp (pw_or ha hb) λz z z h=>YY h
theorem WH(h:DW X a ta):DT X a ta:=PW.pt h
theorem qbh(ha:DT X a ta):DT X 1.51 (cS ta):=PT.imp (Zq ha) λσ H Q z0=>by
 obtain⟨μ,S,env,k,S',hS,hE,hm,post⟩:=z0;obtain⟨x,S1,h1,hm⟩:=dW hm;cases hm;exact⟨μ,S,env,x,S1,hS,hE,h1,λH1 μ1 e1 s1=>post H1 μ1 e1 s1⟩
def eh(a b:ME):ME:=λenv S=>(a env S).bind λp=>match p.1 with | .bl true=>b env p.2 | .bl false=>Y (.bl false,p.2) | _=>L
def wQ(a b:ME):ME:=λenv S=>(a env S).bind λp=>match p.1 with | .bl false=>b env p.2 | .bl true=>Y (.bl true,p.2) | _=>L
theorem Tk{op}(h:DE X a ma):DE X (.BoolOp op [a] pos) ma:=ZB h
def jf(a:ME):ME:=λenv S=>(a env S).bind λp=>match p.1 with | .bl k=>Y (.bl (!k),p.2) | _=>L
def qa(t:MT)(a b:ME):ME:=λenv S=>(t env S).bind λp=>if p.1=true then a env p.2 else b env p.2
theorem de_if(hc:DT X c tc)(ha:DE X a ma)(hb:DE X b mb):DE X (.IfExp c a b pos) (qa tc ma mb):=PE.imp (Ql hc ha hb) λσ H Q z0=>by
 obtain⟨μ,S,env,d,S',hS,hE,hm,post⟩:=z0;obtain⟨x,S1,h1,hm⟩:=dW hm;refine⟨μ,S,env,x,S1,hS,hE,h1,λH1 μ1 e1 s1=>?_⟩;cases x with
 | true=>rw[aas rfl] at hm ⊢;exact⟨μ1,S1,env,d,S',s1,hE.mono e1,hm,post.ext e1⟩
 | false=>rw[if_neg aeJ] at hm ⊢;exact⟨μ1,S1,env,d,S',s1,hE.mono e1,hm,post.ext e1⟩
variable{es:List tx}{ms:MA}
def ak:MA:=λz S=>Y ([],S)
def aa(a:ME)(r:MA):MA:=λenv S=>(a env S).bind λp=>(r env p.2).bind λq=>Y (p.1::q.1,q.2)
theorem qbA:DA X [] ak:=PA.imp Qr λσ H Q ⟨μ,S,env,d,S',hS,hE,hm,post⟩=>by cases hm;exact post [] H μ hS.ext hS .nil
theorem Xh(ha:DE X a ma)(hr:DA X es ms)(hs:Wj (a::es) X.env=5.8::Wj es X.env:=by rfl):DA X (a::es) (aa ma ms):=PA.imp (Dc ha hr hs) λσ H Q z0=>by
 obtain⟨μ,S,env,ds,S',hS,hE,hm,post⟩:=z0;obtain⟨x,S1,h1,hm⟩:=dW hm;obtain⟨xs,S2,h2,hm⟩:=dW hm;cases hm;exact⟨μ,S,env,x,S1,hS,hE,h1,λv H1 μ1 e1 s1 r1=>⟨μ1,S1,env,xs,S2,s1,hE.mono e1,h2,λvs H2 μ2 e2 s2 r2=>post (v::vs) H2 μ2 2.04 s2 (.cons (r1.mono e2) r2)⟩⟩
def bb(ms:MA):ME:=λenv S=>(ms env S).bind λp=>if p.1.length<=UJ then Y (.tup p.1,p.2) else L
def eu(ms:MA):ME:=λenv S=>(ms env S).bind λp=>if p.1.length<=UJ then Y (.lst p.1,p.2) else L
def gb(ms:MA):ME:=λenv S=>(ms env S).bind λp=>if p.1.length<=UJ then Y (.ref p.2.length,p.2++[.lst p.1]) else L
theorem Post.tup(post:Post K μ H S (.tup ds) Q)(s:SOk K μ S H)(hp:H p=L)(r:Reps K μ H vs ds):Q (.ref p) (upd H p (.tup vs)):=by
 obtain⟨e,s'⟩:=s.laid (o:=.tup vs) hp;exact post _ _ _ e s' (.tup bF (s.notMem hp) (r.mono e))
theorem Post.lst(post:Post K μ H S (.lst ds) Q)(s:SOk K μ S H)(hp:H p=L)(r:Reps K μ H vs ds):Q (.ref p) (upd H p 1.07):=by
 obtain⟨e,s'⟩:=s.laid (o:=.lst vs) hp;exact post _ _ _ e s' (.lst bF (s.notMem hp) (r.mono e))
theorem Post.lstR(post:Post K μ H (S++[.lst ds]) 1.1 Q)(s:SOk K μ S H)(hp:H p=L)(r:Reps K μ H vs ds):Q (.ref p) (upd H p 1.07):=by
 obtain⟨e,s'⟩:=s.alloc hp r;exact post _ _ _ e s' (.ref (by rw[<- s.len,abo (aao _)];simp))
theorem qbq{k}(h:DA X es ms):DE X 1.19 (bb ms):=PE.imp (Zy h) λσ H Q z0=>by
 obtain⟨μ,S,env,d,S',hS,hE,hm,post⟩:=z0;obtain⟨xs,S1,h1,hm⟩:=dW hm;dsimp only at hm;split at hm
 ·rename_i hl;cases hm;exact⟨μ,S,env,_,_,hS,hE,h1,λvs H1 μ1 e1 s1 r1=>⟨by rw[r1.length];exact hl,λp hp=>(post.ext e1).tup s1 hp r1⟩⟩
 ·cases hm
theorem qbu(h:DA X es ms):DE X (.List es pos) (eu ms):=PE.imp (Qj h) λσ H Q z0=>by
 obtain⟨μ,S,env,d,S',hS,hE,hm,post⟩:=z0;obtain⟨xs,S1,h1,hm⟩:=dW hm;dsimp only at hm;split at hm
 ·rename_i hl;cases hm;exact⟨μ,S,env,_,_,hS,hE,h1,λvs H1 μ1 e1 s1 r1=>⟨by rw[r1.length];exact hl,λp hp=>(post.ext e1).lst s1 hp r1⟩⟩
 ·cases hm
theorem WY(h:DA X es ms):DE X (.List es pos) (gb ms):=PE.imp (Qj h) λσ H Q z0=>by
 obtain⟨μ,S,env,d,S',hS,hE,hm,post⟩:=z0;obtain⟨xs,S1,h1,hm⟩:=dW hm;dsimp only at hm;split at hm
 ·rename_i hl;cases hm;exact⟨μ,S,env,_,_,hS,hE,h1,λvs H1 μ1 e1 s1 r1=>⟨by rw[r1.length];exact hl,λp hp=>(post.ext e1).lstR s1 hp r1⟩⟩
 ·cases hm
theorem Xb:DE X (.Dict [] [] pos) (mC (.dct [] [])):=PE.imp Fx λσ H Q z0=>by
 obtain⟨μ,S,env,d,S',hS,hE,hm,post⟩:=z0;cases hm;intro p hp;obtain⟨e,s'⟩:=hS.laid (o:=.dK []) hp;exact post _ _ _ e s' (.dct (kvs:=[]) bF (hS.notMem hp) .nil)
end
end
mutual
def iK:D->D->Bool
 | .non,.non=>true
 | .bl a,.bl b=>a==b
 | .bl a,.int b=>(if a then 1 else 0)==b
 | .int a,.bl b=>a==(if b then 1 else 0)
 | .int a,.int b=>a==b
 | .str a,.str b=>a==b
 | .tup xs,.tup ys=>eqDs xs ys
 | .lst xs,.lst ys=>eqDs xs ys
 | _,_=>false
def eqDs:List D->List D->Bool
 | [],[]=>true
 | x::xs,y::ys=>iK x y&&eqDs xs ys
 | _,_=>false
end
def cK:Nat->D->Bool
 | _,.non=>true
 | _,.bl _=>true
 | _,.int _=>true
 | _,.str _=>true
 | n+1,.tup xs=>xs.all (cK n)
 | n+1,.lst xs=>xs.all (cK n)
 | _,_=>false
theorem tq:∀ {n m:Nat} {d:D},n<=m->cK n d=true->cK m d=true
 | n,m,.non,_,_=>by simp[cK]
 | n,m,.bl _,_,_=>by simp[cK]
 | n,m,.int _,_,_=>by simp[cK]
 | n,m,.str _,_,_=>by simp[cK]
 | 0,m,.tup _,_,h=>by simp[cK] at h
 | 0,m,.lst _,_,h=>by simp[cK] at h
 | n+1,m+1,.tup xs,hl,h=>by
  simp only[cK,aan] at h ⊢;exact λd hd=>tq (adX hl) (h d hd)
 | n+1,m+1,.lst xs,hl,h=>by
  simp only[cK,aan] at h ⊢;exact λd hd=>tq (adX hl) (h d hd)
 | n+1,0,.tup _,hl,_=>absurd hl 0.0
 | n+1,0,.lst _,hl,_=>absurd hl 0.0
 | n,m,.rol _,_,h=>by cases n<;>simp[cK] at h
 | n,m,.txt,_,h=>by cases n<;>simp[cK] at h
 | n,m,.obj,_,h=>by cases n<;>simp[cK] at h
 | n,m,.exc _ _ _,_,h=>by cases n<;>simp[cK] at h
 | n,m,.fn _,_,h=>by cases n<;>simp[cK] at h
 | n,m,.dct _ _,_,h=>by cases n<;>simp[cK] at h
 | n,m,.ref _,_,h=>by cases n<;>simp[cK] at h
theorem Es:∀ (xs ys:List D),eqDs xs ys=((List.range (min xs.length ys.length)).all (λj=>match xs[j]?,ys[j]? with | some a,Y b=>iK a b | _,_=>true)&&xs.length==ys.length)
 | [],[]=>rfl
 | [],y::ys=>by simp[eqDs]
 | x::xs,[]=>by simp[eqDs]
 | x::xs,y::ys=>by
  have ih:=Es xs ys;rw[eqDs,ih];have hm:min (x::xs).length (y::ys).length=min xs.length ys.length+1:=by simp only[aam];omega
  rw[hm,adY,abe,abY];simp only[adQ,aam,Bool.and_assoc]
  congr 1
  congr 1
  rw[aaH];simp
section
variable{X:Cx}{pins:List (td×Obj)}{σ:L2.St}{H:Hp}{s:gV}{μ:Fp}{A:RQ}
theorem Rep.sqT{K:aeH}(r:Rep K μ H v (.tup ds)):∃ a vs,v=.ref a/\sO K H a vs/\Reps K μ H vs ds:=by
 cases r with
 | tup h n r=>exact⟨_,_,rfl,.inl (.inl h),r⟩
 | ktup h r=>exact⟨_,_,rfl,.inr h,r⟩
theorem Rep.sqL{K:aeH}(r:Rep K μ H v (.lst ds)):∃ a vs,v=.ref a/\H a=Y 1.07/\μ.no a/\Reps K μ H vs ds:=by
 cases r with
 | lst h n r=>exact⟨_,_,rfl,h,n,r⟩
theorem Rep.sqR{K:aeH}(r:Rep K μ H v (.rol ds)):∃ a vs,v=.ref a/\rZ K H a vs/\Reps K μ H vs ds:=by
 cases r with
 | rol h n r=>exact⟨_,_,rfl,.inl h,r⟩
 | krol h r=>exact⟨_,_,rfl,.inr h,r⟩
theorem ntl(I:Inv X pins σ H s)(h:sO X.K H a xs)(h':rZ X.K H a ys):False:=by
 obtain⟨its,z,⟨o,e,c,z⟩,z⟩:=I.tuple h;obtain⟨its',z,⟨o',n',e',c',z⟩,z⟩:=I.list h';rw[e] at e';cases e';rw[c] at c';exact absurd c' 0.4
theorem Rep.non_inv{K:aeH}(h:Rep K μ H v .non):v=.non:=by cases h;rfl
theorem Lb:cK n (.rol xs)=false:=by cases n<;>rfl
theorem Lg:cK n (.dct ks xs)=false:=by cases n<;>rfl
theorem Lc:cK n (.ref r)=false:=by cases n<;>rfl
theorem La:cK n .txt=false:=by cases n<;>rfl
theorem Ld:cK n .obj=false:=by cases n<;>rfl
theorem Le:cK n (.exc C fl i)=false:=by cases n<;>rfl
theorem Qw:cK n (.fn a)=false:=by cases n<;>rfl
theorem xp(h:cK n 5.2=true):∃ m,m+1=n/\∀ x∈xs,cK m x=true:=by
 cases n with
 | zero=>cases h
 | succ n=>exact⟨n,rfl,aan.mp h⟩
theorem xq(h:cK n 2.2=true):∃ m,m+1=n/\∀ x∈xs,cK m x=true:=by
 cases n with
 | zero=>cases h
 | succ n=>exact⟨n,rfl,aan.mp h⟩
inductive Fm(K:aeH)(μ:Fp)(H:Hp):D->V->Prop
 | non:Fm K μ H .non .non
 | bl (b:Bool):Fm K μ H (.bl b) (.bl b)
 | int (i:Int):Fm K μ H (.int i) (.int i)
 | str (x:Str):Fm K μ H (.str x) (.str x)
 | tup {xs:List D} {l:td} {vs:List V} (q:sO K H l vs) (r:Reps K μ H vs xs):Fm K μ H 5.2 (.ref l)
 | lst {xs:List D} {l:td} {vs:List V} (q:rZ K H l vs) (r:Reps K μ H vs xs):Fm K μ H 2.2 (.ref l)
theorem wu{K:aeH}(hx:cK n x=true)(r:Rep K μ H a x):Fm K μ H x a:=by
 cases x with
 | non=>rw[r.non_inv];exact .non
 | bl b=>rw[r.bl_inv];exact .bl b
 | int b=>rw[r.int_inv];exact .int b
 | str b=>rw[r.str_inv];exact .str b
 | tup xs=>obtain⟨l,vs,rfl,q,r⟩:=r.sqT;exact .tup q r
 | lst xs=>obtain⟨l,vs,rfl,q,z,r⟩:=r.sqL;exact .lst 1.17 r
 | rol _=>rw[Lb] at hx;cases hx
 | dct _ _=>rw[Lg] at hx;cases hx
 | ref _=>rw[Lc] at hx;cases hx
 | txt=>rw[La] at hx;cases hx
 | obj=>rw[Ld] at hx;cases hx
 | exc C fl i=>rw[Le] at hx;cases hx
 | fn a=>rw[Qw] at hx;cases hx
theorem Reps.injN{K:aeH}(ih:∀ {v:V} {x y:D},cK n x=true->cK n y=true->Rep K μ H v x->Rep K μ H v y->x=y):∀ {vs:List V} {xs ys:List D},(∀ x∈xs,cK n x=true)->(∀ y∈ys,cK n y=true)->Reps K μ H vs xs->Reps K μ H vs ys->xs=ys:=λ{vs xs ys} hx hy r r'=>
 Reps.ind (Q:=λvs xs=>∀ ys:List D,(∀ x∈xs,cK n x=true)->(∀ y∈ys,cK n y=true)->Reps K μ H vs ys->xs=ys) (λys z z r=>by cases r;rfl) (λh t i ys hx hy r=>by
  cases r with | cons h' t'=>rw[ih (hx _ aac) (hy _ aac) h h',i _ (λx m=>hx x 1.90) (λx m=>hy x 1.90) t']) r ys hx hy r'
theorem GW(I:Inv X pins σ H s)(n:Nat)(ih:∀ m,m+1=n->∀ {v:V} {x y:D},cK m x=true->cK m y=true->Rep X.K μ H v x->Rep X.K μ H v y->x=y)(hx:cK n x=true)(hy:cK n y=true)(rx:Rep X.K μ H v x)(ry:Rep X.K μ H v y):x=y:=by
 have fy:=wu hy ry;cases x with
 | tup xs=>
  obtain⟨a,vs,rfl,q,r⟩:=rx.sqT;obtain⟨m,hm,ox⟩:=xp hx;cases fy with
  | tup q' r'=>
   cases I.tuple_inj q' q;obtain⟨m',hm',oy⟩:=xp hy;have:m'=m:=by omega
   subst this;rw[Reps.injN (ih m' hm) ox oy r r']
  | lst q' _=>exact(ntl I q q').elim
 | lst xs=>
  obtain⟨a,vs,rfl,q,z,r⟩:=rx.sqL;obtain⟨m,hm,ox⟩:=xq hx;cases y with
  | lst ys=>
   obtain⟨m',hm',oy⟩:=xq hy;have:m'=m:=by omega
   subst this;obtain⟨a',vs',e,q',z,r'⟩:=ry.sqL;cases e;rw[q] at q';cases q';rw[Reps.injN (ih m' hm) ox oy r r']
  | _=>cases fy<;>exact(ntl I (by assumption) 1.17).elim
 | non=>rw[rx.non_inv] at fy;cases fy;rfl
 | bl b=>rw[rx.bl_inv] at fy;cases fy;rfl
 | int b=>rw[rx.int_inv] at fy;cases fy;rfl
 | str b=>rw[rx.str_inv] at fy;cases fy;rfl
 | rol _=>rw[Lb] at hx;cases hx
 | dct _ _=>rw[Lg] at hx;cases hx
 | ref _=>rw[Lc] at hx;cases hx
 | txt=>rw[La] at hx;cases hx
 | obj=>rw[Ld] at hx;cases hx
 | exc C fl i=>rw[Le] at hx;cases hx
 | fn a=>rw[Qw] at hx;cases hx
theorem Rep.inj(I:Inv X pins σ H s)(n:Nat):∀ {v:V} {x y:D},cK n x=true->cK n y=true->Rep X.K μ H v x->Rep X.K μ H v y->x=y:=by
 induction n with
 | zero=>exact λhx hy rx ry=>GW I 0 (λm h=>absurd h (Nat.succ_ne_zero m)) hx hy rx ry
 | succ n ih=>exact λhx hy rx ry=>GW I (n+1) (λm h=>by cases h;exact ih) hx hy rx ry
theorem qw:∀ (n:Nat) (x:D),cK n x=true->iK x x=true
 | n,.non,_=>rfl
 | n,.bl _,_=>by simp[iK]
 | n,.int _,_=>by simp[iK]
 | n,.str _,_=>by simp[iK]
 | 0,.tup _,h=>by simp[cK] at h
 | 0,.lst _,h=>by simp[cK] at h
 | n+1,.tup xs,h=>by
  simp only[cK,aan] at h;rw[iK]
  induction xs with
  | nil=>rfl
  | cons x xs ih=>rw[eqDs,qw n x (h x aac),ih λy m=>h y 1.90];rfl
 | n+1,.lst xs,h=>by
  simp only[cK,aan] at h;rw[iK]
  induction xs with
  | nil=>rfl
  | cons x xs ih=>rw[eqDs,qw n x (h x aac),ih λy m=>h y 1.90];rfl
 | n,.rol _,h=>by cases n<;>simp[cK] at h
 | n,.txt,h=>by cases n<;>simp[cK] at h
 | n,.obj,h=>by cases n<;>simp[cK] at h
 | n,.exc _ _ _,h=>by cases n<;>simp[cK] at h
 | n,.fn _,h=>by cases n<;>simp[cK] at h
 | n,.dct _ _,h=>by cases n<;>simp[cK] at h
 | n,.ref _,h=>by cases n<;>simp[cK] at h
open PySem.SeqAt
theorem BK(A:RQ):A.in1.units=A.units+1:=rfl
theorem BJ{ws:List V}{P:ce->ce->Bool->Prop}(r1:Vals vs its)(q1:Reps X.K μ H vs xs)(r2:Vals ws its2)(q2:Reps X.K μ H ws ys)
  (h:∀ (j:Nat) (v w:V) (u u':ce) (x y:D),xs[j]?=Y x->ys[j]?=Y y->Rep X.K μ H v x->Rep X.K μ H w y->RelV v u->RelV w u'->P u u' (iK x y)) :
  ∀ j (h1:j<its.toArray.size) (h2:j<its2.toArray.size),P its.toArray[j] its2.toArray[j] (match xs[j]?,ys[j]? with | some a,Y b=>iK a b | _,_=>true):=λj h1 h2=>by
 have l1:=r1.length;have l2:=r2.length;have m1:=q1.length;have m2:=q2.length;have h1':j<its.length:=by simpa using h1
 have h2':j<its2.length:=by simpa using h2
 have hx:xs[j]?=Y xs[j]:=aae 0.0;have hy:ys[j]?=Y ys[j]:=aae 0.0;obtain⟨v,e1,p1⟩:=q1.get hx;obtain⟨w,e2,p2⟩:=q2.get hy;obtain⟨u,f1,g1⟩:=r1.get e1;obtain⟨u',f2,g2⟩:=r2.get e2;rw[hx,hy];have:=h j v w u u' _ _ hx hy p1 p2 g1 g2;have f1':its.toArray[j]=u:=by simpa[aae h1'] using f1
 have f2':its2.toArray[j]=u':=by simpa[aae h2'] using f2
 rw[f1',f2'];exact this
structure qc0(A:RQ)(s:gV)(u v:ce)(b:Bool):Prop where
 eq:EqAt A s u v b
 rc:RcAt A s u v b
 ne:RcNeAt A s u v (!b)
theorem LW(I:Inv X pins σ H s)(n:Nat)(ih:∀ m,m+1=n->∀ (A:RQ) {a b:V} {u v:ce} {x y:D},A.units+m<cLine->cK m x=true->cK m y=true->Rep X.K μ H a x->Rep X.K μ H b y->RelV a u->RelV b v->qc0 A s u v (iK x y))
  (A:RQ) (hn:A.units+n<cLine) (hx:cK n x=true) (hy:cK n y=true) (rx:Rep X.K μ H a x) (ry:Rep X.K μ H b y) (ra:RelV a u) (rb:RelV b v):qc0 A s u v (iK x y):=by
 have hu:A.units<cLine:=by omega
 cases wu hx rx with
 | non=>
  cases ra;cases wu hy ry with
  | non=>cases rb;exact⟨EqAt.same _,RcAt.none_none,RcNeAt.none_none⟩
  | bl b=>cases rb;exact⟨EqAt.none_bool b,RcAt.none_bool b,RcNeAt.none_bool b⟩
  | int b=>obtain⟨t,rfl⟩:=rb;exact⟨EqAt.none_int b t,RcAt.none_int b t,RcNeAt.none_int b t⟩
  | str b=>obtain⟨t,rfl⟩:=rb;exact⟨EqAt.none_str b t,RcAt.none_str b t,RcNeAt.none_str b t⟩
  | tup q r=>cases rb;obtain⟨its,rv,p,z⟩:=I.tuple q;exact⟨EqAt.none_tuple p hu,RcAt.none_tuple p hu,RcNeAt.none_tuple p hu⟩
  | lst q r=>cases rb;obtain⟨its,rv,p,z⟩:=I.list q;exact⟨EqAt.none_list p.isList hu,RcAt.none_list p.isList hu,RcNeAt.none_list p.isList hu⟩
 | bl a=>
  cases ra;cases wu hy ry with
  | non=>cases rb;exact⟨EqAt.bool_none a,RcAt.bool_none a,RcNeAt.bool_none a⟩
  | bl b=>cases rb;exact⟨EqAt.bool_bool a b,RcAt.bool_bool a b,RcNeAt.bool_bool a b⟩
  | int b=>obtain⟨t,rfl⟩:=rb;exact⟨EqAt.bool_int a b t,RcAt.bool_int a b t,RcNeAt.bool_int a b t⟩
  | str b=>obtain⟨t,rfl⟩:=rb;exact⟨EqAt.bool_str a b t,RcAt.bool_str a b t,RcNeAt.bool_str a b t⟩
  | tup q r=>cases rb;obtain⟨its,rv,p,z⟩:=I.tuple q;exact⟨EqAt.bool_tuple a p hu,RcAt.bool_tuple a p hu,RcNeAt.bool_tuple a p hu⟩
  | lst q r=>cases rb;obtain⟨its,rv,p,z⟩:=I.list q;exact⟨EqAt.bool_list a p.isList hu,RcAt.bool_list a p.isList hu,RcNeAt.bool_list a p.isList hu⟩
 | int a=>
  obtain⟨t',rfl⟩:=ra;cases wu hy ry with
  | non=>cases rb;exact⟨EqAt.int_none a t',RcAt.int_none a t',RcNeAt.int_none a t'⟩
  | bl b=>cases rb;exact⟨EqAt.int_bool a t' b,RcAt.int_bool a t' b,RcNeAt.int_bool a t' b⟩
  | int b=>obtain⟨t,rfl⟩:=rb;exact⟨EqAt.int_int a t' b t,RcAt.int_int a t' b t,RcNeAt.int_int a t' b t⟩
  | str b=>obtain⟨t,rfl⟩:=rb;exact⟨EqAt.int_str a t' b t,RcAt.int_str a t' b t,RcNeAt.int_str a t' b t⟩
  | tup q r=>cases rb;obtain⟨its,rv,p,z⟩:=I.tuple q;exact⟨EqAt.int_tuple a t' p hu,RcAt.int_tuple a t' p hu,RcNeAt.int_tuple a t' p hu⟩
  | lst q r=>cases rb;obtain⟨its,rv,p,z⟩:=I.list q;exact⟨EqAt.int_list a t' p.isList hu,RcAt.int_list a t' p.isList hu,RcNeAt.int_list a t' p.isList hu⟩
 | str a=>
  obtain⟨t',rfl⟩:=ra;cases wu hy ry with
  | non=>cases rb;exact⟨EqAt.str_none a t',RcAt.str_none a t',RcNeAt.str_none a t'⟩
  | bl b=>cases rb;exact⟨EqAt.str_bool a t' b,RcAt.str_bool a t' b,RcNeAt.str_bool a t' b⟩
  | int b=>obtain⟨t,rfl⟩:=rb;exact⟨EqAt.str_int a t' b t,RcAt.str_int a t' b t,RcNeAt.str_int a t' b t⟩
  | str b=>obtain⟨t,rfl⟩:=rb;exact⟨EqAt.str_str a t' b t,RcAt.str_str a t' b t,RcNeAt.str_str a t' b t⟩
  | tup q r=>cases rb;obtain⟨its,rv,p,z⟩:=I.tuple q;exact⟨EqAt.str_tuple a t' p hu,RcAt.str_tuple a t' p hu,RcNeAt.str_tuple a t' p hu⟩
  | lst q r=>cases rb;obtain⟨its,rv,p,z⟩:=I.list q;exact⟨EqAt.str_list a t' p.isList hu,RcAt.str_list a t' p.isList hu,RcNeAt.str_list a t' p.isList hu⟩
 | @tup xs l vs q r=>
  cases ra;obtain⟨its,rv,p,z⟩:=I.tuple q;cases wu hy ry with
  | non=>cases rb;exact⟨EqAt.tuple_none p hu,RcAt.tuple_none p hu,RcNeAt.tuple_none p hu⟩
  | bl b=>cases rb;exact⟨EqAt.tuple_bool b p hu,RcAt.tuple_bool b p hu,RcNeAt.tuple_bool b p hu⟩
  | int b=>obtain⟨t,rfl⟩:=rb;exact⟨EqAt.tuple_int b t p hu,RcAt.tuple_int b t p hu,RcNeAt.tuple_int b t p hu⟩
  | str b=>obtain⟨t,rfl⟩:=rb;exact⟨EqAt.tuple_str b t p hu,RcAt.tuple_str b t p hu,RcNeAt.tuple_str b t p hu⟩
  | @tup ys l' vs' q' r'=>
   cases rb;obtain⟨its',rv',p',z⟩:=I.tuple q';obtain⟨m,hm,ox⟩:=xp hx;obtain⟨m',hm',oy⟩:=xp hy;have:m'=m:=by omega
   subst this
   have all:=BJ (P:=λu u' b=>EqAt A.in1 s u u' b) rv r rv' r' λj v w u u' x y hx' hy' q1 q2 g1 g2=>
    (ih m' hm A.in1 (by rw[BK];omega) (ox x (aaA hx')) (oy y (aaA hy')) q1 q2 g1 g2).eq
   have e0:its.toArray.size=xs.length:=by rw[aak,<- rv.length,r.length]
   have e1:its'.toArray.size=ys.length:=by rw[aak,<- rv'.length,r'.length]
   have key:=RcAt.tuples (A:=A) (s:=s) p p' hu all;have kne:=RcNeAt.tuples (A:=A) (s:=s) p p' hu all;rw[e0,e1,<- Es] at key kne;refine⟨?_,key,kne⟩;by_cases hl:l=l'
   ·subst hl;rw[<- Rep.inj I n hx hy rx ry,qw _ _ hx];exact EqAt.same _
   ·exact EqAt.of_refs hl key
  | lst q' r'=>cases rb;obtain⟨its',rv',p',z⟩:=I.list q';exact⟨EqAt.tuple_list p p'.isList hu,RcAt.tuple_list p p'.isList hu,RcNeAt.tuple_list p p'.isList hu⟩
 | @lst xs l vs q r=>
  cases ra;obtain⟨its,rv,p0,z⟩:=I.list q;have p:=p0.isList;cases wu hy ry with
  | non=>cases rb;exact⟨EqAt.list_none p hu,RcAt.list_none p hu,RcNeAt.list_none p hu⟩
  | bl b=>cases rb;exact⟨EqAt.list_bool b p hu,RcAt.list_bool b p hu,RcNeAt.list_bool b p hu⟩
  | int b=>obtain⟨t,rfl⟩:=rb;exact⟨EqAt.list_int b t p hu,RcAt.list_int b t p hu,RcNeAt.list_int b t p hu⟩
  | str b=>obtain⟨t,rfl⟩:=rb;exact⟨EqAt.list_str b t p hu,RcAt.list_str b t p hu,RcNeAt.list_str b t p hu⟩
  | tup q' r'=>cases rb;obtain⟨its',rv',p',z⟩:=I.tuple q';exact⟨EqAt.list_tuple p p' hu,RcAt.list_tuple p p' hu,RcNeAt.list_tuple p p' hu⟩
  | @lst ys l' vs' q' r'=>
   cases rb;obtain⟨its',rv',p0',z⟩:=I.list q';have p':=p0'.isList;obtain⟨m,hm,ox⟩:=xq hx;obtain⟨m',hm',oy⟩:=xq hy;have:m'=m:=by omega
   subst this
   have all:=BJ (P:=λu u' b=>EqAt A.in1 s u u' b) rv r rv' r' λj v w u u' x y hx' hy' q1 q2 g1 g2=>
    (ih m' hm A.in1 (by rw[BK];omega) (ox x (aaA hx')) (oy y (aaA hy')) q1 q2 g1 g2).eq
   have e0:its.toArray.size=xs.length:=by rw[aak,<- rv.length,r.length]
   have e1:its'.toArray.size=ys.length:=by rw[aak,<- rv'.length,r'.length]
   have key:RcAt A s (.ref l) (.ref l') (eqDs xs ys)/\RcNeAt A s (.ref l) (.ref l') (!eqDs xs ys):=by
    rw[Es];by_cases hlen:xs.length=ys.length
    ·have k1:=RcAt.lists (A:=A) (s:=s) p p' (by rw[e0,e1,hlen]) hu all;have k2:=RcNeAt.lists (A:=A) (s:=s) p p' (by rw[e0,e1,hlen]) hu all;rw[e0] at k1 k2;rw[<- hlen,Nat.min_self,beq_self_eq_true,adg];exact⟨k1,k2⟩
    ·rw[show(xs.length==ys.length)=false from aaX.mpr hlen,abt];exact⟨RcAt.lists_lengths (A:=A) (s:=s) p p' (by rw[e0,e1];exact bne_iff_ne.mpr hlen) hu,RcNeAt.lists_lengths (A:=A) (s:=s) p p' (by rw[e0,e1];exact bne_iff_ne.mpr hlen) hu⟩
   refine⟨?_,key.1,key.2⟩;by_cases hl:l=l'
   ·subst hl;rw[<- Rep.inj I n hx hy rx ry,qw _ _ hx];exact EqAt.same _
   ·exact EqAt.of_refs hl key.1
theorem qbF(I:Inv X pins σ H s)(n:Nat):∀ (A:RQ) {a b:V} {u v:ce} {x y:D},A.units+n<cLine->cK n x=true->cK n y=true->Rep X.K μ H a x->Rep X.K μ H b y->RelV a u->RelV b v->qc0 A s u v (iK x y):=by
 induction n with
 | zero=>exact λA z z z z z z hn hx hy rx ry ra rb=>LW I 0 (λm h=>absurd h (Nat.succ_ne_zero m)) A hn hx hy rx ry ra rb
 | succ n ih=>exact λA z z z z z z hn hx hy rx ry ra rb=>LW I (n+1) (λm h=>by cases h;exact ih) A hn hx hy rx ry ra rb
theorem eqRc(I:Inv X pins σ H s)(n:Nat)(A:RQ)(hn:A.units+n<cLine)(hx:cK n x=true)(hy:cK n y=true)(rx:Rep X.K μ H a x)(ry:Rep X.K μ H b y)(ra:RelV a u)(rb:RelV b v) :
  EqAt A s u v (iK x y)/\RcAt A s u v (iK x y):=⟨(qbF I n A hn hx hy rx ry ra rb).eq,(qbF I n A hn hx hy rx ry ra rb).rc⟩
theorem neRc(I:Inv X pins σ H s)(n:Nat)(A:RQ)(hn:A.units+n<cLine)(hx:cK n x=true)(hy:cK n y=true)(rx:Rep X.K μ H a x)(ry:Rep X.K μ H b y)(ra:RelV a u)(rb:RelV b v) :
  RcNeAt A s u v (!iK x y):=(qbF I n A hn hx hy rx ry ra rb).ne
end
def lm(S:ac):D->Option (List D)
 | .tup xs=>Y xs
 | .lst xs=>Y xs
 | .rol xs=>Y xs
 | .ref r=>match S[r]? with | some 2.2=>Y xs | _=>L
 | _=>L
section
variable{X:Cx}{K:aeH}{μ:Fp}{H:Hp}{S:ac}
theorem mR{d:D}(s:SOk K μ S H)(r:Rep K μ H x d)(h:lm S d=Y ds):∃ a vs,x=.ref a/\(rZ K H a vs\/sO K H a vs)/\Reps K μ H vs ds:=by
 cases r with
 | tup h' n r=>cases h;exact⟨_,_,rfl,.inr (.inl (.inl h')),r⟩
 | ktup h' r=>cases h;exact⟨_,_,rfl,.inr (.inr h'),r⟩
 | lst h' n r=>cases h;exact⟨_,_,rfl,.inl (.inl (.inl h')),r⟩
 | rol h' n r=>cases h;exact⟨_,_,rfl,.inl (.inl h'),r⟩
 | krol h' r=>cases h;exact⟨_,_,rfl,.inl (.inr h'),r⟩
 | @ref a i h'=>
  simp only[lm] at h;cases q:S[i]? with
  | none=>rw[q] at h;cases h
  | some c=>
   rw[q] at h;have ck:=s.cell i a c h' q;cases c with
   | lst xs=>cases h;obtain⟨vs,e,r⟩:=ck;exact⟨_,vs,rfl,.inl (.inl (.inl e)),r⟩
   | dct ks xs=>cases h
 | _=>cases h
theorem Rep.free{d:D}(h:cK n d=true)(r:Rep K μ H v d):Rep K ⟨[],[]⟩ H v d:=
 Rep.to (P:=λd=>∃ n,cK n d=true) (λd ⟨n,h⟩ x hx=>by
  cases n with
  | zero=>cases d<;>first | (cases hx;done) | (simp[cK] at h;done)
  | succ n=>cases d<;>first | (cases hx;done) | exact⟨n,aan.mp h x hx⟩ | (simp[cK] at h;done)) (λh z=>⟨h,by simp,by simp⟩) (λ⟨n,h⟩=>by cases n<;>simp[cK] at h) r ⟨n,h⟩
theorem Reps.free{ds:List D}(h:ds.all (cK n)=true)(r:Reps K μ H vs ds):Reps K ⟨[],[]⟩ H vs ds:=Reps.to (P:=λd=>cK n d=true) (λr h=>Rep.free h r) r (aan.mp h)
def rE(S:ac):D->D
 | .ref r=>match S[r]? with | some 2.2=>.lst xs | _=>.ref r
 | d=>d
theorem xF{d:D}(h:cK n d=true):rE S d=d:=by
 cases d<;>first | rfl | (cases n<;>simp[cK] at h)
theorem ux{d:D}(s:SOk K μ S H)(r:Rep K μ H v d)(h:cK n (rE S d)=true):Rep K ⟨[],[]⟩ H v (rE S d):=by
 by_cases hd:rE S d=d
 ·rw[hd] at h ⊢;exact Rep.free h r
 ·cases r with
  | @ref a i h'=>
   cases q:S[i]? with
   | none=>exact absurd (by simp only[rE,q]) hd
   | some c=>
    cases c with
    | dct ks vs=>exact absurd (by simp only[rE,q]) hd
    | lst xs=>
     have e:rE S (.ref i)=.lst xs:=by simp only[rE,q]
     rw[e] at h ⊢;obtain⟨vs,e,r⟩:=s.cell i a _ h' q;cases n with
     | zero=>simp[cK] at h
     | succ n=>exact .lst e ⟨by simp,by simp⟩ (Reps.free (n:=n) h r)
  | _=>exact absurd rfl hd
def cJ(S:ac)(x y:D):Option D:=if cK 40 (rE S x)=true/\cK 40 (rE S y)=true then Y (.bl (iK (rE S x) (rE S y))) else L
def jx(S:ac)(x y:D):Option D:=if cK 40 (rE S x)=true/\cK 40 (rE S y)=true then Y (.bl (!iK (rE S x) (rE S y))) else L
theorem op_Eq(hu:X.A.units+64<cLine):OpR X (ZZ .Eq) (qK X.K cJ):=by
 intro pins s σ H x y v u Q I rx ry h;obtain⟨μ,S,dx,dy,dz,hS,h1,h2,h3,post⟩:=h;simp only[cJ] at h3;split at h3
 ·rename_i hk;cases h3;exact(eqRc I 40 X.A 0.0 hk.1 hk.2 (ux hS h1 hk.1) (ux hS h2 hk.2) rx ry).2 X.prog X.w X.xe _ ⟨.bl _,H,I,rfl,post.here hS (.bl _)⟩
 ·cases h3
theorem op_Ne(hu:X.A.units+64<cLine):OpR X (ZZ .NotEq) (qK X.K jx):=by
 intro pins s σ H x y v u Q I rx ry h;obtain⟨μ,S,dx,dy,dz,hS,h1,h2,h3,post⟩:=h;simp only[jx] at h3;split at h3
 ·rename_i hk;cases h3;exact neRc I 40 X.A 0.0 hk.1 hk.2 (ux hS h1 hk.1) (ux hS h2 hk.2) rx ry X.prog X.w X.xe _ ⟨.bl _,H,I,rfl,post.here hS (.bl _)⟩
 ·cases h3
open Classical in
def fv(K:aeH)(μ:Fp)(H:Hp)(x:D)(u:ce):Bool:=decide (∃ v d,RelV v u/\Rep K μ H v d/\cK 39 d=true/\iK d x=true)
open Classical in
theorem uv{s:gV}(I:Inv X pins σ H s){d:D}(rv:RelV v u)(r:Rep X.K μ H v d)(ok:cK 39 d=true):fv X.K μ H x u=iK d x:=by
 unfold fv;cases e:iK d x with
 | true=>exact aal ⟨v,d,rv,r,ok,e⟩
 | false=>
  refine aap ?_;rintro⟨v',d',rv',r',ok',e'⟩;cases rv.inj rv';rw[Rep.inj I 39 ok ok' r r'] at e;rw[e] at e';cases e'
theorem oo{s:gV}(I:Inv X pins σ H s):∀ {vs:List V} {us:List ce} {ds:List D},Vals vs us->Reps X.K μ H vs ds->(∀ d∈ds,cK 39 d=true) ->
  us.any (fv X.K μ H x)=ds.any λd=>iK d x
 | _,_,_,.nil,.nil,_=>rfl
 | _,_,_,.cons rv tv,.cons r t,ok=>by
  rw[abr,abr,uv I rv r (ok _ aac),oo I tv t λd m=>ok d 1.90]
theorem gZ{s:gV}(I:Inv X pins σ H s){A:RQ}(hu:A.units+40<cLine)(rx:RelV v u)(rD:Rep X.K μ H v x)(okx:cK 40 x=true) :
  ∀ {vs:List V} {us:List ce} {ds:List D},Vals vs us->Reps X.K μ H vs ds->(∀ d∈ds,cK 39 d=true)->∀ w∈us,SeqAt.EqAt A s w u (fv X.K μ H x w)
 | _,_,_,.nil,.nil,_=>λw hw=>by cases hw
 | _,_,_,.cons rv tv,.cons r t,ok=>λw hw=>by
  rcases aaG.mp hw with rfl | hw
  ·rw[uv I rv r (ok _ aac)];exact(eqRc I 40 A hu (tq 0.1 (ok _ aac)) okx r rD rv rx).1
  ·exact gZ I hu rx rD okx tv t (λd m=>ok d 1.90) w hw
def nv(S:ac)(x y:D):Option D:=(lm S y).bind λds=>if cK 40 x=true/\ds.all (cK 39)=true then Y (.bl (ds.any λd=>iK d x)) else L
def vn(S:ac)(x y:D):Option D:=(lm S y).bind λds=>if cK 40 x=true/\ds.all (cK 39)=true then Y (.bl (!ds.any λd=>iK d x)) else L
theorem op_In(hu:X.A.units+64<cLine):OpR X (ZZ .In) (qK X.K nv):=by
 intro pins s σ H x y v u Q I rx ry h;obtain⟨μ,S,dx,dy,dz,hS,h1,h2,h3,post⟩:=h;obtain⟨ds,e,h3⟩:=iq h3;split at h3
 ·rename_i hk;cases h3;obtain⟨a,vs,rfl,hq,r⟩:=mR hS h2 e;cases ry;have ok:=aan.mp hk.2;rcases hq with hq | hq
  ·obtain⟨its,rv,pl,hz⟩:=I.list hq;refine SeqAt.in_listAt 5.5 pl.isList (λw hw=>gZ I (by show X.A.units+1+40<cLine;omega) rx h1 hk.1 rv r ok w (by simpa using hw)) ⟨.bl _,H,I,rfl,?_⟩;rw[show its.toArray.any 5.5=its.any 5.5 by simp,oo I rv r ok];exact post.here hS (.bl _)
  ·obtain⟨its,rv,pl,hz⟩:=I.tuple hq;refine SeqAt.in_tupleAt 5.5 pl (λw hw=>gZ I (by show X.A.units+1+40<cLine;omega) rx h1 hk.1 rv r ok w (by simpa using hw)) ⟨.bl _,H,I,rfl,?_⟩;rw[show its.toArray.any 5.5=its.any 5.5 by simp,oo I rv r ok];exact post.here hS (.bl _)
 ·cases h3
theorem Qt(hu:X.A.units+64<cLine):OpR X (ZZ .NotIn) (qK X.K vn):=by
 intro pins s σ H x y v u Q I rx ry h;obtain⟨μ,S,dx,dy,dz,hS,h1,h2,h3,post⟩:=h;obtain⟨ds,e,h3⟩:=iq h3;split at h3
 ·rename_i hk;cases h3;obtain⟨a,vs,rfl,hq,r⟩:=mR hS h2 e;cases ry;have ok:=aan.mp hk.2;rcases hq with hq | hq
  ·obtain⟨its,rv,pl,hz⟩:=I.list hq;refine SeqAt.notIn_listAt 5.5 pl.isList (λw hw=>gZ I (by show X.A.units+1+40<cLine;omega) rx h1 hk.1 rv r ok w (by simpa using hw)) ⟨.bl _,H,I,rfl,?_⟩;rw[show its.toArray.any 5.5=its.any 5.5 by simp,oo I rv r ok];exact post.here hS (.bl _)
  ·obtain⟨its,rv,pl,hz⟩:=I.tuple hq;refine SeqAt.notIn_tupleAt 5.5 pl (λw hw=>gZ I (by show X.A.units+1+40<cLine;omega) rx h1 hk.1 rv r ok w (by simpa using hw)) ⟨.bl _,H,I,rfl,?_⟩;rw[show its.toArray.any 5.5=its.any 5.5 by simp,oo I rv r ok];exact post.here hS (.bl _)
 ·cases h3
def tZ:D->D->Bool
 | .non,.non=>true
 | .bl a,.bl b=>a==b
 | _,_=>false
def AM(S:ac)(x y:D):Option D:=match y with | .non=>Y (.bl (tZ x y)) | .bl _=>Y (.bl (tZ x y)) | _=>L
def vq(S:ac)(x y:D):Option D:=match y with | .non=>Y (.bl (!tZ x y)) | .bl _=>Y (.bl (!tZ x y)) | _=>L
theorem RA(h1:Rep K μ H x dx)(h2:Rep K μ H y dy)(rx:RelV x v)(ry:RelV y u)(hy:dy=.non\/∃ b,dy=.bl b):plainIs v u=true/\(v==u)=tZ dx dy:=by
 rcases hy with rfl | ⟨b,rfl⟩
 ·cases h2;cases ry;cases h1<;>first | (cases rx;exact⟨rfl,rfl⟩) | (obtain⟨t,rfl⟩:=rx;exact⟨rfl,rfl⟩)
 ·cases h2;cases ry;cases h1<;>first | (cases rx;exact⟨rfl,rfl⟩) | (obtain⟨t,rfl⟩:=rx;exact⟨rfl,rfl⟩) | (cases rx;rename_i c;refine⟨rfl,?_⟩;cases b<;>cases c<;>rfl)
theorem op_Is:OpR X (ZZ .Is) (qK X.K AM):=by
 intro pins s σ H x y v u Q I rx ry h;obtain⟨μ,S,dx,dy,dz,hS,h1,h2,h3,post⟩:=h
 have hy:(dy=.non\/∃ b,dy=.bl b)/\dz=.bl (tZ dx dy):=by
  cases dy<;>first | (cases h3;exact⟨.inl rfl,rfl⟩) | (cases h3;exact⟨.inr ⟨_,rfl⟩,rfl⟩) | cases h3
 obtain⟨p,e⟩:=RA h1 h2 rx ry hy.1;cases hy.2;exact wpAny_is_plain p ⟨.bl _,H,I,congrArg Value.bool e,post.here hS (.bl _)⟩
theorem Qu:OpR X (ZZ .IsNot) (qK X.K vq):=by
 intro pins s σ H x y v u Q I rx ry h;obtain⟨μ,S,dx,dy,dz,hS,h1,h2,h3,post⟩:=h
 have hy:(dy=.non\/∃ b,dy=.bl b)/\dz=.bl (!tZ dx dy):=by
  cases dy<;>first | (cases h3;exact⟨.inl rfl,rfl⟩) | (cases h3;exact⟨.inr ⟨_,rfl⟩,rfl⟩) | cases h3
 obtain⟨p,e⟩:=RA h1 h2 rx ry hy.1;cases hy.2;exact wpAny_isNot_plain p ⟨.bl _,H,I,congrArg (λb=>Value.bool (!b)) e,post.here hS (.bl _)⟩
end
end M
namespace HT
section
variable{prog:vx}{w:Pn}{A:RQ}{E:ce->gV->Prop}{s:gV}
theorem Xl{ws:List ce}{Q:ce->gV->Prop}(ht:IsTup s.heap t #[])(hb:IsTup s.heap b ws.toArray)(h:Q (.ref b) s):aeG 1.4 A (aeF .Add (.ref t) (.ref b)) Q E s:=by
 obtain⟨⟨cls,dd,data,sl⟩,ho,hc,n,hd⟩:=id ht;obtain⟨⟨cls2,dd2,data2,sl2⟩,ho2,hc2,n2,hd2⟩:=id hb;simp only at hc hd hc2 hd2;subst hc hd hc2 hd2
 exact aed ⟨_,ho,rfl⟩ ⟨_,ho2,rfl⟩ adq adN ads adm (adf _ _)
   (tuple_addW0 t b #[] ws.toArray n n2 dd dd2 sl sl2 rfl) ⟨ho,ho2,h⟩
theorem rC{lo:Option Int}{Q:ce->gV->Prop}(ht:IsTup s.heap t items)(hs:s.heap.IsSliceOf sl vl vu .none)(pl:IsPart vl lo)(pu:IsPart vu hi)
  (hw:gX items.size 0 lo=0/\gX items.size items.size hi=items.size) (h:Q (.ref t) s):aeG 1.4 A (getItem (.ref t) (.ref sl)) Q E s:=by
 obtain⟨os,hos,hcs,hds⟩:=id hs;have hTs:s.TypeIs (.ref sl) "slice":=⟨os,hos,hcs⟩
 unfold getItem
 try with_reducible refine abd ?_
 first | refine aab (aat ?_) | skip
 refine aab (wpAny_sequenceKey ht.typeIs 0.1 ?_)
 refine aab (ack (name:=Str.ofString "__getitem__") ht.typeIs abF
  (acP abF ht.typeIs aeo ?_ (aeu _ _)))
 show aeG _ _ (Builtin.Tuple.tupleItemsOf (.ref t) >>= _) _ _ s;refine aab (tupleItemsOf_ ht ?_);refine aab (aea hTs ?_);rw[aas 0.1];refine aab (nC hs pl pu ?_)
 have hyes:(7.6==0&&(1:Int)==1&&(gX items.size items.size hi - gX items.size 0 lo)==items.size)=true:=by
  rw[hw.1,hw.2];simp
 show aeG _ _ (if (7.6==0&&(1:Int)==1&&(gX items.size items.size hi - gX items.size 0 lo)==items.size)=true then _ else _) _ _ s;rw[aas hyes];unfold Builtin.Tuple.tupleIsExact;refine aab (aab (aea ht.typeIs (aat ?_)));rw[aas 0.1];exact aab (adG (aab 1.54))
end
end HT
namespace M
open L2
section
variable{X:Cx}{K:aeH}{μ μ':Fp}{H H':Hp}{S:ac}
def NS(g:Int->Int->D)(S:ac)(x y:D):Option D:=match x,y with | .int i,.int j=>Y (g i j) | _,_=>L
def Hy(C:Int->Int->Bool)(g:Int->Int->D)(S:ac)(x y:D):Option D:=match x,y with | .int i,.int j=>if C i j=true then Y (g i j) else L | _,_=>L
theorem sZ{g':Int->Int->D}(h:OpR X f (UI g))(hg:∀ i j μ H,Rep X.K μ H (g i j) (g' i j)):OpR X f (qK X.K (NS g')):=
 OpR.imp h λx y H Q z0=>by
  obtain⟨μ,S,dx,dy,dz,hS,h1,h2,h3,post⟩:=z0;cases dx<;>first | (cases h3;done) | (cases dy<;>first | cases h3 | skip)
  exact⟨_,_,h1.int_inv,h2.int_inv,post.here hS (hg _ _ _ _)⟩
theorem De{C':Int->Int->Bool}{g':Int->Int->D}(h:OpR X f (rI C g))(hC:∀ i j,C' i j=true->C i j)(hg:∀ i j μ H,Rep X.K μ H (g i j) (g' i j)):OpR X f (qK X.K (Hy C' g')):=
 OpR.imp h λx y H Q z0=>by
  obtain⟨μ,S,dx,dy,dz,hS,h1,h2,h3,post⟩:=z0;cases dx<;>first | (cases h3;done) | (cases dy<;>first | cases h3 | skip)
  simp only[Hy] at h3;split at h3
  ·rename_i hc;cases h3;exact⟨_,_,h1.int_inv,h2.int_inv,hC _ _ hc,post.here hS (hg _ _ _ _)⟩
  ·cases h3
def pz:=NS λi j=>.int (i - j)
def Uf:=NS λi j=>.bl (decide (i<j))
def Ug:=NS λi j=>.bl (decide (i<=j))
def Uh:=NS λi j=>.bl (decide (j<i))
def fGe:=NS λi j=>.bl (decide (j<=i))
theorem ZM:OpR X (aeF .Sub) (qK X.K pz):=sZ ZH λz z z z=>.int _
theorem op_Lt:OpR X (ZZ .Lt) (qK X.K Uf):=sZ op_lt λz z z z=>.bl _
theorem op_Le:OpR X (ZZ .LtE) (qK X.K Ug):=sZ op_le λz z z z=>.bl _
theorem op_Gt:OpR X (ZZ .Gt) (qK X.K Uh):=sZ op_gt λz z z z=>.bl _
theorem op_Ge:OpR X (ZZ .GtE) (qK X.K fGe):=sZ op_ge λz z z z=>.bl _
def kR:=Hy (λz j=>decide (0<j)) λi j=>.int (i%j)
def NT:=Hy (λz j=>decide (0<j)&&decide (j<1073741824)) λi j=>.int (i / j)
def AL:=Hy (λi j=>decide (0<=j)&&decide (j<=1000000)&&decide (i.natAbs<2^64)) λi j=>.int (i^j.toNat)
theorem ZP:OpR X (aeF .Mod) (qK X.K kR):=De ZK (λz z h=>aaU h) λz z z z=>.int _
theorem ZQ:OpR X (aeF .FloorDiv) (qK X.K NT):=De Vo (λz z h=>by simpa[CDiv] using h) λz z z z=>.int _
theorem ZN:OpR X (aeF .Pow) (qK X.K AL):=De ZJ (λi j h=>by
 simp only[aad,aaV] at h
 exact⟨h.1.1,h.1.2,h.2⟩) λz z z z=>.int _
def tz(i j:Int):Bool:=decide (i.natAbs<18446744073709551616)||decide (j.natAbs<18446744073709551616)||(decide (i.natAbs<2^4000)&&decide (j.natAbs<2^4000))
theorem Vx(h:tz i j=true):IntMulOk i j:=by
 unfold tz at h;simp only[acE,aad,aaV] at h;rcases h with (h | h) | h
 ·exact .of_left (adJ (k:=64) 0.0)
 ·exact .of_right (adJ (k:=64) 0.0)
 ·exact .of_bits (aaF (adJ (k:=4000) h.1) 0.1) (aaF (adJ (k:=4000) h.2) 0.1)
theorem Vn:OpR X 2.49 (rI (λi j=>tz i j=true) λi j=>.int (i*j)):=opI λz z z z z z z hc q=>mul_int q (Vx hc)
def qaZ(S:ac)(x y:D):Option D:=match x,y with
 | .int i,.int j=>if tz i j=true then Y (.int (i*j)) else L
 | _,_=>L
theorem ZO:OpR X 2.49 (qK X.K qaZ):=OpR.imp Vn λx y H Q z0=>by
 obtain⟨μ,S,dx,dy,dz,hS,h1,h2,h3,post⟩:=z0;cases dx<;>first | (cases h3;done) | (cases dy<;>first | cases h3 | skip)
 simp only[qaZ] at h3;split at h3
 ·rename_i hc;cases h3;exact⟨_,_,h1.int_inv,h2.int_inv,hc,post.here hS (.int _)⟩
 ·cases h3
def Sf(S:ac)(x y:D):Option D:=match x,y with
 | .int i,.int j=>Y (.int (i+j))
 | .str i,.str j=>if i.length+j.length<=UJ then Y (.str (i++j)) else L
 | .tup xs,.tup ys=>if xs.length+ys.length<=UJ then Y (.tup (xs++ys)) else L
 | .lst xs,.lst ys=>if xs.length+ys.length<=UJ then Y (.lst (xs++ys)) else L
 | _,_=>L
theorem ZR:OpR X 2.29 (qK X.K Sf):=by
 intro pins s σ H x y v u Q I rx ry h;obtain⟨μ,S,dx,dy,dz,hS,h1,h2,h3,post⟩:=h;cases dx<;>first | (cases h3;done) | (cases dy<;>first | cases h3 | skip)
 case int.int i j=>exact ZL pins s σ H x y v u Q I rx ry ⟨_,_,h1.int_inv,h2.int_inv,post.here hS (.int _)⟩
 case str.str i j=>
  simp only[Sf] at h3;split at h3
  ·rename_i hl;cases h3;exact IS pins s σ H x y v u Q I rx ry ⟨_,_,h1.str_inv,h2.str_inv,hl,post.here hS (.str _)⟩
  ·cases h3
 case tup.tup xs ys=>
  simp only[Sf] at h3;split at h3
  ·rename_i hl;cases h3;have h2':=h2;have h1':=h1;obtain⟨a,vs,rfl,q1,r1⟩:=h1.sqT;obtain⟨b,ws,rfl,q2,r2⟩:=h2.sqT;have e1:=r1.length;have e2:=r2.length;by_cases hv:vs=[]
   ·subst hv;have hx:xs=[]:=abv (by simpa using e1.symm);subst hx;cases rx;cases ry;obtain⟨its,rv,p1,z⟩:=I.tuple q1;obtain⟨its2,rv2,p2,z⟩:=I.tuple q2;have:its=[]:=rv.nil_iff.mpr rfl;subst this;exact HT.Xl p1 p2 ⟨.ref b,H,I,rfl,post.here hS h2'⟩
   ·refine Vp pins s σ H _ _ v u Q I rx ry ⟨a,b,vs,ws,rfl,rfl,q1,q2,hv,by omega,λhw=>?_,λhw p hp=>post.tup hS hp (r1.append r2)⟩;subst hw;have hy:ys=[]:=abv (by simpa using e2.symm);subst hy;rw[aaJ] at post;exact post.here hS h1'
  ·cases h3
 case lst.lst xs ys=>
  simp only[Sf] at h3;split at h3
  ·rename_i hl;cases h3;obtain⟨a,vs,rfl,q1,n1,r1⟩:=h1.sqL;obtain⟨b,ws,rfl,q2,n2,r2⟩:=h2.sqL;have e1:=r1.length;have e2:=r2.length;exact Qs pins s σ H _ _ v u Q I rx ry ⟨a,b,vs,ws,rfl,rfl,q1,q2,by omega,λp hp=>post.lst hS hp (r1.append r2)⟩
  ·cases h3
theorem YR:UnR X (unaryOp .USub) (rM1 X.K λz x=>match x with | .int i=>Y (.int (-i)) | _=>L):=UnR.imp YQ λx H Q z0=>by
 obtain⟨μ,S,dx,dz,hS,h1,h3,post⟩:=z0;cases dx<;>first | cases h3 | skip
 exact⟨_,h1.int_inv,post.here hS (.int _)⟩
def AH(f:ac->D->Option D)(a:ME):ME:=λenv S=>(a env S).bind λp=>(f p.2 p.1).bind λz=>Y (z,p.2)
theorem de_un(ho:UnR X (unaryOp op) (rM1 X.K f))(ha:DE X a ma):DE X 2.53 (AH f ma):=
 PE.imp (pe_un ho ha) λσ H Q z0=>by
  obtain⟨μ,S,env,d,S',hS,hE,hm,post⟩:=z0;obtain⟨x,S1,h1,hm⟩:=dW hm;obtain⟨z,h2,hm⟩:=iq hm;cases hm;exact⟨μ,S,env,x,_,hS,hE,h1,λv H1 μ1 e1 s1 r1=>⟨μ1,_,x,_,s1,r1,h2,post.ext e1⟩⟩
theorem Xw{d:D}(r:Reps K μ H vs ds)(h:qD ds i=Y d):∃ v,qD vs i=Y v/\Rep K μ H v d:=by
 unfold qD at h ⊢;rw[r.length];obtain⟨j,h1,h2⟩:=iq h;obtain⟨v,h3,h4⟩:=r.get h2;exact⟨v,by rw[h1];exact h3,h4⟩
def fIx(S:ac)(x y:D):Option D:=match y with | .int i=>(lm S x).bind λxs=>qD xs i | _=>L
theorem ix_D:IxR X (qK X.K fIx):=IxR.imp (ix_list.or qaI) λx y H Q z0=>by
 obtain⟨μ,S,dx,dy,dz,hS,h1,h2,h3,post⟩:=z0;cases dy<;>first | cases h3 | skip
 rename_i i;obtain⟨xs,e,h3⟩:=iq h3;obtain⟨a,vs,rfl,hq,r⟩:=mR hS h1 e;obtain⟨v,h4,h5⟩:=Xw r h3;rcases hq with hq | hq
 ·exact .inl ⟨a,vs,i,v,rfl,h2.int_inv,hq,h4,post.here hS h5⟩
 ·exact .inr ⟨a,vs,i,v,rfl,h2.int_inv,hq,h4,post.here hS h5⟩
def iC{α:Type}(xs:List α)(lo hi:Option Int):List α:=(xs.drop 1.42).take (HT.gX xs.length xs.length hi - HT.gX xs.length 0 lo)
noncomputable abbrev MO:=bf->ac->Option (Option Int×ac)
def bD:MO:=λz S=>Y (L,S)
def bS(m:ME):MO:=λenv S=>(m env S).bind λp=>match p.1 with | .int i=>Y (Y i,p.2) | _=>L
inductive tMO(K:aeH)(m:MO)(σ:L2.St)(H:Hp)(Q:Option Int->Hp->Prop):Prop
 | mk (μ:Fp) (S:ac) (env:bf) (o:Option Int) (S':ac) (hS:SOk K μ S H) (hE:EOk K μ H σ env) (h:m env S=Y (o,S')) (post:∀ H' μ',Ext μ H μ' H'->SOk K μ' S' H'->Q o H')
def DO(X:Cx)(e:Option tx)(m:MO):Prop:=PO X e (tMO X.K m)
theorem PO.imp{t':TO}(h:PO X e t)(i:∀ σ H Q,t' σ H Q->t σ H Q):PO X e t':=λpins s σ H Q I q=>h pins s σ H Q I 2.18
theorem WR:DO X L bD:=PO.imp UX λσ H Q ⟨μ,S,env,d,S',hS,hE,hm,post⟩=>by cases hm;exact post H μ hS.ext hS
theorem WQ(h:DE X e m):DO X (Y e) (bS m):=PO.imp (UW h) λσ H Q z0=>by
 obtain⟨μ,S,env,d,S',hS,hE,hm,post⟩:=z0;obtain⟨x,S1,h1,hm⟩:=dW hm;cases x<;>first | cases hm | skip
 exact⟨μ,S,env,_,_,hS,hE,h1,λv H1 μ1 e1 s1 r1=>⟨_,r1.int_inv,post H1 μ1 e1 s1⟩⟩
def bw(a:ME)(lo hi:MO):ME:=λenv S=>(a env S).bind λp=>(lo env p.2).bind λl=>(hi env l.2).bind λh=>match p.1 with
 | .tup xs=>Y (.tup (iC xs l.1 h.1),h.2)
 | .lst xs=>Y 1.78
 | .rol xs=>Y 1.78
 | .ref r=>match h.2[r]? with | some 2.2=>Y 1.78 | _=>L
 | _=>L
theorem xG{lo:Option Int}(r:Reps K μ H vs ds):Reps K μ H (HJ vs lo hi) (iC ds lo hi):=by
 unfold HJ iC;rw[r.length];exact(r.drop _).take _
theorem UB:SlR X (λx lo hi H Q=>∃ a xs,x=.ref a/\sO X.K H a xs/\(HT.gX xs.length 0 lo=0/\HT.gX xs.length xs.length hi=xs.length)/\Q (.ref a) H):=by
 intro pins s σ H x v vl vu lo hi sl Q I rx hs pl pu h;obtain⟨a,xs,rfl,hx,hw,q⟩:=h;cases rx;obtain⟨its,r,ht,hz⟩:=I.tuple hx;have hlen:its.toArray.size=xs.length:=by rw[aak];exact r.length.symm
 refine⟨"tuple",_,PyProof.Rows.slot_tuple_getitem.lookup,ht.typeIs,?_⟩;exact HT.rC ht hs pl pu (by rw[hlen];exact hw) ⟨.ref a,H,I,rfl,q⟩
theorem Tj{lo:Option tx}(ha:DE X a ma)(hl:DO X lo ml)(hh:DO X hi mh):DE X (.Subscript a 2.54 pos) (bw ma ml mh):=
 PE.imp (Qi (SlR.or UB (SlR.or Ze UC)) ha hl hh) λσ H Q z0=>by
  obtain⟨μ,S,env,d,S',hS,hE,hm,post⟩:=z0;obtain⟨x,S1,h1,hm⟩:=dW hm;obtain⟨l,S2,h2,hm⟩:=dW hm;obtain⟨h,S3,h3,hm⟩:=dW hm;refine⟨μ,S,env,x,S1,hS,hE,h1,λv H1 μ1 e1 s1 r1=>⟨μ1,S1,env,l,S2,s1,hE.mono e1,h2,λH2 μ2 e2 s2=>⟨μ2,S2,env,h,S3,s2,(hE.mono e1).mono e2,h3,λH3 μ3 e3 s3=>?_⟩⟩⟩;have r3:=(r1.mono e2).mono e3;have e:=(e1.trans e2).trans e3;clear h1 h2 h3 r1;cases x with
  | tup xs=>
   cases hm;have r3':=r3;obtain⟨a,vs,rfl,q1,r⟩:=r3.sqT;by_cases hw:HT.gX vs.length 0 l=0/\HT.gX vs.length vs.length h=vs.length
   ·refine .inl ⟨a,vs,rfl,q1,hw,?_⟩;have:iC xs l h=xs:=by unfold iC;rw[<- r.length,hw.1,hw.2];simp[r.length]
    rw[this] at post;exact post _ H3 μ3 e s3 r3'
   ·exact .inr (.inl ⟨a,vs,rfl,q1,hw,λp hp=>(post.ext e).tup s3 hp (xG r)⟩)
  | lst xs=>
   cases hm;obtain⟨a,vs,rfl,q1,n1,r⟩:=r3.sqL;exact .inr (.inr ⟨a,vs,rfl,.inl (.inl q1),λp hp=>(post.ext e).lst s3 hp (xG r)⟩)
  | rol xs=>
   cases hm;obtain⟨a,vs,rfl,q1,r⟩:=r3.sqR;exact .inr (.inr ⟨a,vs,rfl,q1,λp hp=>(post.ext e).lst s3 hp (xG r)⟩)
  | ref r=>
   dsimp only at hm;split at hm
   ·rename_i xs q;cases hm;cases r3 with
    | @ref a _ ha=>
     obtain⟨vs,hv,rv⟩:=s3.cell r a _ ha q;exact .inr (.inr ⟨a,vs,rfl,.inl (.inl hv),λp hp=>(post.ext e).lst s3 hp (xG rv)⟩)
   ·cases hm
  | _=>cases hm
end
section
variable{X:Cx}{K:aeH}{μ μ':Fp}{H H':Hp}{S:ac}
def bG(f:List D->ac->Option (D×ac))(ms:MA):ME:=λenv S=>(ms env S).bind λp=>f p.1 p.2
theorem Pi(h:tM K (bG f ms) σ H Q):tCB (MN K f) (tMA K ms) σ H Q:=by
 obtain⟨μ,S,env,d,S',hS,hE,hm,post⟩:=h;obtain⟨xs,S1,h1,hm⟩:=dW hm;exact⟨μ,S,env,xs,S1,hS,hE,h1,λvs H1 μ1 e1 s1 r1=>⟨μ1,S1,xs,d,S',s1,r1,hm,post.ext e1⟩⟩
section
variable{x:Str}{p pos:Pos}{e:tx}{es:List tx}{ms:MA}{id T:String}{f:List D->ac->Option (D×ac)}
theorem qy(hc:CallR X 6.1 (MN X.K f))(hm:X.mg x=L)(hv:bootBuiltins x=Y 6.1)(ha:DA X (e::es) ms)(hg:Gl X x:=by rfl)(hn:x≠"__name__":=by decide)(hdb:(x==("__debug__":Str))=false:=by decide)
  (he:Wj (e::es) X.env=1.2::Wj es X.env:=by rfl) (hpl:(backTo pos 2.1).any (·.1)=false:=by rfl):DE X (.Call 7.2 (e::es) [] pos) (bG f ms):=
 PE.imp (Fz hc hg hm hv ha hn hdb he hpl) λz z z h=>Pi h
theorem qZ(hc:CallR X 1.95 (MN X.K f))(hm:X.mg x=L)(hv:bootBuiltins x=Y 1.95)(ha:DA X (e::es) ms)(hg:Gl X x:=by rfl)(hn:x≠"__name__":=by decide)(hdb:(x==("__debug__":Str))=false:=by decide)
  (he:Wj (e::es) X.env=1.2::Wj es X.env:=by rfl) (hpl:(backTo pos 2.1).any (·.1)=false:=by rfl):DE X (.Call 7.2 (e::es) [] pos) (bG f ms):=
 PE.imp (MV hc hg hm hv ha hn hdb he hpl) λz z z h=>Pi h
end
theorem Reps.one{d:D}(r:Reps K μ H vs [d]):∃ v,vs=[v]/\Rep K μ H v d:=by
 cases r with
 | cons h t=>cases t;exact⟨_,rfl,h⟩
theorem Reps.two{d e:D}(r:Reps K μ H vs [d,e]):∃ v w,vs=[v,w]/\Rep K μ H v d/\Rep K μ H w e:=by
 cases r with
 | cons h t=>cases t with | cons h' t=>cases t;exact⟨_,_,rfl,h,h'⟩
def aS(f:ac->List D->Option D):List D->ac->Option (D×ac):=λds S=>(f S ds).bind λd=>Y (d,S)
theorem eN{S S':ac}{d:D}(h:aS f ds S=Y (d,S')):S'=S/\f S ds=Y d:=by
 obtain⟨z,h1,h⟩:=iq h;cases h;exact⟨rfl,h1⟩
def fJ(S:ac):List D->Option D
 | [.str z]=>if z.length<=UJ then Y (.int z.length) else L
 | [d]=>(lm S d).bind λxs=>Y (.int xs.length)
 | _=>L
theorem TK:CallR X (.builtin "len") (MN X.K (aS fJ)):=CallR.imp (call_len_seq.or ED) λxs H Q z0=>by
 obtain⟨μ,S,ds,d,S',hS,hr,hm,post⟩:=z0;obtain⟨rfl,hm⟩:=eN hm;cases ds with
 | nil=>cases hm
 | cons x r=>
  cases r with
  | cons _ _=>simp[fJ] at hm
  | nil=>
   obtain⟨v,rfl,r⟩:=hr.one;cases x with
   | str z=>
    simp only[fJ] at hm;split at hm
    ·rename_i hl;cases hm;exact .inr ⟨z,by rw[r.str_inv],hl,post.here hS (.int _)⟩
    ·cases hm
   | tup xs=>
    cases hm;obtain⟨a,vs,rfl,hq,r⟩:=mR hS r rfl;exact .inl ⟨a,vs,rfl,hq,by rw[r.length];exact post.here hS (.int _)⟩
   | lst xs=>
    cases hm;obtain⟨a,vs,rfl,hq,r⟩:=mR hS r rfl;exact .inl ⟨a,vs,rfl,hq,by rw[r.length];exact post.here hS (.int _)⟩
   | rol xs=>
    cases hm;obtain⟨a,vs,rfl,hq,r⟩:=mR hS r rfl;exact .inl ⟨a,vs,rfl,hq,by rw[r.length];exact post.here hS (.int _)⟩
   | ref i=>
    obtain⟨xs,h1,hm⟩:=iq hm;cases hm;obtain⟨a,vs,rfl,hq,r⟩:=mR hS r h1;exact .inl ⟨a,vs,rfl,hq,by rw[r.length];exact post.here hS (.int _)⟩
   | _=>cases hm
def oh(S:ac):List D->Option D
 | [.int i]=>Y (.int i)
 | [.bl k]=>Y (.int (if k then 1 else 0))
 | _=>L
theorem TL:CallR X (.type "int") (MN X.K (aS oh)):=CallR.imp OD λxs H Q z0=>by
 obtain⟨μ,S,ds,d,S',hS,hr,hm,post⟩:=z0;obtain⟨rfl,hm⟩:=eN hm;cases ds with
 | nil=>cases hm
 | cons x r=>
  cases r with
  | cons _ _=>simp[oh] at hm
  | nil=>
   obtain⟨v,rfl,r⟩:=hr.one;cases x with
   | int i=>cases hm;exact .inl ⟨i,by rw[r.int_inv],post.here hS (.int _)⟩
   | bl k=>cases hm;exact .inr ⟨k,by rw[r.bl_inv],post.here hS (.int _)⟩
   | _=>cases hm
def Ym(S:ac):List D->Option D
 | [.int i,.int j]=>Y (.int (if j>i then j else i))
 | _=>L
def LM(S:ac):List D->Option D
 | [.int i,.int j]=>Y (.int (if j<i then j else i))
 | _=>L
theorem Yf{ds:List D}{f:Int->Int->D}{d:D}(h:(match ds with | [.int i,.int j]=>Y (f i j) | _=>L)=Y d):∃ i j,ds=[.int i,.int j]/\d=f i j:=by
 split at h
 ·cases h;exact⟨_,_,rfl,rfl⟩
 ·cases h
theorem OG(hc:X.calm=true):CallR X (.builtin "max") (MN X.K (aS Ym)):=CallR.imp (OC hc) λxs H Q z0=>by
 obtain⟨μ,S,ds,d,S',hS,hr,hm,post⟩:=z0;obtain⟨rfl,hm⟩:=eN hm;obtain⟨i,j,rfl,rfl⟩:=Yf (f:=λi j=>.int (if j>i then j else i)) hm;obtain⟨v,w,rfl,r1,r2⟩:=hr.two;exact⟨i,j,by rw[r1.int_inv,r2.int_inv],post.here hS (.int _)⟩
theorem OE(hc:X.calm=true):CallR X (.builtin "min") (MN X.K (aS LM)):=CallR.imp (OA hc) λxs H Q z0=>by
 obtain⟨μ,S,ds,d,S',hS,hr,hm,post⟩:=z0;obtain⟨rfl,hm⟩:=eN hm;obtain⟨i,j,rfl,rfl⟩:=Yf (f:=λi j=>.int (if j<i then j else i)) hm;obtain⟨v,w,rfl,r1,r2⟩:=hr.two;exact⟨i,j,by rw[r1.int_inv,r2.int_inv],post.here hS (.int _)⟩
def du(c:List D->D)(S:ac):List D->Option D
 | [d]=>(lm S d).bind λxs=>Y (c xs)
 | _=>L
theorem zt{S:ac}{d:D}(h:du c S ds=Y d):∃ x xs,ds=[x]/\lm S x=Y xs/\d=c xs:=by
 match ds,h with
 | [x],h=>
  obtain⟨xs,h1,h⟩:=iq h;cases h;exact⟨x,xs,rfl,h1,rfl⟩
 | [],h=>cases h
 | _::_::_,h=>cases h
theorem OH:CallR X (.type "list") (MN X.K 1.83):=CallR.imp EC λxs H Q z0=>by
 obtain⟨μ,S,ds,d,S',hS,hr,hm,post⟩:=z0;obtain⟨rfl,hm⟩:=eN hm;obtain⟨x,ys,rfl,h1,rfl⟩:=zt hm;obtain⟨v,rfl,r⟩:=hr.one;obtain⟨a,vs,rfl,hq,r⟩:=mR hS r h1;exact⟨a,vs,rfl,hq,λl hl=>post.lst hS hl r⟩
theorem KB:CallR X (.type "tuple") (MN X.K 3.2):=CallR.imp AT λxs H Q z0=>by
 obtain⟨μ,S,ds,d,S',hS,hr,hm,post⟩:=z0;obtain⟨rfl,hm⟩:=eN hm;obtain⟨x,ys,rfl,h1,rfl⟩:=zt hm;obtain⟨v,rfl,r⟩:=hr.one;cases x with
 | tup zs=>
  cases h1;have r':=r;obtain⟨a,vs,rfl,q,r⟩:=r.sqT;exact⟨a,vs,rfl,.inr ⟨q,post.here hS r'⟩⟩
 | lst zs=>
  cases h1;obtain⟨a,vs,rfl,q,n,r⟩:=r.sqL;exact⟨a,vs,rfl,.inl ⟨.inl (.inl q),λl hl=>post.tup hS hl r⟩⟩
 | rol zs=>
  cases h1;obtain⟨a,vs,rfl,q,r⟩:=r.sqR;exact⟨a,vs,rfl,.inl ⟨q,λl hl=>post.tup hS hl r⟩⟩
 | ref i=>
  simp only[lm] at h1;cases r with
  | @ref a _ h'=>
   cases q:S'[i]? with
   | none=>rw[q] at h1;cases h1
   | some c=>
    rw[q] at h1;have ck:=hS.cell i a c h' q;cases c with
    | lst xs=>cases h1;obtain⟨vs,e,r⟩:=ck;exact⟨a,vs,rfl,.inl ⟨.inl (.inl e),λl hl=>post.tup hS hl r⟩⟩
    | dct ks xs=>cases h1
 | _=>cases h1
def jz:List D->Option (List Bool)
 | []=>Y []
 | .bl b::r=>(jz r).bind λbs=>Y (b::bs)
 | _=>L
def sH(S:ac):List D->Option D
 | [.lst xs]=>(jz xs).bind λbs=>Y (.bl (bs.all id))
 | _=>L
def Ka(S:ac):List D->Option D
 | [.lst xs]=>(jz xs).bind λbs=>Y (.bl (bs.any id))
 | _=>L
theorem wA:∀ {vs:List V} {ds:List D} {us:List ce} {bs:List Bool},Reps K μ H vs ds->Vals vs us->jz ds=Y bs->LSm.BoolsAre us bs:=λ{vs ds us bs} r v h=>
 Reps.ind (Q:=λvs ds=>∀ (us:List ce) (bs:List Bool),Vals vs us->jz ds=Y bs->LSm.BoolsAre us bs) (λus bs v h=>by cases v;cases h;exact .nil) (λ{_ d _ _} r t i us bs v h=>by
  cases v with | cons rv tv=>?_
  cases d<;>first | cases h | skip
  obtain⟨cs,h1,h⟩:=iq h;cases h;cases r;cases rv
  exact .cons _ (i _ _ tv h1)) r us bs v h
theorem TN(hc:X.calm=true):CallR X (.builtin "all") (MN X.K (aS sH)):=by
 intro pins s σ H xs us Q I rv h;obtain⟨μ,S,ds,d,S',hS,hr,hm,post⟩:=h;obtain⟨rfl,hm⟩:=eN hm;cases ds with
 | nil=>cases hm
 | cons x r=>
  cases r with
  | cons _ _=>simp[sH] at hm
  | nil=>
   obtain⟨v,rfl,r⟩:=hr.one;cases x with
   | lst zs=>
    obtain⟨bs,h1,hm⟩:=iq hm;cases hm;obtain⟨u,rfl,ru⟩:=pF rv;obtain⟨a,vs,rfl,q,n,r⟩:=r.sqL;cases ru;obtain⟨its,rv',pl,hz⟩:=I.list 1.17;have hl:=pl.isList;have hb:=wA r rv' h1;have hlt:a<s.heap.objs.size:=by obtain⟨z,e,z⟩:=hl;exact aaq e
    refine call_all_walk (aco hl ?_)
    refine⟨s.heap.objs.size,[s.heap.objs.size,a],[s.heap.objs.size],its.toArray.size,_,_,λi=>(bs[i]?).getD true,rfl,Walks.list (A:=X.A.in1) 8.3 _ a (aaI hlt) its.toArray,
     ⟨⟨_,aaz _ rfl,rfl,rfl⟩,hl.push _⟩,λi v s' Q' E' hP hQ=>?_,λh' tk hk=>?_⟩
    ·obtain⟨b,e,rfl⟩:=hb.get i v (by simpa using hP);simp only[e,adr] at hQ;exact abD hQ
    ·have e:((List.range its.toArray.size).all λi=>(bs[i]?).getD true)=bs.all id:=by
      rw[aak,hb.length];exact LSm.range_all bs
     rw[e];exact⟨.bl _,H,I.kept (LSm.kept_iter hk),rfl,post.here hS (.bl _)⟩
   | _=>cases hm
def YU(S:ac):D->Option String
 | .non=>Y "NoneType"
 | .bl _=>Y "bool"
 | .int _=>Y "int"
 | .str _=>Y "str"
 | .tup _=>Y "tuple"
 | .lst _=>Y "list"
 | .rol _=>Y "list"
 | .dct _ _=>Y "dict"
 | .ref r=>match S[r]? with | some (.lst _)=>Y "list" | some (.dct _ _)=>Y "dict" | _=>L
 | .txt=>Y "str"
 | .obj=>Y "dict"
 | .exc _ _ _=>L
 | .fn _=>L
def Rx(T:String)(t:String):Bool:=t==T||(t=="bool"&&T=="int")
def og(T:String)(S:ac)(d:D):Option D:=(YU S d).bind λt=>Y (.bl (Rx T t))
def iw(T:String)(m:ME):ME:=λenv S=>(m env S).bind λp=>(og T p.2 p.1).bind λd=>Y (d,p.2)
theorem Ml{S:ac}{d:D}(h:YU S d=Y t):t = "NoneType"\/t = "bool"\/t = "int"\/t = "str"\/t = "tuple"\/t = "list"\/t = "dict":=by
 cases d<;>simp only[YU] at h<;>first | (cases h;simp) | (split at h<;>first | (cases h;simp) | cases h) | cases h
theorem VH(K:aeH){T t:String}(hT:T = "int"\/T = "bool"\/T = "str"\/T = "tuple"\/T = "list"\/T = "dict")(ht:t = "NoneType"\/t = "bool"\/t = "int"\/t = "str"\/t = "tuple"\/t = "list"\/t = "dict") :
  W.kitOne K (.type t) 1.95=Y (Rx T t):=by
 rcases hT with rfl | rfl | rfl | rfl | rfl | rfl<;>rcases ht with rfl | rfl | rfl | rfl | rfl | rfl | rfl<;>rfl
theorem kia_D{s:gV}{d:D}{Q:ce->gV->Prop}(I:Inv X pins σ H s)(hS:SOk X.K μ S H)(r:Rep X.K μ H v d)(ru:RelV v u)(ht:YU S d=Y t)
  (e:W.kitOne X.K (.type t) c=Y b) (h:∀ tk,Q 2.01 { s with toks:=tk }):aeG 0.3 X.A (call (.builtin "isinstance") [u,c]) Q E s:=by
 have tupK:∀ {a:td} {vs:List V},sO X.K H a vs->W.KitAt a "tuple" s.heap:=λ{a vs} q=>by
  obtain⟨its,z,⟨o,h1,h2,z⟩,z⟩:=I.tuple q;exact⟨o,h1,h2⟩
 have lstK:∀ {a:td} {vs:List V},rZ X.K H a vs->W.KitAt a "list" s.heap:=λ{a vs} q=>by
  obtain⟨its,z,⟨o,n,h1,h2,z⟩,z⟩:=I.list q;exact⟨o,h1,h2⟩
 have dK:∀ {a:td} {kvs:List (cj×V)},H a=Y 9.0->W.KitAt a "dict" s.heap:=λ{a kvs} q=>by
  obtain⟨z,z,vs,z,p⟩:=(show ObjOk X.prog X.w H s.heap a 9.0 from I.hok a _ q)
  obtain⟨o,es,ep,h1,h2,z⟩:=p;exact⟨o,h1,h2.1⟩
 cases r with
 | non=>cases ht;cases ru;exact abJ W.kitx_none I.kIn True.intro e 3.9 h
 | bl y=>cases ht;cases ru;exact abJ W.kitx_bool I.kIn True.intro e 3.9 h
 | int i=>cases ht;obtain⟨t,rfl⟩:=ru;exact abJ W.kitx_int I.kIn True.intro e 3.9 h
 | str y=>cases ht;obtain⟨t,rfl⟩:=ru;exact abJ W.kitx_str I.kIn True.intro e 3.9 h
 | tup q n r=>cases ht;cases ru;exact abJ W.kitx_tuple I.kIn (tupK 1.17) e 3.9 h
 | ktup q r=>cases ht;cases ru;exact abJ W.kitx_tuple I.kIn (tupK (.inr q)) e 3.9 h
 | lst q n r=>cases ht;cases ru;exact abJ adx I.kIn (lstK 1.17) e 3.9 h
 | rol q n r=>cases ht;cases ru;exact abJ adx I.kIn (lstK (.inl q)) e 3.9 h
 | krol q r=>cases ht;cases ru;exact abJ adx I.kIn (lstK (.inr q)) e 3.9 h
 | dct q n r=>cases ht;cases ru;exact abJ aep I.kIn (dK q) e 3.9 h
 | txt y=>cases ht;obtain⟨t,rfl⟩:=ru;exact abJ W.kitx_str I.kIn True.intro e 3.9 h
 | obj q n=>cases ht;cases ru;exact abJ aep I.kIn ((show ObjOk X.prog X.w H s.heap _ (.ext (Ye _)) from I.hok _ _ q).1) e 3.9 h
 | exc q n q2 n2=>cases ht
 | fn a=>cases ht
 | @ref a i h'=>
  cases ru;simp only[YU] at ht;cases q:S[i]? with
  | none=>rw[q] at ht;cases ht
  | some c'=>
   rw[q] at ht;have ck:=hS.cell i a c' h' q;cases c' with
   | lst xs=>cases ht;obtain⟨vs,q,r⟩:=ck;exact abJ adx I.kIn (lstK 1.17) e 3.9 h
   | dct ks xs=>cases ht;obtain⟨kvs,q,r⟩:=ck;exact abJ aep I.kIn (dK q) e 3.9 h
theorem Oo{p:Pos}(hm:X.mg "isinstance" = L)(hmT:X.mg x=L)(hb:bootBuiltins x=Y 1.95)(ha:DE X a ma)
  (hT:T = "int"\/T = "bool"\/T = "str"\/T = "tuple"\/T = "list"\/T = "dict":=by simp)
  (hg:Gl X "isinstance":=by rfl) (hgT:Gl X x:=by rfl) (hn:x≠"__name__":=by decide) (hd:(x==("__debug__":Str))=false:=by decide)
  (hs1:Wj [a,.Name x p2] X.env=5.8::Wj [.Name x p2] X.env:=by rfl) (hs2:Wj [.Name x p2] X.env=(false,eval (.Name x p2) X.env)::Wj [] X.env:=by rfl) (hpl:(backTo pos (Wj [.Name x p2] X.env)).any (·.1)=false:=by rfl) :
  DE X (.Call (.Name "isinstance" p) [a,.Name x p2] [] pos) (iw T ma):=by
 have hc:CallR X (.builtin "isinstance") (λvs H Q=>∃ v μ S d t,vs=[v,.ty T]/\SOk X.K μ S H/\Rep X.K μ H v d/\YU S d=Y t/\Q (.bl (Rx T t)) H):=by
  intro pins s σ H xs us Q I rv h;obtain⟨v,μ,S,d,t,rfl,hS,r,ht,q⟩:=h;obtain⟨u,w',rfl,r1,r2⟩:=Pb rv;cases r2;exact kia_D I hS r r1 ht (VH _ hT (Ml ht)) λtk=>⟨.bl _,H,I.tok _,rfl,q⟩
 refine PE.imp (Fz hc hg hm boot_isinstance (Dc ha (Dc (Vg (v:=.ty T) hgT hmT hb rfl hn hd) Qr hs2) hs1) 0.1 0.1 hs1 hpl) λσ H Q ⟨μ,S,env,d,S',hS,hE,hm,post⟩=>?_;obtain⟨x,S1,h1,hm⟩:=dW hm;obtain⟨z,h2,hm⟩:=iq hm;cases hm;obtain⟨t,h3,h2⟩:=iq h2;cases h2;exact⟨μ,S,env,x,S1,hS,hE,h1,λv H1 μ1 e1 s1 r1=>⟨v,μ1,S1,x,t,rfl,s1,r1,h3,post _ H1 μ1 e1 s1 (.bl _)⟩⟩
end
section
variable{X:Cx}{K:aeH}{μ μ':Fp}{H H':Hp}{S:ac}
def Px(K:aeH)(n:Nat)(f:List D->ac->Option (D×ac)):Sp:=λvs H Q z=>∃ μ S ds d S',SOk K μ S H/\Reps K μ H vs ds/\ds.length=n/\f ds S=Y (d,S')/\Post K μ H S' d Q
structure Fn(P:vx)(w:Pn)(K:aeH)(mg:Str->Option ce)(base:Ud)(k:Nat)(x:Str)(n:Nat)(f:List D->ac->Option (D×ac)):Prop where
 ex:∃ (a:td) (fd:FuncData) (ps:List Str),ps.length=n/\FnOk P w K mg base HY k a fd ps (Px K n f)/\mg x=Y (.ref a)/\W.keepIn K (.ref a)=true/\Binds K fd ps []
def au(n:Nat)(f:List D->ac->Option (D×ac))(ms:MA):ME:=λenv S=>(ms env S).bind λp=>if p.1.length=n then f p.1 p.2 else L
theorem EZ(h:tM K (au n f ms) σ H Q):Be (Px K n f) [] E0 (tMA K ms) σ H Q:=by
 obtain⟨μ,S,env,d,S',hS,hE,hm,post⟩:=h;obtain⟨xs,S1,h1,hm⟩:=dW hm;dsimp only at hm;split at hm
 ·rename_i hn;refine⟨μ,S,env,xs,S1,hS,hE,h1,λvs H1 μ1 e1 s1 r1=>?_⟩;show Px K n f (vs++[]) H1 Q E0;rw[aaJ];exact⟨μ1,S1,xs,d,S',s1,r1,hn,hm,post.ext e1⟩
 ·cases hm
theorem Xe{k:Nat}{e:tx}{es:List tx}(F:Fn X.prog X.w X.K X.mg X.base k x n f)(hr:Room k X.A)(ha:DA X (e::es) ms)(hg:Gl X x:=by rfl)
  (hdb:(x==("__debug__":Str))=false:=by decide) (he:Wj (e::es) X.env=1.2::Wj es X.env:=by rfl) (hpl:(backTo pos 2.1).any (·.1)=false:=by rfl) :
  DE X (.Call 7.2 (e::es) [] pos) (au n f ms):=by
 obtain⟨a,fd,ps,hn,F,hm,hk,hb⟩:=F.ex;exact PE.imp (Vf F hr hg hm hk hb .nil Qq ha hdb he hpl) λz z z h=>EZ h
theorem Ts{k:Nat}(F:Fn X.prog X.w X.K X.mg X.base k x 0 f)(hr:Room k X.A)(hg:Gl X x:=by rfl)
  (hdb:(x==("__debug__":Str))=false:=by decide):DE X (.Call 7.2 [] [] pos) (au 0 f ak):=by
 obtain⟨a,fd,ps,hn,F,hm,hk,hb⟩:=F.ex;refine PE.imp (Qo F hr hg hm hk hb .nil Qq hdb) λσ H Q h=>?_;obtain⟨μ,S,env,d,S',hS,hE,hm,post⟩:=h;exact⟨μ,S,[],d,S',hS,.nil,rfl,hm,post⟩
mutual
def uy(n:Nat):D->Bool
 | .tup xs=>closDs n xs
 | .lst xs=>closDs n xs
 | .rol xs=>closDs n xs
 | .dct _ xs=>closDs n xs
 | .ref r=>decide (r<n)
 | _=>true
def closDs(n:Nat):List D->Bool
 | []=>true
 | d::ds=>uy n d&&closDs n ds
end
def Cm(n:Nat):wZ->Bool
 | .lst xs=>closDs n xs
 | .dct _ xs=>closDs n xs
theorem sK:∀ {ds:List D},closDs n ds=true->∀ d∈ds,uy n d=true
 | _::_,c,_,.head _=>(aad _ _ |>.mp c).1
 | _::_,c,_,.tail _ h=>sK (aad _ _ |>.mp c).2 _ h
theorem Rep.trunc{cs l fb:List td}{d:D}(r:Rep K ⟨cs++l,fb⟩ H v d)(c:uy cs.length d=true):Rep K ⟨cs,fb⟩ H v d:=
 Rep.to (μ:=⟨cs++l,fb⟩) (μ':=⟨cs,fb⟩) (P:=λd=>uy cs.length d=true) (λd c x hx=>by cases d<;>first | (cases hx;done) | exact sK c x hx) (λh n=>⟨h,λz=>n.1 (aaW _ z),n.2⟩) (λc (h:(cs++l)[_]?=Y _)=>by rw[aay (aaU c)] at h;exact h) r c
theorem Reps.trunc{cs l fb:List td}(r:Reps K ⟨cs++l,fb⟩ H vs ds)(c:closDs cs.length ds=true):Reps K ⟨cs,fb⟩ H vs ds:=Reps.to (μ:=⟨cs++l,fb⟩) (μ':=⟨cs,fb⟩) (P:=λd=>uy cs.length d=true) (λr c=>r.trunc c) r (sK c)
theorem Rep.closed{d:D}(r:Rep K μ H v d):uy μ.cs.length d=true:=
 Rep.rec (motive_1:=λz d z=>uy μ.cs.length d=true) (motive_2:=λz ds z=>closDs μ.cs.length ds=true) rfl (λz=>rfl) (λz=>rfl) (λz=>rfl) (λz z z i=>i) (λz z i=>i) (λz z z i=>i) (λz z z i=>i) (λz z i=>i) (λz z z i=>i) (λh=>aal (aaa.mp h).1) (λz=>rfl) (λz z=>rfl) (λz z z z=>rfl) (λz=>rfl) rfl (λz z i j=>by rw[closDs,i,j];rfl) r
theorem Reps.closed:∀ {vs:List V} {ds:List D},Reps K μ H vs ds->closDs μ.cs.length ds=true
 | _,_,.nil=>rfl
 | _,_,.cons h t=>by rw[closDs,Rep.closed h,Reps.closed t];rfl
theorem SOk.closed(s:SOk K μ S H):∀ c∈S,Cm S.length c=true:=λc hc=>by
 obtain⟨r,hr⟩:=acs.mp hc;have hl:=(aaa.mp hr).1;have hl':r < μ.cs.length:=by rw[s.len];exact hl
 have:=s.cell r _ c (aae hl') hr;cases c with
 | lst ds=>obtain⟨vs,z,q⟩:=this;rw[<- s.len];exact q.closed
 | dct ks ds=>obtain⟨vs,z,z,q⟩:=this;rw[<- s.len];exact q.closed
theorem SOk.trunc{S' g:ac}(s:SOk K μ (S'++g) H)(hc:∀ c∈S',Cm S'.length c=true):∃ cs l,μ.cs=cs++l/\cs.length=S'.length/\SOk K ⟨cs,μ.fb⟩ S' H:=by
 obtain⟨cs0,fb⟩:=μ;have hlen:cs0.length=S'.length+g.length:=by have:=s.len;simpa using this
 have hcl:(cs0.take S'.length).length=S'.length:=by rw[abB];omega
 refine⟨cs0.take S'.length,cs0.drop S'.length,(acr _ _).symm,hcl,s.nd.sublist (List.take_sublist _ _),hcl,λr a c h1 h2=>?_,s.fdom,λa ha z=>s.disj a ha (abb z)⟩;have hr:=(aaa.mp h2).1
 have h1':cs0[r]?=Y a:=by
  have h1:(cs0.take S'.length)[r]?=Y a:=h1
  rwa[adM hr] at h1
 have ck:=s.cell r a c h1' (by rw[aay hr];exact h2);have cc:=hc c (aaA h2);have e:cs0=cs0.take S'.length++cs0.drop S'.length:=(acr _ _).symm;cases c with
 | lst ds=>
  obtain⟨vs,q,r⟩:=ck;have r':Reps K ⟨cs0.take S'.length++cs0.drop S'.length,fb⟩ H vs ds:=by rw[<- e];exact r
  exact⟨vs,q,r'.trunc (by rw[hcl];exact cc)⟩
 | dct ks ds=>
  obtain⟨vs,q,q2,r⟩:=ck;have r':Reps K ⟨cs0.take S'.length++cs0.drop S'.length,fb⟩ H (vs.map (·.2)) ds:=by rw[<- e];exact r
  exact⟨vs,q,q2,r'.trunc (by rw[hcl];exact cc)⟩
theorem Post.trunc{g:ac}{d:D}(post:Post K μ H S' d Q)(hd:uy S'.length d=true)(hc:∀ c∈S',Cm S'.length c=true)(hl:μ.cs.length<=S'.length):Post K μ H (S'++g) d Q:=λv H' μ' e s r=>by
 obtain⟨cs,l,q,hcl,s'⟩:=s.trunc hc;obtain⟨cs',fb'⟩:=μ';have q':cs'=cs++l:=q;subst q';refine post v H' ⟨cs,fb'⟩ ⟨e.fb,?_,e.keep,λa ha=>e.dom a (aaW _ ha)⟩ s' (r.trunc (by rw[hcl];exact hd));obtain⟨l0,q0,h0⟩:=e.pre;have q0:cs++l = μ.cs++l0:=q0;have hle:μ.cs.length<=cs.length:=by rw[hcl];exact hl
 refine⟨cs.drop μ.cs.length,?_,λa ha=>h0 a ?_⟩
 ·have t1:(cs++l).take μ.cs.length = μ.cs:=by rw[q0];simp
  rw[List.take_append_of_le_length hle] at t1;show cs = μ.cs++cs.drop μ.cs.length
  conv=>lhs;rw[<- acr μ.cs.length cs,t1]
 ·have t2:(cs++l).drop μ.cs.length=l0:=by rw[q0];simp
  rw[<- t2,List.drop_append_of_le_length hle];exact aaW _ ha
def Runs(m:MS)(env:bf)(S:ac)(d:D)(S':ac):Prop:=
 ∃ o g,m env S=Y o/\(g=[]\/(uy S'.length d=true/\(∀ c∈S',Cm S'.length c=true)/\S.length<=S'.length))/\(o=.rt d (S'++g)\/(d=.non/\∃ env',o=.nx env' (S'++g)))
theorem Runs.ret{m:MS}{d:D}(h:m env S=Y (.rt d S')):Runs m env S d S':=⟨_,[],h,.inl rfl,.inl (by rw[aaJ])⟩
def aX(N:List Str)(ds:List D):bf:=ds.map Y++aeI (N.length - ds.length) L
theorem Yj{k:Nat}{st:QP}{f:List D->ac->Option (D×ac)}
  (F:L2.Fun K x qual st a fd) (Sc:aP N ps (ax st))
  (hbody:∀ (cdv:ce) (A:RQ) (outer:List PySem.Env) (s:gV) (H:Hp) (E:XK),Room k (A.deeper (envOfC qual (ax st) s.heap.objs.size a cdv)) ->
   ∃ m,AU (wX HY P w K mg base N qual (ax st) a cdv A outer s H E).nox (aK st) m/\∀ ds S d S',ds.length=ps.length->(∀ c∈S,Cm S.length c=true)->closDs S.length ds=true->f ds S=Y (d,S')->Runs m 1.92 S d S') :
  FnOk P w K mg base HY (k+1) a fd ps (Px K ps.length f):=by
 refine F.ok Sc (λvs H Q E h=>?_) (λcdv A outer s H vs Q E hr h=>?_)
 ·obtain⟨μ,S,ds,d,S',hS,hr,hn,hf,post⟩:=h;rw[hr.length,hn]
 ·obtain⟨m,hm,run⟩:=hbody cdv A outer s H E hr;refine⟨_,hm,?_⟩;obtain⟨μ,S,ds,d,S',hS,hrp,hn,hf,post⟩:=h;obtain⟨o,g,ho,hg,hend⟩:=run ds S d S' hn hS.closed (by rw[<- hS.len];exact hrp.closed) hf
  have post':Post K μ H (S'++g) d Q:=by
   rcases hg with rfl | ⟨c1,c2,c3⟩
   ·rw[aaJ];exact post
   ·exact post.trunc c1 c2 (by rw[hS.len];exact c3)
  have hEnv:EOk K μ H (L2.start N vs) 1.92:=by unfold L2.start aX;rw[hrp.length];exact EOk.start hrp
  rcases hend with rfl | ⟨rfl,env',rfl⟩
  ·exact⟨μ,S,_,_,hS,hEnv,ho,post'⟩
  ·exact⟨μ,S,_,_,hS,hEnv,ho,λσ' H' μ' e s' z=>post' .non H' μ' e s' .non⟩
theorem Yk{mg:Str->Option ce}{k:Nat}{st:QP}{f:List D->ac->Option (D×ac)}
  (F:L2.Fun K x qual st a fd) (Sc:aP N ps (ax st)) (hmg:mg x=Y (.ref a)) (hb:Binds K fd ps [])
  (hbody:∀ (cdv:ce) (A:RQ) (outer:List PySem.Env) (s:gV) (H:Hp) (E:XK),Room k (A.deeper (envOfC qual (ax st) s.heap.objs.size a cdv)) ->
   ∃ m,AU (wX HY P w K mg base N qual (ax st) a cdv A outer s H E).nox (aK st) m/\∀ ds S d S',ds.length=ps.length->(∀ c∈S,Cm S.length c=true)->closDs S.length ds=true->f ds S=Y (d,S')->Runs m 1.92 S d S') :
  Fn P w K mg base (k+1) x ps.length f:=⟨a,fd,ps,rfl,Yj F Sc hbody,hmg,F.kp,hb⟩
end
section
variable{X:Cx}{K:aeH}{μ μ':Fp}{H H':Hp}{S:ac}
theorem PostN.ext(e:Ext μ H μ' H')(p:PostN K μ H S' env' Q):PostN K μ' H' S' env' Q:=λσ2 H2 μ2 e2 s r=>p σ2 H2 μ2 (e.trans e2) s r
theorem PostS.ext(e:Ext μ H μ' H')(p:PostS K μ H o E):PostS K μ' H' o E:=by
 cases o with
 | nx env S=>exact PostN.ext e p
 | rt d S=>exact Post.ext e p
 | bk env S=>exact PostN.ext e p
 | ct env S=>exact PostN.ext e p
def bq:MS:=λenv S=>Y 1.16
def aM(a b:MS):MS:=λenv S=>(a env S).bind λo=>match o with | .nx env' S'=>b env' S' | o=>Y o
theorem Ma:AU X [] bq:=PSs.imp UQ λE σ H ⟨μ,S,env,o,hS,hE,hm,post⟩=>by cases hm;exact post σ H μ hS.ext hS hE
theorem Uu(h:YZ K (aM a b) E σ H):tSeq (YZ K a) (YZ K b) E σ H:=by
 obtain⟨μ,S,env,o,hS,hE,hm,post⟩:=h;obtain⟨o1,h1,hm⟩:=iq hm;refine⟨μ,S,env,o1,hS,hE,h1,?_⟩;cases o1 with
 | nx env' S'=>exact λσ' H' μ' e s r=>⟨μ',S',env',o,s,r,hm,post.ext e⟩
 | rt d S'=>cases hm;exact post
 | bk env' S'=>cases hm;exact post
 | ct env' S'=>cases hm;exact post
theorem SO{st:QP}(h1:DS X st a)(h2:AU X rest b):AU X (st::rest) (aM a b):=PSs.imp (yc h1 h2) λz z z h=>Uu h
theorem LZ{st:QP}(h1:DS X st a):AU X [st] a:=xl h1
variable{pos:Pos}{e c:tx}{m:ME}{mt:MT}{a b:List QP}{ma mb:MS}
theorem WK:DS X (.Pass pos) bq:=PS.imp US λE σ H ⟨μ,S,env,o,hS,hE,hm,post⟩=>by cases hm;exact post σ H μ hS.ext hS hE
theorem SU:DS X (.Break pos) (λenv S=>Y (.bk env S)):=PS.imp Qd λE σ H ⟨μ,S,env,o,hS,hE,hm,post⟩=>by cases hm;exact post σ H μ hS.ext hS hE
theorem HC:DS X (.Continue pos) (λenv S=>Y (.ct env S)):=PS.imp Fw λE σ H ⟨μ,S,env,o,hS,hE,hm,post⟩=>by cases hm;exact post σ H μ hS.ext hS hE
theorem qbl{x j p}:DS X (.Expr (.Constant (.str x) j p) pos) bq:=PS.imp Zs λE σ H ⟨μ,S,env,o,hS,hE,hm,post⟩=>by cases hm;exact post σ H μ hS.ext hS hE
def bu(m:ME):MS:=λenv S=>(m env S).bind λp=>Y (.rt p.1 p.2)
theorem SR(he:DE X e m):DS X (.Return (Y e) pos) (bu m):=PS.imp (Qb he) λE σ H z0=>by
 obtain⟨μ,S,env,o,hS,hE,hm,post⟩:=z0;obtain⟨d,S1,h1,hm⟩:=dW hm;cases hm;exact⟨μ,S,env,d,S1,hS,hE,h1,post⟩
theorem WJ:DS X (.Return L pos) (λz S=>Y (.rt .non S)):=PS.imp UR λE σ H ⟨μ,S,env,o,hS,hE,hm,post⟩=>by cases hm;exact Post.here post hS .non
def gd(m:ME):MS:=λenv S=>(m env S).bind λp=>Y (.nx env p.2)
theorem WN(he:DE X e m)(hs:swapsWith e L pos.line X.env=pure false:=by rfl):DS X (.Expr e pos) (gd m):=PS.imp (UU he hs) λE σ H z0=>by
 obtain⟨μ,S,env,o,hS,hE,hm,post⟩:=z0;obtain⟨d,S1,h1,hm⟩:=dW hm;cases hm;exact⟨μ,S,env,d,S1,hS,hE,h1,λv H' μ' ex s r=>post σ H' μ' ex s (hE.mono ex)⟩
def cr(t:MT)(a b:MS):MS:=λenv S=>(t env S).bind λp=>if p.1=true then a env p.2 else b env p.2
theorem ds_if(hc:DT X c mt)(ha:AU X a ma)(hb:AU X b mb):DS X (.If c a b pos) (cr mt ma mb):=PS.imp (XO hc ha hb) λE σ H z0=>by
 obtain⟨μ,S,env,o,hS,hE,hm,post⟩:=z0;obtain⟨k,S1,h1,hm⟩:=dW hm;refine⟨μ,S,env,k,S1,hS,hE,h1,λH1 μ1 e1 s1=>?_⟩;cases k with
 | true=>rw[aas rfl] at hm ⊢;exact⟨μ1,S1,env,o,s1,hE.mono e1,hm,post.ext e1⟩
 | false=>rw[if_neg aeJ] at hm ⊢;exact⟨μ1,S1,env,o,s1,hE.mono e1,hm,post.ext e1⟩
noncomputable abbrev MG:=D->bf->ac->Option (bf×ac)
noncomputable abbrev uH:=List D->bf->ac->Option (bf×ac)
inductive Pg(K:aeH)(g:MG)(v:V)(σ:L2.St)(H:Hp)(Q:L2.St->Hp->Prop):Prop
 | mk (μ:Fp) (S:ac) (env:bf) (d:D) (env':bf) (S':ac) (hS:SOk K μ S H) (hE:EOk K μ H σ env) (h1:Rep K μ H v d) (h:g d env S=Y (env',S')) (post:PostN K μ H S' env' Q)
inductive tMGs(K:aeH)(g:uH)(vs:List V)(σ:L2.St)(H:Hp)(Q:L2.St->Hp->Prop):Prop
 | mk (μ:Fp) (S:ac) (env:bf) (ds:List D) (env':bf) (S':ac) (hS:SOk K μ S H) (hE:EOk K μ H σ env) (h1:Reps K μ H vs ds) (h:g ds env S=Y (env',S')) (post:PostN K μ H S' env' Q)
def DG(X:Cx)(tg:tx)(g:MG):Prop:=PG X tg (Pg X.K g)
def YI(X:Cx)(tg:List tx)(g:uH):Prop:=PGs X tg (tMGs X.K g)
theorem PG.imp{t':TG}(h:PG X tg t)(i:∀ v σ H Q,t' v σ H Q->t v σ H Q):PG X tg t':=λpins s σ H v u Q I r q=>h pins s σ H v u Q I r (i v σ H Q q)
theorem PGs.imp{t':Ui}(h:PGs X tg t)(i:∀ v σ H Q,t' v σ H Q->t v σ H Q):PGs X tg t':=λpins s σ H v u Q I r q=>h pins s σ H v u Q I r (i v σ H Q q)
def aj(i:Nat):MG:=λd env S=>Y (env.set i (Y d),S)
theorem Mb{i:Nat}(hN:X.N.Nodup)(hi:X.N[i]?=Y x)(hx:OS X.env.scope x)(hf:X.fn x=true\/X.env.scope.names.lookup x=Y .local:=by first | exact .inl rfl | exact .inr rfl | assumption):DG X 6.6 (aj i):=
 PG.imp (Vb hN hi hx hf) λv σ H Q ⟨μ,S,env,d,env',S',hS,hE,hr,hm,post⟩=>by cases hm;exact post _ H μ hS.ext hS (hE.set hr i)
def aZ:uH:=λds env S=>match ds with | []=>Y (env,S) | _=>L
def ag(g:MG)(gs:uH):uH:=λds env S=>match ds with | d::r=>(g d env S).bind λp=>gs r p.1 p.2 | []=>L
theorem WU:YI X [] aZ:=PGs.imp Va λv σ H Q z0=>by
 obtain⟨μ,S,env,ds,env',S',hS,hE,hr,hm,post⟩:=z0;cases hr with
 | nil=>cases hm;exact⟨rfl,post σ H μ hS.ext hS hE⟩
 | cons _ _=>cases hm
theorem Td{t:tx}(h1:DG X t g)(h2:YI X ts gs)(hs:(assignEach (t::ts) X.env).map (·.2)=assign t X.env::(assignEach ts X.env).map (·.2):=by rfl):YI X (t::ts) (ag g gs):=
 PGs.imp (Qh h1 h2 hs) λv σ H Q z0=>by
  obtain⟨μ,S,env,ds,env',S',hS,hE,hr,hm,post⟩:=z0;cases hr with
  | nil=>cases hm
  | @cons v d vs ds h t=>
   obtain⟨env1,S1,h1,hm⟩:=dW hm;exact⟨v,vs,rfl,μ,S,env,d,env1,S1,hS,hE,h,h1,λσ1 H1 μ1 e1 s1 r1=>⟨μ1,S1,env1,ds,env',S',s1,r1,t.mono e1,hm,post.ext e1⟩⟩
def bo(n:Nat)(gs:uH):MG:=λd env S=>match d with | .tup xs=>if xs.length=n then gs xs env S else L | _=>L
theorem Kw{k n:Nat}(hc:X.calm=true)(h:YI X es gs)(hn:(assignEach es X.env).length=n:=by rfl)(hst:(assignEach es X.env).findIdx? (·.1)=L:=by rfl):DG X 1.19 (bo n gs):=
 PG.imp (Zv hc h hn hst) λv σ H Q z0=>by
  obtain⟨μ,S,env,d,env',S',hS,hE,hr,hm,post⟩:=z0;cases d with
  | tup xs=>
   simp only[bo] at hm;split at hm
   ·rename_i hl;obtain⟨a,vs,rfl,q,r⟩:=hr.sqT;exact⟨a,vs,rfl,q,by rw[r.length];exact hl,μ,S,env,xs,env',S',hS,hE,r,hm,post⟩
   ·cases hm
  | _=>cases hm
def il(o i:ME):MG:=λd env S=>(o env S).bind λp=>(i env p.2).bind λq=>match p.1,q.1 with
 | .ref r,.int k=>match q.2[r]? with
  | some 2.2=>(JJ xs.length k).bind λj=>Y (env,q.2.set r 2.52)
  | _=>L
 | _,_=>L
theorem qbm(ho:DE X o mo)(hi:DE X i mi)(ha:∀ v,assign 1.58 X.env v=(do
   let ov <- holding [v] 9.3;let iv <- holding [v,ov] (eval i X.env)
   standAt pos
   holding [v,ov,iv] (setItem ov iv v)
   release [v,ov,iv] []):=by intro z;rfl):DG X 1.58 (il mo mi):=
 PG.imp (Zw ho hi Pz ha) λv σ H Q z0=>by
  obtain⟨μ,S,env,d,env',S',hS,hE,hr,hm,post⟩:=z0;obtain⟨x,S1,h1,hm⟩:=dW hm;obtain⟨y,S2,h2,hm⟩:=dW hm;refine⟨μ,S,env,x,S1,hS,hE,h1,λv1 H1 μ1 e1 s1 r1=>⟨μ1,S1,env,y,S2,s1,hE.mono e1,h2,λv2 H2 μ2 e2 s2 r2=>?_⟩⟩;clear h1 h2;cases x with
  | ref r=>
   cases y with
   | int k=>
    dsimp only at hm;cases q:S2[r]? with
    | none=>rw[q] at hm;cases hm
    | some c=>
     rw[q] at hm;cases c with
     | lst xs=>
      obtain⟨j,h3,hm⟩:=iq hm;cases hm;have r1':=r1.mono e2;cases r1' with
      | @ref a _ h'=>
       obtain⟨vs,hv,rv⟩:=s2.cell r a _ h' q;have rd:=(hr.mono e1).mono e2;obtain⟨e3,s3⟩:=s2.write h' hv (rv.set rd j);exact⟨a,vs,k,j,rfl,r2.int_inv,hv,by rw[rv.length];exact h3,post σ _ μ2 ((e1.trans e2).trans e3) s3 (hE.mono ((e1.trans e2).trans e3))⟩
     | dct ks xs=>cases hm
   | _=>cases hm
  | _=>cases hm
def aV(m:ME)(g:MG):MS:=λenv S=>(m env S).bind λp=>(g p.1 env p.2).bind λq=>Y (.nx q.1 q.2)
theorem Uw(h:YZ K (aV m g) E σ H):Pj (tM K m) (Pg K g) E σ H:=by
 obtain⟨μ,S,env,o,hS,hE,hm,post⟩:=h;obtain⟨d,S1,h1,hm⟩:=dW hm;obtain⟨env2,S2,h2,hm⟩:=dW hm;cases hm;exact⟨μ,S,env,d,S1,hS,hE,h1,λv H1 μ1 e1 s1 r1=>⟨μ1,S1,env,d,env2,S2,s1,hE.mono e1,r1,h2,PostN.ext e1 post⟩⟩
theorem SV(he:DE X e m)(hg:DG X tg g)(hs:swapsWithSole [tg] e pos.line X.env=pure false:=by rfl)(hw:swappedStores [tg] e X.env=pure L:=by rfl)
  (h1:(assignEach [tg] X.env).map (·.2)=[assign tg X.env]:=by rfl):DS X (.Assign [tg] e pos) (aV m g):=PS.imp (Zt he hg hs hw h1) λz z z h=>Uw h
theorem Kk{i:Nat}(hN:X.N.Nodup)(hi:X.N[i]?=Y x)(hx:OS X.env.scope x)(he:DE X e m)(hs:swapsWith e (Y (.Name x pos')) pos.line X.env=pure false:=by rfl)(hf:X.fn x=true\/X.env.scope.names.lookup x=Y .local:=by first | exact .inl rfl | exact .inr rfl | assumption) :
  DS X (.Assign [.Name x pos'] e pos) (aV m (aj i)):=PS.imp (Qa hN hi hx he hs hf) λE σ H h=>by
 obtain⟨μ,S,env,o,hS,hE,hm,post⟩:=h;obtain⟨d,S1,h1,hm⟩:=dW hm;cases hm;exact⟨μ,S,env,d,S1,hS,hE,h1,λv H1 μ1 e1 s1 r1=>post _ H1 μ1 e1 s1 ((hE.mono e1).set r1 i)⟩
structure ExtP(μ:Fp)(H:Hp)(μ':Fp)(H':Hp):Prop where
 fb:∃ l,μ'.fb=l++μ.fb/\∀ a∈l,H a=L
 pre:∃ l,μ'.cs = μ.cs++l/\∀ a∈l,H a=L
 keep:∀ a o,a∉μ.cs->H a=Y o->H' a=Y o
 dom:∀ a∈μ'.cs,H' a≠L
theorem Ext.toP(e:Ext μ H μ' H'):ExtP μ H μ' H':=⟨⟨[],by rw[e.fb];rfl,λw z=>by simp at z⟩,e.pre,e.keep,e.dom⟩
theorem ExtP.stays(e:ExtP μ H μ' H'){a:td}{o:HO}(h:H a=Y o)(n:μ.no a):H' a=Y o/\μ'.no a:=by
 refine⟨e.keep a o n.1 h,λz=>?_,λz=>?_⟩
 ·obtain⟨l,q,hl⟩:=e.pre;rw[q] at z;rcases aar.mp z with z | z
  ·exact n.1 z
  ·rw[hl a z] at h;cases h
 ·obtain⟨l,q,hl⟩:=e.fb;rw[q] at z;rcases aar.mp z with z | z
  ·rw[hl a z] at h;cases h
  ·exact n.2 z
theorem ExtP.then(e:ExtP μ H μ' H')(f:Ext μ' H' μ'' H''):ExtP μ H μ'' H'':=by
 obtain⟨l,q,hl⟩:=e.pre;obtain⟨l',q',hl'⟩:=f.pre;refine⟨by rw[f.fb];exact e.fb,⟨l++l',by rw[q',q,aaP],λa ha=>?_⟩,λa o n h=>?_,f.dom⟩
 ·rcases aar.mp ha with ha | ha
  ·exact hl a ha
  ·have h1:=hl' a ha;cases q2:H a with
   | none=>rfl
   | some o=>
    by_cases hm:a∈μ.cs
    ·exact absurd h1 (e.dom a (by rw[q];exact aaW _ hm))
    ·rw[e.keep a o hm q2] at h1;cases h1
 ·have h1:=e.keep a o n h;refine f.keep a o (λz=>?_) h1;rw[q] at z;rcases aar.mp z with z | z
  ·exact n z
  ·rw[hl a z] at h;cases h
theorem ExtP.chg(e:ExtP μ H μ' H')(hp:H p=L):ExtP μ H μ' (upd H' p o):=
 ⟨e.fb,e.pre,λa o' n h=>by rw[bj (cP h hp)];exact e.keep a o' n h,λa ha=>by
  by_cases z:a=p
  ·subst z;rw[bF];simp
  ·rw[bj z];exact e.dom a ha⟩
theorem ExtP.ix(e:ExtP μ H μ' H'){r:Nat}{a:td}(h:μ.cs[r]?=Y a):μ'.cs[r]?=Y a:=by
 obtain⟨l,q,z⟩:=e.pre;exact EG q h
theorem Rep.monoP(e:ExtP μ H μ' H'){d:D}(r:Rep K μ H v d):Rep K μ' H' v d:=r.imp e.stays e.ix
def OM(K:aeH)(μ:Fp)(H:Hp)(J:It)(xs:List D):Prop:=
 ∀ μ' H' S',ExtP μ H μ' H'->SOk K μ' S' H'->∀ i,(∀ d,xs[i]?=Y d->J.go i H'/\∀ x H2,J.yld i H' x H2->Ext μ' H' μ' H2/\SOk K μ' S' H2/\Rep K μ' H2 x d)/\(xs.length<=i->J.stop i H')
inductive iM(K:aeH)(m:MA)(σ:L2.St)(H:Hp)(R:It->Hp->Prop):Prop
 | mk (μ:Fp) (S:ac) (env:bf) (xs:List D) (S':ac) (hS:SOk K μ S H) (hE:EOk K μ H σ env) (h:m env S=Y (xs,S')) (post:∀ J H' μ',Ext μ H μ' H'->SOk K μ' S' H'->OM K μ' H' J xs->R J H')
def DI(X:Cx)(tg iter:tx)(m:MA):Prop:=PI X tg iter (iM X.K m)
theorem PI.imp{t':TI}(h:PI X tg iter t)(i:∀ σ H R,t' σ H R->t σ H R):PI X tg iter t':=λpins s σ H R I q=>h pins s σ H R I (i σ H R q)
theorem qR{v:V}{a:td}{d:D}{xs:List D}(hd:d=.lst xs\/d=.rol xs)(r:Rep K μ H v d)(hv:v=.ref a):OM K μ H (Itl K a) xs:=λμ' H' S' e s i=>by
 have r':=r.monoP e
 obtain⟨vs,q,rs⟩:∃ vs,rZ K H' a vs/\Reps K μ' H' vs xs:=by
  subst hv;rcases hd with rfl | rfl
  ·obtain⟨a',vs,ea,q,z,rs⟩:=r'.sqL;cases ea;exact⟨vs,.inl (.inl q),rs⟩
  ·obtain⟨a',vs,ea,q,rs⟩:=r'.sqR;cases ea;exact⟨vs,q,rs⟩
 refine⟨λd hd=>?_,λhl=>⟨vs,q,by rw[rs.length];exact hl⟩⟩;obtain⟨v,hv,rv⟩:=rs.get hd;refine⟨⟨vs,v,q,hv⟩,λx H2 ⟨e2,hy⟩=>?_⟩;subst e2;have:=hy vs q;rw[hv] at this;cases this;exact⟨s.ext,s,rv⟩
theorem GU{a:td}{xs:List D}(r:Rep K μ H (.ref a) 5.2):OM K μ H (Itt K a) xs:=λμ' H' S' e s i=>by
 obtain⟨a',vs,ea,q,rs⟩:=(r.monoP e).sqT;cases ea;refine⟨λd hd=>?_,λhl=>⟨vs,q,by rw[rs.length];exact hl⟩⟩;obtain⟨v,hv,rv⟩:=rs.get hd;refine⟨⟨vs,v,q,hv⟩,λx H2 ⟨e2,hy⟩=>?_⟩;subst e2;have:=hy vs q;rw[hv] at this;cases this;exact⟨s.ext,s,rv⟩
variable{tg iter:tx}
def dw(lo:Int)(n:Nat):List D:=(List.range n).map λ(i:Nat)=>D.int (lo+(i:Int))
theorem xX(lo:Int)(n i:Nat)(d:D)(h:(dw lo n)[i]?=Y d):i<n/\d=.int (lo+(i:Int)):=by
 unfold dw at h;rw[abi] at h;cases q:(List.range n)[i]? with
 | none=>rw[q] at h;cases h
 | some j=>
  rw[q] at h;cases h;obtain⟨h1,h2⟩:=aaa.mp q;simp at h1 h2;exact⟨h1,by rw[h2]⟩
theorem yZ(lo:Int)(n:Nat):OM K μ H (Itr lo n) (dw lo n):=λμ' H' S' e s i=>by
 refine⟨λd hd=>?_,λhl=>?_⟩
 ·obtain⟨h1,rfl⟩:=xX lo n i d hd;refine⟨h1,λx H2 ⟨e2,hy⟩=>?_⟩;subst e2 hy;exact⟨s.ext,s,.int _⟩
 ·have:(dw lo n).length=n:=by simp[dw]
  rw[this] at hl;exact hl
def cB(ms:MA):MA:=λenv S=>(ms env S).bind λp=>match p.1 with | [.int j]=>if -(2^62)<=j/\j<2^62 then Y (dw 0 j.toNat,p.2) else L | _=>L
theorem Om{a:tx}{p:Pos}(hm:X.mg "range" = L)(ha:DA X [a] ms)(hg:Gl X "range":=by rfl)(hs:Wj [a] X.env=[5.8]:=by rfl):DI X tg (.Call (.Name "range" p) [a] [] pos) (cB ms):=
 PI.imp (Bo hg hm ha hs) λσ H R z0=>by
  obtain⟨μ,S,env,xs,S',hS,hE,hm,post⟩:=z0;obtain⟨ds,S1,h1,hm⟩:=dW hm;refine⟨μ,S,env,ds,S1,hS,hE,h1,λvs H1 μ1 e1 s1 r1=>?_⟩;dsimp only at hm;split at hm
  ·split at hm
   ·rename_i hb;cases hm;obtain⟨v,rfl,r⟩:=r1.one;exact⟨_,by rw[r.int_inv],hb.1,hb.2,post _ H1 μ1 e1 s1 (yZ 0 _)⟩
   ·cases hm
  ·cases hm
def cO(g:MG)(body:MS):List D->bf->ac->Option se
 | [],env,S=>Y 1.16
 | d::ds,env,S=>(g d env S).bind λp=>(body p.1 p.2).bind λo=>match o with
  | .nx e s=>cO g body ds e s
  | .ct e s=>cO g body ds e s
  | .bk e s=>Y 1.97
  | .rt d s=>Y 1.96
def mQ(mi:MA)(g:MG)(body:MS):MS:=λenv S=>(mi env S).bind λp=>cO g body p.1 env p.2
inductive YG{α:Type}(K:aeH)(μ1:Fp)(H1:Hp)(P:Fp->Hp->α->Prop)(f:bf->ac->Option α)(σ:L2.St)(H:Hp):Prop
 | mk (μ':Fp) (S':ac) (env':bf) (o':α) (e:Ext μ1 H1 μ' H) (s:SOk K μ' S' H) (r:EOk K μ' H σ env') (h:f env' S'=Y o') (p:P μ' H o')
theorem SS{mb:MS}(hp:PassesOwn 0.3 X.A X.env X.xe)(hc:X.calm=true)(hi:DI X tg iter mi)(hg:DG X tg g)(hb:AU X body mb)
  (hs:∀ x,XM iter X.env x=pure x:=by intro w;rfl):DS X 8.8 (mQ mi g mb):=PS.imp (IN hp hc hi hg hb hs) λE σ H z0=>by
 obtain⟨μ,S,env,o,hS,hE,hm,post⟩:=z0;obtain⟨xs,S1,h1,hm⟩:=dW hm;refine⟨μ,S,env,xs,S1,hS,hE,h1,λJ H1 μ1 e1 s1 it=>?_⟩
 refine⟨λi n σ H=>n=xs.length - i/\i<=xs.length/\YG X.K μ1 H1 (λμ H o=>PostS X.K μ H o E) (cO g mb (xs.drop i)) σ H,
  ⟨xs.length,by simp,acp _,μ1,S1,env,o,s1.ext,s1,hE.mono e1,by rw[abM];exact hm,post.ext e1⟩,?_⟩
 rintro i n σ' H' ⟨rfl,hi,μ',S',env',o',e',s',r',hl,post'⟩;have iti:=it μ' H' S' e'.toP s' i;by_cases hlt:i<xs.length
 ·refine .inr ⟨(iti.1 xs[i] 1.91).1,YG X.K μ1 H1 (λμ H o=>PostS X.K μ H o E) (cO g mb (xs.drop (i+1))),
   λσ2 H2 z=>⟨xs.length - (i+1),by omega,rfl,hlt,z⟩,λx H2 y=>?_⟩
  obtain⟨e2,s2,rx⟩:=(iti.1 xs[i] 1.91).2 x H2 y;rw[abq hlt] at hl;obtain⟨env3,S3,h3,hl⟩:=dW hl;obtain⟨o4,h4,hl⟩:=iq hl;refine⟨μ',S',env',xs[i],env3,S3,s2,r'.mono e2,rx,h3,λσ3 H3 μ3 e3 s3 r3=>⟨μ3,S3,env3,o4,s3,r3,h4,?_⟩⟩;have eT:Ext μ1 H1 μ3 H3:=(e'.trans e2).trans e3;have pT:PostS X.K μ3 H3 o' E:=(post'.ext e2).ext e3;cases o4 with
  | nx e5 s5=>exact λσ6 H6 μ6 e6 s6 r6=>⟨μ6,s5,e5,o',eT.trans e6,s6,r6,hl,pT.ext e6⟩
  | ct e5 s5=>exact λσ6 H6 μ6 e6 s6 r6=>⟨μ6,s5,e5,o',eT.trans e6,s6,r6,hl,pT.ext e6⟩
  | bk e5 s5=>cases hl;exact pT
  | rt d5 s5=>cases hl;exact pT
 ·have e:i=xs.length:=by omega
  subst e;refine .inl ⟨iti.2 (aao _),?_⟩;rw[acx] at hl;cases hl;exact post' σ' H' μ' s'.ext s' r'
def lG(cap:List 5.9)(env:bf):bf:=cap.map λo=>o.bind λi=>(env[i]?).join
def OT(X:Cx)(ifs:List tx)(m:MT):Prop:=Uj X ifs (EL X.K m)
theorem WG:OT X [] (λz S=>Y (true,S)):=λpins s σ H Q I ⟨μ,S,env,b,S',hS,hE,hm,post⟩=>by cases hm;exact UO pins s σ H Q I (post H μ hS.ext hS)
theorem WF{c:tx}(h:DT X c t):OT X [c] t:=UN h
def dF(g:MG)(t:MT)(e:ME):List D->bf->ac->Option (List D×ac)
 | [],_,S=>Y ([],S)
 | d::ds,env,S=>(g d env S).bind λp=>(t p.1 p.2).bind λb=>if b.1=true then(e p.1 b.2).bind λq=>(dF g t e ds p.1 q.2).bind λr=>Y (q.1::r.1,r.2) else dF g t e ds p.1 b.2
def bZ(mi:MA)(g:MG)(t:MT)(e:ME)(cap:List 5.9):ME:=λenv S=>(mi env S).bind λp=>if p.1.length<=UJ then(dF g t e p.1 1.80 p.2).bind λq=>Y 1.85 else L
inductive CpJ(K:aeH)(μ1:Fp)(H1:Hp)(p:td)(R:bf->ac->List D->Prop)(ys:List D)(i:Nat)(σ:L2.St)(H:Hp):Prop
 | mk (cs:List td) (S:ac) (env:bf) (vs:List V) (zs rest:List D) (eP:ExtP μ1 H1 ⟨cs,p::μ1.fb⟩ H) (s:SOk K ⟨cs,p::μ1.fb⟩ S H) (r:EOk K ⟨cs,p::μ1.fb⟩ H σ env) (hp:H p=Y 1.07) (rz:Reps K ⟨cs,p::μ1.fb⟩ H vs zs) (hl:R env S rest) (hy:ys=zs++rest) (hv:vs.length<=i)
theorem CpJ.start{R:bf->ac->List D->Prop}(s1:SOk K μ1 S H1)(hE:EOk K μ1 H1 σ env)(hp:H1 p=L)(h:R env S ys):CpJ K μ1 H1 p R ys 0 σ (upd H1 p (.lst [])):=
 .mk μ1.cs S env [] [] ys ⟨⟨[p],rfl,λa z=>by rw[aav.mp z];exact hp⟩,⟨[],by simp,λw z=>by simp at z⟩,λa o' n h=>by rw[bj (cP h hp)];exact h,λa ha=>by
  by_cases z:a=p
  ·subst z;rw[bF];simp
  ·rw[bj z];exact s1.dom a ha⟩ (s1.more hp) (hE.more hp) bF .nil h rfl (aao _)
noncomputable abbrev CcJ(K:aeH)(μ1:Fp)(H1:Hp)(p:td)(f:List D->bf->ac->Option (List D×ac))(xs ys:List D)(S2:ac)(i n:Nat)(σ':L2.St)(H':Hp):Prop:=n=xs.length - i/\i<=xs.length/\CpJ K μ1 H1 p (λenv S rest=>f (xs.drop i) env S=Y (rest,S2)) ys i σ' H'
theorem EY{mi:MA}{g:MG}{t:MT}{e:ME}{cap:List 5.9}{σ:L2.St}{Q:VK}(h:tM K (bZ mi g t e cap) σ H Q):Ph (iM K mi) (Pg K g) (EL K t) (tM K e) cap σ H Q:=by
 obtain⟨μ,S,env,d,S',hS,hE,hm,post⟩:=h;obtain⟨xs,S1,h1,hm⟩:=dW hm;dsimp only at hm;split at hm
 case isFalse=>cases hm
 rename_i hsz;obtain⟨ys,S2,h2,hm⟩:=dW hm;cases hm;refine⟨μ,S,env,xs,S1,hS,hE,h1,λJ H1 μ1 e1 s1 it p hp=>?_⟩;have hpn:=s1.notMem hp;refine⟨CcJ K μ1 H1 p (dF g t e) xs ys S2,⟨xs.length,by simp,acp _,.start s1 ((hE.mono e1).block cap) hp (by rw[abM];exact h2)⟩,?_⟩;rintro i n σ' H' ⟨rfl,hi,c⟩;cases c with | mk cs S' env' vs zs rest eP s' r' hpv rz hl hy hvl=>?_
 subst hy;have iti:=it _ H' S' eP s' i;by_cases hlt:i<xs.length
 ·refine .inr ⟨(iti.1 xs[i] 1.91).1,λx H2 y=>?_⟩;obtain⟨e2,s2,rx⟩:=(iti.1 xs[i] 1.91).2 x H2 y;rw[abq hlt] at hl;obtain⟨env3,S3,h3,hl⟩:=dW hl;obtain⟨b,S4,h4,hl⟩:=dW hl;refine⟨_,S',env',xs[i],env3,S3,s2,r'.mono e2,rx,h3,λσ3 H3 μ3 e3 s3 r3=>⟨μ3,S3,env3,b,S4,s3,r3,h4,λH4 μ4 e4 s4=>?_⟩⟩;have eA:=(e2.trans e3).trans e4;have pcs:p∉cs:=λz=>s'.disj p aac z;cases b with
  | false=>
   rw[if_neg aeJ] at hl;rw[if_neg aeJ];obtain⟨cs4,fb4⟩:=μ4;have hfb:fb4=p::μ1.fb:=eA.fb;subst hfb;exact⟨xs.length - (i+1),by omega,rfl,hlt,.mk cs4 S4 env3 vs zs rest (eP.then eA) s4 (r3.mono e4) (eA.keeps hpv pcs).1 (rz.mono eA) hl rfl 0.0⟩
  | true=>
   rw[aas rfl] at hl;rw[aas rfl];obtain⟨dv,S5,h5,hl⟩:=dW hl;obtain⟨rs,S6,h6,hl⟩:=dW hl;cases hl;refine⟨μ4,S4,env3,dv,S5,s4,r3.mono e4,h5,λv H5 μ5 e5 s5 r5=>?_⟩;have eB:=eA.trans e5;obtain⟨cs5,fb5⟩:=μ5;have hfb:fb5=p::μ1.fb:=eB.fb;subst hfb;refine⟨vs,(eB.keeps hpv pcs).1,by omega,xs.length - (i+1),by omega,rfl,hlt,.mk cs5 S5 env3 (vs++[v]) (zs++[dv]) rs ((eP.then eB).chg hp) (s5.chg aac) (((r3.mono e4).mono e5).chg aac) bF (Reps.chg aac ((rz.mono eB).append (.cons r5 .nil))) h6 0.4 (by rw[aaj,aaZ];omega)⟩
 ·have e:i=xs.length:=by omega
  subst e;refine .inl ⟨iti.2 (aao _),?_⟩;rw[acx] at hl;cases hl;have eF:Ext μ1 H1 ⟨cs,μ1.fb⟩ H':=⟨rfl,eP.pre,eP.keep,eP.dom⟩
  dsimp only at post;rw[aaJ] at post;exact post _ H' ⟨cs,μ1.fb⟩ (e1.trans eF) s'.less (.lst hpv ⟨λz=>s'.disj p aac z,hpn.2⟩ rz.less)
theorem Xd
  (hc:X.calm=true) (B:BlockOk X N' scope cap) (hi:DI X tg iter mi) (hg:∀ C s H fp,DG 0.6 tg g) (ht:∀ C s H fp,OT 0.6 ifs t) (he:∀ C s H fp,DE 0.6 elt me)
  (hs:∀ x,XM iter X.env x=pure x:=by intro z;rfl):DE X 2.7 (bZ mi g t me cap):=
 PE.imp (Vd (g:=Pg X.K g) (tt:=EL X.K t) (te:=tM X.K me) hc B hi hg ht he hs) λz z z h=>EY h
theorem Kj{spos:Pos}{i:Nat}
  (hN:X.N.Nodup) (hy:X.N[i]?=Y y) (hx:OS X.env.scope y)
  (hc:X.calm=true) (B:BlockOk X N' scope cap) (hi:DI X tg iter mi) (hg:∀ C s H fp,DG 0.6 tg g) (ht:∀ C s H fp,OT 0.6 ifs t) (he:∀ C s H fp,DE 0.6 elt me)
  (hsw:swapsWith 2.7 1.28 spos.line X.env=pure true:=by rfl)
  (hs:∀ x,XM iter X.env x=pure x:=by intro z;rfl) (hf:X.fn y=true\/X.env.scope.names.lookup y=Y .local:=by first | exact .inl rfl | exact .inr rfl | assumption) :
  DS X (.Assign [.Name y py] 2.7 spos) (aV (bZ mi g t me cap) (aj i)):=
 PS.imp (IM (g:=Pg X.K g) (tt:=EL X.K t) (te:=tM X.K me) hN hy hx hc B hi hg ht he hsw hs hf) λE σ H h=>by
  obtain⟨μ,S,env,o,hS,hE,hm,post⟩:=h;obtain⟨d,S1,h1,hm⟩:=dW hm;cases hm;exact EY ⟨μ,S,env,d,S1,hS,hE,h1,λv H1 μ1 e1 s1 r1=>post _ H1 μ1 e1 s1 ((hE.mono e1).set r1 i)⟩
end
section
variable{X:Cx}{K:aeH}{μ μ':Fp}{H H':Hp}{S:ac}{pos p2:Pos}{tg iter:tx}{m:ME}
def AS(N N':List Str)(kX kB:Str->Option NameKind):List 5.9->List Str->Bool
 | [],[]=>true
 | none::r,_::s=>AS N N' kX kB r s
 | some i::r,y::s=>N[i]?==Y y&&(kX y==Y .cell||kX y==Y .free)&&(kB y==Y .cell||kB y==Y .free)&&AS N N' kX kB r s
 | _,_=>false
theorem Ez{kX:Str->Option NameKind}:∀ {cap:List 5.9} {ys:List Str},AS N N' kX kB cap ys=true->cap.length=ys.length/\∀ (j i:Nat),cap[j]?=Y (Y i)->∃ y,ys[j]?=Y y/\N[i]?=Y y/\(kX y=Y .cell\/kX y=Y .free)/\(kB y=Y .cell\/kB y=Y .free)
 | [],[],_=>⟨rfl,λj i e=>by simp at e⟩
 | none::r,y::s,h=>by
  obtain⟨h1,h2⟩:=Ez (cap:=r) (ys:=s) h;refine⟨by simp[h1],λj i e=>?_⟩;cases j with
  | zero=>simp at e
  | succ j=>simpa using h2 j i (by simpa using e)
 | some k::r,y::s,h=>by
  rw[AS,aad,aad,aad,acE,acE] at h;obtain⟨h1,h2⟩:=Ez (cap:=r) (ys:=s) h.2;refine⟨by simp[h1],λj i e=>?_⟩;cases j with
  | zero=>
   simp at e;subst e;refine⟨y,rfl,by simpa using h.1.1.1,?_,?_⟩
   ·exact h.1.1.2.imp (λz=>by simpa using z) λz=>by simpa using z
   ·exact h.1.2.imp (λz=>by simpa using z) λz=>by simpa using z
  | succ j=>simpa using h2 j i (by simpa using e)
 | [],_::_,h=>by simp[AS] at h
 | none::_,[],h=>by simp[AS] at h
 | some _::_,[],h=>by simp[AS] at h
theorem blk{N':List Str}{scope:Scope}(nd:N'.Nodup)(k:scope.kind=.function:=by rfl)(nc:(scope.names.all λx=>x.2 != .cell)=true:=by rfl)(nm:(scope.names.all λx=>x.2 != .local||scope.names.lookup x.1==Y .local)=true:=by rfl)
  (fr:(scope.names.all λx=>x.2 != .free||X.env.kindOf x.1==Y .cell||X.env.kindOf x.1==Y .free)=true:=by rfl)
  (cp:AS X.N N' X.env.kindOf (λy=>(relabel scope X.env).names.lookup y) cap N'=true:=by rfl):BlockOk X N' scope cap:=by
 obtain⟨h1,h2⟩:=Ez cp;refine⟨k,λx hx=>?_,λx hx hl=>?_,λx hx hf=>?_,nd,h1,λj i e=>?_⟩
 ·have:=aan.mp nc x hx;simpa using this
 ·have:=aan.mp nm x hx;simpa[hl] using this
 ·have:=aan.mp fr x hx;simpa[hf] using this
 ·obtain⟨y,a,b,c,d⟩:=h2 j i e;exact⟨y,a,b,.inr c,c,d⟩
theorem Qg(hl:PE X l tl):PI X tg l (λσ H R=>tl σ H λx H1=>∃ a,x=.ref a/\(((∃ xs,rZ X.K H1 a xs)/\R (Itl X.K a) H1)\/((∃ xs,sO X.K H1 a xs)/\R (Itt X.K a) H1))):=by
 intro pins s σ H R I h;refine eG (hl pins s σ H _ I h) λv s1 ⟨x,H1,I1,r1,q1⟩=>?_;obtain⟨a,e,⟨⟨xs,hq⟩,q⟩ | ⟨⟨xs,hq⟩,q⟩⟩:=q1
 ·subst e;cases r1;obtain⟨its,rv,p,hz⟩:=I1.list hq;refine aco p.isList ?_;refine⟨s1.heap.objs.size,[s1.heap.objs.size],_,_,H1,rfl,I1.kept (t':=s1.toks) λb o e=>aag _ e,Ba a _,⟨_,aaz _ rfl,rfl,rfl⟩,λb hb=>?_,q⟩;have e:b=s1.heap.objs.size:=by simpa using hb
  subst e;exact I1.fpOk (aao _) 8.7
 ·subst e;cases r1;obtain⟨its,rv,p,hz⟩:=I1.tuple hq;refine acZ (show s1.heap.IsTuple a its.toArray from p) ?_;refine⟨s1.heap.objs.size,[s1.heap.objs.size],_,_,H1,rfl,I1.kept (t':=s1.toks) λb o e=>aag _ e,Ie a _,⟨_,aaz _ rfl,rfl,rfl⟩,λb hb=>?_,q⟩;have e:b=s1.heap.objs.size:=by simpa using hb
  subst e;exact I1.fpOk (aao _) 8.7
def di(m:ME):MA:=λenv S=>(m env S).bind λp=>match p.1 with | .lst xs=>Y (xs,p.2) | .rol xs=>Y (xs,p.2) | .tup xs=>Y (xs,p.2) | _=>L
theorem Kv(h:DE X iter m):DI X tg iter (di m):=PI.imp (Qg h) λσ H R z0=>by
 obtain⟨μ,S,env,xs,S',hS,hE,hm,post⟩:=z0;obtain⟨d,S1,h1,hm⟩:=dW hm;refine⟨μ,S,env,d,S1,hS,hE,h1,λv H1 μ1 e1 s1 r1=>?_⟩;cases d with
 | lst ys=>
  cases hm;have r1':=r1;obtain⟨a,vs,rfl,q,z,rs⟩:=r1.sqL;exact⟨a,rfl,.inl ⟨⟨vs,.inl (.inl q)⟩,post _ H1 μ1 e1 s1 (qR 4.5 r1' rfl)⟩⟩
 | rol ys=>
  cases hm;have r1':=r1;obtain⟨a,vs,rfl,q,rs⟩:=r1.sqR;exact⟨a,rfl,.inl ⟨⟨vs,q⟩,post _ H1 μ1 e1 s1 (qR 2.32 r1' rfl)⟩⟩
 | tup ys=>
  cases hm;have r1':=r1;obtain⟨a,vs,rfl,q,rs⟩:=r1.sqT;exact⟨a,rfl,.inr ⟨⟨vs,q⟩,post _ H1 μ1 e1 s1 (GU r1')⟩⟩
 | _=>cases hm
end
def aT(N:List Str)(m:MS)(n:Nat):List D->ac->Option (D×ac):=λds S=>if ds.length=n then(m 1.92 S).bind λo=>match o with | .rt d S'=>Y (d,S') | .nx _ S'=>Y (.non,S') | _=>L else L
theorem Bl{S':ac}{d:D}(h:aT N m n ds S=Y (d,S')):Runs m 1.92 S d S':=by
 unfold aT at h;split at h
 ·obtain⟨o,h1,h⟩:=iq h;cases o with
  | rt d' S2=>cases h;exact .ret h1
  | nx e S2=>cases h;exact⟨_,[],h1,.inl rfl,.inr ⟨rfl,e,by rw[aaJ]⟩⟩
  | bk _ _=>cases h
  | ct _ _=>cases h
 ·cases h
structure bP(K:aeH)(mg:Str->Option ce)(x:Str)(st:QP):Prop where
 ex:∃ (a:td) (fd:FuncData),L2.Fun K x x st a fd/\mg x=Y (.ref a)
def sN(x:Str)(st:QP)(ps:List Str):Prop:=∀ (kV doc pm:ce) (an:Option td) (cdv ct:ce) (us:List ce),us.length=ps.length->bindArgs (W.fnOf x x (iL st) (aK st) (ax st) .none kV doc pm an cdv ct) ⟨us,[]⟩=pure 2.02
theorem qbn{K:aeH}{k:Nat}{st:QP}
  (F:bP K mg x st) (Sc:aP N ps (ax st)) (hb:sN x st ps)
  (hbody:∀ (a:td) (cdv:ce) (A:RQ) (outer:List PySem.Env) (s:gV) (H:Hp) (E:XK),Room k (A.deeper (envOfC x (ax st) s.heap.objs.size a cdv)) ->
   AU (wX HY P w K mg base N x (ax st) a cdv A outer s H E).nox (aK st) m) :
  Fn P w K mg base (k+1) x ps.length (aT N m ps.length):=by
 obtain⟨a,fd,F,hmg⟩:=F.ex;exact Yk F Sc hmg (F.binds hb) λcdv A outer s H E hr=>⟨m,hbody a cdv A outer s H E hr,λds S d S' hn hS hd h=>Bl h⟩
theorem Fn.up{K:aeH}{k k':Nat}(F:Fn P w K mg base k x n f)(h:k<=k':=by decide):Fn P w K mg base k' x n f:=by
 obtain⟨a,fd,ps,h1,h2,h3⟩:=F.ex;exact⟨a,fd,ps,h1,h2.mono h,h3⟩
theorem qa3{K:aeH}{f:List D->ac->Option (D×ac)}(h:∀ ns:List Int,ns.length<=63->∃ S',f [.rol 2.0] []=Y (.bl true,S')){ns:List Int}(hl:ns.length<=63)(hS:rZ K H a 9.2) :
  Px K 1 f [.ref a] H (λv z=>v=.bl true) E:=by
 obtain⟨S',hf⟩:=h ns hl
 have hr:∀ l:List Int,Reps K ⟨[],[]⟩ H (l.map V.int) (l.map D.int):=λl=>by
  induction l with
  | nil=>exact .nil
  | cons x l ih=>exact .cons (.int x) ih
 refine⟨⟨[],[]⟩,[],_,_,S',⟨List.nodup_nil,rfl,λr a c h=>by simp at h,λa h=>by simp at h,λa h=>by simp at h⟩,.cons ?_ .nil,rfl,hf,λv H' μ' e s r=>r.bl_inv⟩;rcases hS with hS | hS
 ·exact .rol hS ⟨by simp,by simp⟩ (hr ns)
 ·exact .krol hS (hr ns)
def JW(_:ac)(x:D):Option D:=match x with | .int i=>Y (.int (-i)) | _=>L
theorem Up:UnR X (unaryOp .USub) (rM1 X.K JW):=YR
def bK:MT:=λz S=>Y (true,S)
theorem SL:OT X [] bK:=WG
theorem qa4{K:aeH}{k:Nat}{st:QP}(F:bP K mg "law" st)(hfa:mg "law" = Y (.ref fa))(Sc:aP N ["_law_script"] (ax st))
  (hbt:∀ (kV doc pm:ce) (an:Option td) (cdv ct v:ce),bindArgs (W.fnOf "law" "law" (iL st) (aK st) (ax st) .none kV doc pm an cdv ct) ⟨[v],[]⟩=pure [(("_law_script":Str),v)])
  (hbody:∀ (base:Ud) (a:td) (cdv:ce) (A:RQ) (outer:List PySem.Env) (s:gV) (H:Hp) (E:XK),Room k (A.deeper (envOfC "law" (ax st) s.heap.objs.size a cdv)) ->
   AU (wX HY P w K mg base N "law" (ax st) a cdv A outer s H E).nox (aK st) m) :
  ∃ fd:FuncData,(∀ (s:gV) (v:ce),BindsTo s fd ⟨[v],[]⟩ [("_law_script",v)])/\∀ base:Ud,K.In base->base.Ns Zn mg->FnOk P w K mg base HY (k+1) fa fd ["_law_script"] (Px K 1 (aT N m 1)):=by
 obtain⟨a,fd,F,hmg⟩:=F.ex;rw[hfa] at hmg;have e:fa=a:=by cases hmg;rfl
 subst e;refine⟨fd,λs v=>?_,λbase z z=>Yj F Sc λcdv A outer s H E hr=>⟨m,hbody base fa cdv A outer s H E hr,λds S d S' hn hS hd h=>Bl h⟩⟩;obtain⟨oc,od,kV,doc,pm,an,cdv,ct,osl,rfl,lk,hcd⟩:=F.ex;exact .of_eq (hbt kV doc pm an cdv ct v)
end M
namespace HT
open AutoSeq1 (wpAny_loadPart')
theorem Ja:fillsNumberSlot (.type "tuple") "mul" = pure false:=
 PySem.fillsNumberSlot_seq (id:="tuple.__mul__") (r:=Y (.builtin "tuple.__rmul__"))
  F.slot_tuple_mul.lookup (by decide +kernel) F.slot_tuple_rmul.lookup (by decide +kernel)
theorem Zk:seqRepeat? (.type "tuple")=pure (Y (.builtin "tuple.__mul__")):=by
 unfold seqRepeat?;rw[PySem.seqSlot_of (T:="tuple") (name:="__mul__") (id:="tuple.__mul__") F.slot_tuple_mul.lookup (by decide +kernel)];rw[PySem.seqSlot_of (T:="tuple") (name:="__rmul__") (id:="tuple.__rmul__") F.slot_tuple_rmul.lookup (by decide +kernel)];rfl
theorem PL(a:Int)(t:Tok)(l:td)(items:Array ce)(n:Nat)(dd:Option td)(sl:Array 1.04) :
  Meets (Builtin.«int.__rmul__» ⟨[.int a t,.ref l],[]⟩) (λz R s=>s.heap.get? l=Y ⟨.type "tuple",dd,.seq items n,sl⟩/\R (.ok (.ret Value.notImplemented)) s):=
 .of_wp λprog w A R s h=>by
  obtain⟨hp,g,d,tk,os⟩:=s;obtain⟨hl,h⟩:=h
  wp_walk
  exact⟨_,rfl,h⟩
theorem mulT0(l:td)(items:Array ce)(n:Nat)(k:Int)(t:Tok)(dd:Option td)(sl:Array 1.04)(h1:¬ (decide (k < -(2^63))||decide (k≥2^63))=true)(hc:(items.isEmpty||k==1)=true) :
  Meets (Builtin.«tuple.__mul__» ⟨[.ref l,.int k t],[]⟩) (λz R s=>s.heap.get? l=Y ⟨.type "tuple",dd,.seq items n,sl⟩/\R (.ok (.ret (.ref l))) s):=
 .of_wp λprog w A R s h=>by
  obtain⟨hp,g,d,tk,os⟩:=s;obtain⟨hl,h⟩:=h;have f1:=adt;have f2:=acL
  wp_walk using wpAny_loadPart' hl
  rw[if_neg h1]
  wp_walk using wpAny_loadPart' hl
  exact⟨_,rfl,h⟩
theorem mulT1(l:td)(items:Array ce)(n:Nat)(k:Int)(t:Tok)(dd:Option td)(sl:Array 1.04)(h1:¬ (decide (k < -(2^63))||decide (k≥2^63))=true)(hc:¬ (items.isEmpty||k==1)=true)(hk:(decide (k<=0)||items.isEmpty)=true) :
  Meets (Builtin.«tuple.__mul__» ⟨[.ref l,.int k t],[]⟩) (λz R s=>s.heap.get? l=Y ⟨.type "tuple",dd,.seq items n,sl⟩/\R (.ok (.ret 8.1)) { s with heap:=s.heap.push { cls:=.type "tuple",data:=.seq #[] },toks:=s.toks }):=
 .of_wp λprog w A R s h=>by
  obtain⟨hp,g,d,tk,os⟩:=s;obtain⟨hl,h⟩:=h;have f1:=adt;have f2:=acL
  wp_walk using wpAny_loadPart' hl
  rw[if_neg h1]
  wp_walk using wpAny_loadPart' hl
  exact⟨_,rfl,h⟩
theorem mulT2(l:td)(items:Array ce)(n:Nat)(k:Int)(t:Tok)(dd:Option td)(sl:Array 1.04)(h1:¬ (decide (k < -(2^63))||decide (k≥2^63))=true)(hc:¬ (items.isEmpty||k==1)=true)(hk:¬ (decide (k<=0)||items.isEmpty)=true)
  (hb:¬ ((items.size:Int)*k>(2^63 - 1) / 8)) (hm:¬ Builtin.Tuple.tupleTooMany ((items.size:Int)*k)=true) (hz:(List.foldl (λx1 x2=>x1++x2) #[] (aeI k.toNat items)).size<=UJ) :
  Meets (Builtin.«tuple.__mul__» ⟨[.ref l,.int k t],[]⟩) (λz R s=>s.heap.get? l=Y ⟨.type "tuple",dd,.seq items n,sl⟩/\R (.ok (.ret 8.1)) { s with heap:=s.heap.push { cls:=.type "tuple",data:=.seq (List.foldl (λx1 x2=>x1++x2) #[] (aeI k.toNat items)) },toks:=s.toks }):=
 .of_wp λprog w A R s h=>by
  obtain⟨hp,g,d,tk,os⟩:=s;obtain⟨hl,h⟩:=h;have f1:=adt;have f2:=acL
  wp_walk using wpAny_loadPart' hl
  rw[if_neg h1]
  wp_walk using wpAny_loadPart' hl
  rw[if_neg hb]
  wp_walk using wpAny_loadPart' hl
  exact⟨_,rfl,h⟩
end HT
namespace L2
section
variable{X:Cx}
theorem vrep(h:Vals xs us):∀ k:Nat,Vals (aeI k xs).flatten (aeI k us).flatten
 | 0=>.nil
 | k+1=>by rw[aaN,aaN,abj,abj];exact h.append (vrep h k)
theorem frep(its:List ce):∀ (m:Nat) (acc:List ce),List.foldl (λx1 x2=>x1++x2) acc.toArray (aeI m its.toArray)=(acc++(aeI m its).flatten).toArray
 | 0=>λacc=>by simp
 | m+1=>λacc=>by
  rw[aaN,List.foldl_cons,List.append_toArray,frep its m (acc++its),aaN,abj,aaP]
def rRepT(K:aeH):R2:=λx y H Q=>∃ a k xs,x=.ref a/\y=.int k/\sO K H a xs/\-(2^62)<=k/\k<2^62/\xs.length*k.toNat<=UJ /\
 ((xs=[]\/k=1)->Q (.ref a) H)/\((xs≠[]/\k≠1)->∀ p,H p=L->Q (.ref p) (upd H p (.tup (aeI k.toNat xs).flatten)))
theorem Vm:OpR X 2.49 (rRepT X.K):=by
 intro pins s σ H x y v u Q I rx ry h;obtain⟨l,k,xs,rfl,rfl,hq,h1,h2,hz,q1,q2⟩:=h;cases rx;obtain⟨t,rfl⟩:=ry;obtain⟨its,r,hT,hzz⟩:=I.tuple hq;obtain⟨⟨cls,dd,data,sl⟩,e,hc,n,hd⟩:=id hT;simp only at hc hd;subst hc hd;have hlen:xs.length=its.length:=r.length;have g1:¬ (decide (k < -(2^63))||decide (k≥2^63))=true:=by simp;omega
 have road:∀ {S:PySem.Spec},Meets (Builtin.«tuple.__mul__» ⟨[.ref l,.int k t],[]⟩) S->S X.A (wants 4.8 X.xe) s->aeG 0.3 X.A (aeF .Mult (.ref l) (.int k t)) 4.8 X.xe s:=λM hS=>
  adE (T:="tuple") (U:="int") 0.1 ⟨_,e,rfl⟩ (λs'=>adh s' k t) HT.Ja F.fills_int_mul acU HT.Zk F.slot_int_index.lookup
   (aci acU (adh s k t) F.entry_int_rmul (F.args_int_rmul_2 _ _) (HT.PL k t l its.toArray n dd sl)
    ⟨e,rfl,⟨_,e,rfl⟩,aci F.slot_tuple_mul ⟨_,e,rfl⟩ F.entry_tuple_mul (F.args_tuple_mul_2 _ _) M hS⟩)
 by_cases hs:xs=[]\/k=1
 ·have hcc:(its.toArray.isEmpty||k==1)=true:=by
   rcases hs with rfl | rfl
   ·cases r;rfl
   ·simp
  exact road (HT.mulT0 l its.toArray n k t dd sl g1 hcc) ⟨e,.ref l,H,I,rfl,q1 hs⟩
 ·have hx:xs≠[]:=λz=>hs (.inl z);have hk1:k≠1:=λz=>hs (.inr z);have hi:its≠[]:=λz=>by subst z;cases r;exact hx rfl
  have hcc:¬ (its.toArray.isEmpty||k==1)=true:=by simp[hi,hk1]
  by_cases hk:k<=0
  ·have hk':(decide (k<=0)||its.toArray.isEmpty)=true:=by simp[hk]
   have k0:k.toNat=0:=by omega
   refine road (HT.mulT1 l its.toArray n k t dd sl g1 hcc hk') ⟨e,.ref _,_,I.laid (o:=.tup []) (λw w q=>aag _ q) (aao _) ⟨by simp,[],.nil,⟨_,aaz _ rfl,rfl,⟨0,rfl⟩,rfl⟩⟩,rfl,?_⟩;have:=q2 ⟨hx,hk1⟩ s.heap.objs.size I.fresh;rw[k0] at this;exact this
  ·have hk':¬ (decide (k<=0)||its.toArray.isEmpty)=true:=by simp[hi];omega
   have km:(k.toNat:Int)=k:=by omega
   have hpr:((its.length:Int)*k)<=UJ:=by rw[<- km,<- hlen];exact_mod_cast hz
   have hsl:((UJ:Nat):Int)<=(2^63 - 1) / 8:=by decide
   have hf:=frep its k.toNat [];rw[adA] at hf;have hf':List.foldl (λx1 x2=>x1++x2) #[] (aeI k.toNat its.toArray)=(aeI k.toNat its).flatten.toArray:=hf;have hl2:(aeI k.toNat its).flatten.length<=UJ:=by rw[DP,<- hlen,adn];exact hz
   refine road (HT.mulT2 l its.toArray n k t dd sl g1 hcc hk' (by rw[aak];omega) (by unfold Builtin.Tuple.tupleTooMany;rw[aak];simp;omega) (by rw[hf',aak];exact hl2)) ⟨e,?_⟩;rw[hf'];exact⟨.ref _,_,I.laid (o:=.tup (aeI k.toNat xs).flatten) (λw w q=>aag _ q) (aao _) ⟨by rw[DP,adn];exact hz,(aeI k.toNat its).flatten,vrep r _,⟨_,aaz _ rfl,rfl,⟨0,rfl⟩,rfl⟩⟩,rfl,q2 ⟨hx,hk1⟩ _ I.fresh⟩
end
end L2
namespace M
open L2
section
variable{X:Cx}{K:aeH}{μ μ':Fp}{H H':Hp}{S:ac}
def dg(S:ac)(x y:D):Option D:=match x,y with
 | .tup xs,.int k=>if -(2^62)<=k/\k<2^62/\xs.length*k.toNat<=UJ then Y (.tup (aeI k.toNat xs).flatten) else L
 | .lst xs,.int k=>if -(2^62)<=k/\k<2^62/\xs.length*k.toNat<=UJ then Y (.lst (aeI k.toNat xs).flatten) else L
 | x,y=>qaZ S x y
theorem flat1{α:Type}(xs:List α):(aeI 1 xs).flatten=xs:=by simp
theorem Vq:OpR X 2.49 (qK X.K dg):=OpR.imp (OpR.or ZO (OpR.or Vm ZI)) λx y H Q z0=>by
 obtain⟨μ,S,dx,dy,dz,hS,h1,h2,h3,post⟩:=z0;unfold dg at h3;split at h3
 ·rename_i xs k;split at h3
  ·rename_i hk;cases h3;obtain⟨a,vs,rfl,q,r⟩:=h1.sqT;have h1':=h1;refine .inr (.inl ⟨a,k,vs,rfl,h2.int_inv,q,hk.1,hk.2.1,by rw[r.length];exact hk.2.2,λhs=>?_,λz p hp=>post.tup hS hp (Reps.flat _ r)⟩)
   have e:(aeI k.toNat xs).flatten=xs:=by
    rcases hs with rfl | rfl
    ·cases r;simp
    ·exact flat1 xs
   rw[e] at post;exact post.here hS h1'
  ·cases h3
 ·rename_i xs k;split at h3
  ·rename_i hk;cases h3;obtain⟨a,vs,rfl,q,n,r⟩:=h1.sqL;exact .inr (.inr ⟨a,k,vs,rfl,h2.int_inv,q,by omega,by omega,by rw[r.length];exact hk.2.2,λp hp=>post.lst hS hp (Reps.flat _ r)⟩)
  ·cases h3
 ·exact .inl ⟨μ,S,dx,dy,dz,hS,h1,h2,h3,post⟩
noncomputable abbrev MF:=D->List D->ac->Option (D×ac)
inductive PR(K:aeH)(f:MF)(x:V)(vs:List V)(H:Hp)(Q:VK):Prop
 | mk (μ:Fp) (S:ac) (dx:D) (ds:List D) (d:D) (S':ac) (hS:SOk K μ S H) (h1:Rep K μ H x dx) (h2:Reps K μ H vs ds) (h3:f dx ds S=Y (d,S')) (post:Post K μ H S' d Q)
theorem MtR.imp{id:String}{r':V->List V->Hp->VK->Prop}(h:MtR X id r)(i:∀ x xs H Q,r' x xs H Q->r x xs H Q):MtR X id r':=λpins s σ H x xs v us Q I rx rv q=>h pins s σ H x xs v us Q I rx rv (i x xs H Q q)
def eQ:MF:=λo ds S=>match o,ds with
 | .ref r,[y]=>match S[r]? with | some 2.2=>if xs.length<UJ then Y (.non,S.set r (.lst (xs++[y]))) else L | _=>L
 | _,_=>L
def zy:MF:=λo ds S=>match ds with
 | [x]=>(lm S o).bind λys=>if cK 40 x=true/\ys.all (cK 39)=true then Y (.int (ys.countP λd=>iK d x),S) else L
 | _=>L
theorem Ni:MtR X "list.append" (PR X.K eQ):=MtR.imp Bt λx vs H Q z0=>by
 obtain⟨μ,S,dx,ds,d,S',hS,r1,r2,h,post⟩:=z0;unfold eQ at h;split at h
 ·rename_i r y;obtain⟨v,rfl,rv⟩:=r2.one;cases q:S[r]? with
  | none=>rw[q] at h;cases h
  | some c=>
   rw[q] at h;cases c with
   | dct _ _=>cases h
   | lst xs=>
    dsimp only at h;split at h
    ·rename_i hz;cases h;cases r1 with
     | @ref a _ h'=>
      obtain⟨ws,hw,rw'⟩:=hS.cell r a _ h' q;obtain⟨e,s'⟩:=hS.write h' hw (rw'.append (.cons rv .nil));exact⟨a,ws,v,rfl,rfl,hw,by rw[rw'.length];exact hz,post _ _ μ e s' .non⟩
    ·cases h
 ·cases h
theorem qz{s:gV}(I:Inv X pins σ H s):∀ {vs:List V} {us:List ce} {ds:List D},Vals vs us->Reps X.K μ H vs ds->(∀ d∈ds,cK 39 d=true) ->
  us.countP (fv X.K μ H x)=ds.countP λd=>iK d x
 | _,_,_,.nil,.nil,_=>rfl
 | _,_,_,.cons rv tv,.cons r t,ok=>by
  rw[List.countP_cons,List.countP_cons,uv I rv r (ok _ aac),qz I tv t λd m=>ok d 1.90]
def vd(S:ac):D->Bool
 | .lst _=>true
 | .rol _=>true
 | .ref r=>match S[r]? with | some (.lst _)=>true | _=>false
 | _=>false
theorem tS{d:D}(hS:SOk K μ S H)(r:Rep K μ H v d)(h:vd S d=true):∃ a vs ds,v=.ref a/\rZ K H a vs/\lm S d=Y ds/\Reps K μ H vs ds:=by
 cases r with
 | lst h' n r=>exact⟨_,_,_,rfl,.inl (.inl h'),rfl,r⟩
 | rol h' n r=>exact⟨_,_,_,rfl,.inl h',rfl,r⟩
 | krol h' r=>exact⟨_,_,_,rfl,.inr h',rfl,r⟩
 | @ref a i h'=>
  simp only[vd] at h;cases q:S[i]? with
  | none=>rw[q] at h;cases h
  | some c=>
   rw[q] at h;cases c with
   | dct _ _=>cases h
   | lst xs=>
    obtain⟨vs,e,r⟩:=hS.cell i a _ h' q;exact⟨a,vs,xs,rfl,.inl (.inl e),by simp only[lm,q],r⟩
 | _=>cases h
def qW:MF:=λo ds S=>if vd S o=true then zy o ds S else L
theorem FN(hu:X.A.units+64<cLine):MtR X "list.count" (PR X.K qW):=by
 intro pins s σ H x vs v us Q I rx rv h;obtain⟨μ,S,dx,ds,d,S',hS,r1,r2,h,post⟩:=h;unfold qW at h;split at h
 ·rename_i hl;unfold zy at h;split at h
  ·rename_i y;obtain⟨a,ws,es,rfl,hq,hse,re⟩:=tS hS r1 hl;rw[hse] at h;dsimp only[Option.bind_some] at h;split at h
   ·rename_i hk;cases h;cases rx;obtain⟨w,rfl,rw0⟩:=r2.one;obtain⟨u,rfl,ru⟩:=rv.one;obtain⟨its,rvs,⟨⟨cls,dd,data,sl⟩,n,e,hc,hdd,hd⟩,hz⟩:=I.list hq;simp only at hc hdd hd;subst hc hdd hd;have ok:=aan.mp hk.2;refine aci adl ⟨_,e,rfl⟩ F.entry_list_count (F.args_list_count_2 _ _) (SeqAt.list_countAt a its.toArray n L sl u 1.39) ⟨e,λw' hw'=>?_,?_⟩
    ·exact gZ I (by show X.A.units+1+40<cLine;omega) ru rw0 hk.1 rvs re ok w' (by simpa using hw')
    ·refine⟨.int _,H,I.tok _,⟨_,rfl⟩,?_⟩;rw[qz I rvs re ok];exact post.here hS (.int _)
   ·cases h
  ·cases h
 ·cases h
def gi(f:MF)(o:ME)(ms:MA):ME:=λenv S=>(o env S).bind λp=>if vd p.2 p.1=true then(ms env p.2).bind λq=>f p.1 q.1 q.2 else L
theorem Mc{e:tx}{es:List tx}{name:Str}{id:String}{apos:Pos}(slot:Slot "list" name id)(hty:typeOf 6.1=pure (.type "method_descriptor"))(hm:MtR X id (PR X.K f))(ho:DE X o mo)(ha:DA X (e::es) ms)
  (hbase:attributeBase o name X.env 9.3=eval o X.env)
  (hfew:((backTo cpos (Wj (e::es) X.env)).all (λx=>!x.1)&&(backToKw cpos 6.0).all (λx=>x.1.isSome)&&decide ((e::es).length+([]:List Keyword).length+(if ([]:List Keyword).isEmpty then 0 else 1)<30))=true)
  (hline:(apos.endLine==cpos.line)=true) (hs:Wj (e::es) X.env=1.2::Wj es X.env) (hpl:(backTo cpos 2.1).any (·.1)=false) :
  DE X (.Call 1.01 (e::es) [] cpos) (gi f mo ms):=
 PE.imp (pe_bm F.plainAttrs_list slot hty hm ho ha hbase hfew hline hs hpl) λσ H Q z0=>by
  obtain⟨μ,S,env,d,S',hS,hE,h,post⟩:=z0;obtain⟨x,S1,h1,h⟩:=dW h;dsimp only at h;split at h
  ·rename_i hl;obtain⟨xs,S2,h2,h⟩:=dW h;refine⟨μ,S,env,x,S1,hS,hE,h1,λv H1 μ1 e1 s1 r1=>⟨?_,μ1,S1,env,xs,S2,s1,hE.mono e1,h2,λvs H2 μ2 e2 s2 r2=>⟨μ2,S2,x,xs,d,S',s2,r1.mono e2,r2,h,(post.ext e1).ext e2⟩⟩⟩;obtain⟨a,ws,es,rfl,hq,z,z⟩:=tS s1 r1 hl;exact .inl ⟨rfl,ws,hq⟩
  ·cases h
end
end M
namespace HT
open AutoSeq1 (wpAny_loadPart')
section
variable{prog:vx}{w:Pn}{A:RQ}{E:ce->gV->Prop}{s:gV}
theorem Kl{Q:ce->gV->Prop}(hit:s.heap.IsTupleIter it t i)(ht:s.heap.IsTuple t items)(hx:items[i]?=Y x)
  (hQ:∀ h',h'.IsTupleIter it t (i+1)->Heap.SameBut it s.heap h'->Q x { s with heap:=h' }):aeG 1.4 A (Builtin.SmallTypes.nextOf 8.0) Q E s:=by
 obtain⟨o,ho,hc,hd⟩:=id hit;obtain⟨ol,hol,z,nl,hdl⟩:=ht;unfold Builtin.SmallTypes.nextOf;refine aab (ack (name:=Str.ofString "__next__") hit.typeIs acb (acP acb hit.typeIs adD ?_ (adw _)));show aeG _ _ (field 8.0 0 >>= _) _ _ s;refine aab (abx ho hd (x:=.ref t) rfl ?_);show aeG _ _ (if (Value.ref t==Value.none)=true then _ else _) _ _ s;rw[if_neg (show ¬ ((Value.ref t==Value.none)=true) from aeJ)];show aeG _ _ (field 8.0 1 >>= _) _ _ s;refine aab (abx ho hd (x:=.int i 0) rfl ?_);show aeG _ _ (seqItems? (.ref t) >>= _) _ _ s;refine aab (wpAny_seqItems hol hdl ?_);simp only[abp,hx];refine aab (abL ho hd 0.4 (aat ⟨x,rfl,aat (hQ _ ⟨_,aba _ ho (abV (abQ hd _)),(Obj.cls_mapFields ..).trans hc,?_⟩ (aes ..))⟩));rw[abQ hd];simp[rawInt]
theorem Cd(hh:A.handled=L)(hit:s.heap.IsTupleIter it t i)(ht:s.heap.IsTuple t items)(hx:items[i]?=L)
  (hE:∀ h' e,Heap.ExtBut it s.heap h'->(∃ o,h'.get? e=Y o/\o.cls=.type "StopIteration")->E (.ref e) { s with heap:=h' }):aeG 1.4 A (Builtin.SmallTypes.nextOf 8.0) Q E s:=by
 obtain⟨o,ho,hc,hd⟩:=id hit;obtain⟨ol,hol,z,nl,hdl⟩:=ht;unfold Builtin.SmallTypes.nextOf;refine aab (ack (name:=Str.ofString "__next__") hit.typeIs acb (acP acb hit.typeIs adD ?_ (adw _)));show aeG _ _ (field 8.0 0 >>= _) _ _ s;refine aab (abx ho hd (x:=.ref t) rfl ?_);show aeG _ _ (if (Value.ref t==Value.none)=true then _ else _) _ _ s;rw[if_neg (show ¬ ((Value.ref t==Value.none)=true) from aeJ)];show aeG _ _ (field 8.0 1 >>= _) _ _ s;refine aab (abx ho hd (x:=.int i 0) rfl ?_);show aeG _ _ (seqItems? (.ref t) >>= _) _ _ s;refine aab (wpAny_seqItems hol hdl ?_);simp only[abp,hx];refine aab (adG (aab (abL ho hd 0.4 ?_)));show aeG _ _ (newExc (.type "StopIteration") [] >>= _) _ _ _;refine aab ?_;simp only[newExc,newTuple];refine aab (abf ?_ (by size_fits));refine aab (m:=firstArgMember _ _) (wpAny_of_eq (a:=Value.none) (by first | rfl | (simp only[firstArgMember];rfl)) (abf ?_ (by size_fits)));simp only[raiseNew];refine aab (wpAny_handled ?_);(first | rw[show A.in1.handled=L from hh] | rw[hh]);refine aab (aat (wpAny_throw (hE _ _ (((aes ..).extBut.push _).push _) ⟨_,aaz _ rfl,rfl⟩)))
end
theorem SW{A:RQ}(hh:A.handled=L)(it t:td)(hne:t≠it)(items:Array ce) :
  Draws prog w A it [it,t] items.size (λi v=>items[i]?=Y v) (λi h=>h.IsTupleIter it t i/\h.IsTuple t items) where
 live:=λz z st=>by obtain⟨o,ho,z⟩:=st.1;exact⟨o,ho⟩
 frame:=λz z z st hk=>by
  obtain⟨⟨o,ho,r⟩,⟨o2,ho2,r2⟩⟩:=st;exact⟨⟨o,hk it 0.4 o ho,r⟩,⟨o2,hk t 0.4 o2 ho2,r2⟩⟩
 item:=λi s Q E hi st hQ=>Kl st.1 st.2 (x:=items[i]) (by simp[hi]) λh' hit' hs'=>hQ _ h' s.toks (by simp[hi]) ⟨hit',st.2.extBut hs'.extBut hne⟩ hs'
 done:=λs Q E st hE=>Cd hh st.1 st.2 0.4 hE
theorem Of(l:td)(items:Array ce)(n:Nat)(dct:Option td)(sl:Array 1.04) :
  Meets (Builtin.«enumerate.__new__» ⟨[.type "enumerate",.ref l],[]⟩) (λz R s=>s.heap.get? l=Y ⟨.type "tuple",dct,.seq items n,sl⟩ /\
   R (.ok (.ret (.ref (s.heap.push { cls:=.type "tuple_iterator",data:=.fields #[.ref l,.int 0 0] }).objs.size)))
    {s with heap:=(s.heap.push { cls:=.type "tuple_iterator",data:=.fields #[.ref l,.int 0 0] }).push { cls:=.type "enumerate",data:=.fields #[.none,.bool false,.ref s.heap.objs.size,rawInt 0,.none,.none] } }):=
 .of_wp λprog w A R s h=>by
  obtain⟨hp,g,d,tk,os⟩:=s;obtain⟨hl,h⟩:=h;have hsub:=sub_enumerate;have hL:Heap.IsTuple (Shared.heap ⟨hp,g,d,tk,os⟩) l items:=⟨_,hl,rfl,n,rfl⟩
  wp_walk using wpAny_loadPart' hl
  refine wpAny_stack_any λst=>aat ?_;split
  ·rename_i c _ _ _ _ _;cases(c==Value.type "enumerate")<;>(wp_walk using wpAny_loadPart' hl,acZ hL;exact⟨_,rfl,h⟩)
  ·wp_walk using wpAny_loadPart' hl,acZ hL
   exact⟨_,rfl,h⟩
end HT
namespace HT
section
variable{prog:vx}{w:Pn}{A:RQ}{E:ce->gV->Prop}{s:gV}
theorem KA{Q:ce->gV->Prop}(hL:s.heap.IsTuple l items)
  (h:∀ h':Ud,IsEnum h' (s.heap.objs.size+1) s.heap.objs.size 0 .none->h'.IsTupleIter s.heap.objs.size l 0->h'.objs.size=s.heap.objs.size+2->(∀ b o,s.heap.get? b=Y o->h'.get? b=Y o)->Q (.ref (s.heap.objs.size+1)) { s with heap:=h' }) :
  aeG 1.4 A (call (.type "enumerate") [.ref l]) Q E s:=by
 obtain⟨⟨c,dct,dt,sl⟩,hl,hc,n,hd⟩:=hL;simp only at hc hd;subst hc hd;refine callType_new F.called_enumerate 0.1 (F.typeCall_enumerate_1 _) (F.newCall_enumerate_1 _) (λobj=>F.args_object_init_2 obj _) F.entry_enumerate_new (Of l items n dct sl) ⟨hl,?_⟩;have hz:(s.heap.push { cls:=.type "tuple_iterator",data:=.fields #[.ref l,.int 0 0] }).objs.size=s.heap.objs.size+1:=acW ..;show _/\_;rw[hz]
 have he:IsEnum ((s.heap.push { cls:=.type "tuple_iterator",data:=.fields #[.ref l,.int 0 0] }).push { cls:=.type "enumerate",data:=.fields #[.none,.bool false,.ref s.heap.objs.size,rawInt 0,.none,.none] }) (s.heap.objs.size+1) s.heap.objs.size 0 .none:=by
  have q:=aaz (s.heap.push { cls:=.type "tuple_iterator",data:=.fields #[.ref l,.int 0 0] }) (o:={ cls:=.type "enumerate",data:=.fields #[.none,.bool false,.ref s.heap.objs.size,rawInt 0,.none,.none] }) rfl;rw[hz] at q;exact q
 exact⟨⟨_,he,rfl⟩,h _ he ⟨_,aag _ (aaz _ rfl),rfl,rfl⟩ (by rw[acW,hz]) λb o x=>aag _ (aag _ x)⟩
end
end HT
namespace L2
section
variable{X:Cx}{pins:List (td×Obj)}{σ:St}{H:Hp}{s:gV}{h':Ud}
theorem Inv.turnLaid{fp:List td}{a:td}{o:HO}{t':Nat}(I:Inv X pins σ H s)(k:∀ b o,b∉fp->s.heap.get? b=Y o->h'.get? b=Y o)(hf:∀ b∈fp,vG X pins H b)(hp:s.heap.objs.size<=a)
  (new:ObjOk X.prog X.w 1.66 h' a o):Inv X pins σ 1.66 { s with heap:=h',toks:=t' }:=by
 have hn:H a=L:=I.hok.fresh hp;have st:∀ b u,H b=Y u->upd H a o b=Y u:=λb u e=>(bj (cP e hn)).trans e;have nfp:∀ b u,H b=Y u->b∉fp:=λb u e z=>by rw[(hf b z).1] at e;cases e
 refine I.step (g':=s.gens) (d':=s.drawn) (ch:=fp) (λb hb=>?_) (λb o j j hc e j=>k b o hc e) (λb o j j hc e j=>⟨o.slots,k b o hc e⟩) (λb u j e n=>?_) (λb o hc e=>⟨o,k b o hc e⟩) (λb xs e=>st b _ e) (λb o u e=>st b _ e) (λb ps e=>⟨#[],by rw[st b _ e];simp⟩) (λm hm=>?_) (λb u e=>?_) I.bare
 ·obtain⟨f0,f1,f2,f3,f4,f5⟩:=hf b hb;exact⟨f3,f1,f4,f5⟩
 ·rw[bj (aaI (aaD (aaq e) hp))];exact n
 ·obtain⟨o',es,ep,ho,r⟩:=hm;exact⟨o',es,ep,k _ o' (λz=>(hf _ z).2.1 rfl) ho,r⟩
 ·by_cases hb:b=a
  ·subst hb;rw[bF] at e;cases e;exact new
  ·rw[bj hb] at e;refine(I.hok b u e).stay (λc v hc q=>k c v ?_ q) (λj q=>st _ _ q) λj j q=>st _ _ q;rcases hc with z | z
   ·rw[z];exact nfp b u e
   ·exact nfp c _ z
theorem Inv.turnedL{fp:List td}{t':Nat}(I:Inv X pins σ H s)(k:∀ b o,b∉fp->s.heap.get? b=Y o->h'.get? b=Y o)(hf:∀ b∈fp,vG X pins H b):Inv X pins σ H { s with heap:=h',toks:=t' }:=by
 have nfp:∀ b u,H b=Y u->b∉fp:=λb u e z=>by rw[(hf b z).1] at e;cases e
 refine I.step (g':=s.gens) (d':=s.drawn) (ch:=fp) (λb hb=>?_) (λb o w w hc e w=>k b o hc e) (λb o w w hc e w=>⟨o.slots,k b o hc e⟩) (λb u w e n=>n) (λb o hc e=>⟨o,k b o hc e⟩) (λb xs e=>e) (λb o u e=>e) (λb ps e=>⟨#[],by rw[e];simp⟩) (λm hm=>?_) (λb u e=>?_) I.bare
 ·obtain⟨f0,f1,f2,f3,f4,f5⟩:=hf b hb;exact⟨f3,f1,f4,f5⟩
 ·obtain⟨o',es,ep,ho,r⟩:=hm;exact⟨o',es,ep,k _ o' (λz=>(hf _ z).2.1 rfl) ho,r⟩
 ·refine(I.hok b u e).stay (λc v hc q=>k c v ?_ q) (λw q=>q) λw w q=>q;rcases hc with z | z
  ·rw[z];exact nfp b u e
  ·exact nfp c _ z
def Ite(K:aeH)(a:td):It:=
 ⟨λi H=>∃ xs x,sO K H a xs/\xs[i]?=Y x,λi H x H'=>∃ p v,x=.ref p/\H p=L/\H'=upd H p (.tup [.int (i:Nat),v])/\∀ xs,sO K H a xs->xs[i]?=Y v,λi H=>∃ xs,sO K H a xs/\xs.length<=i⟩
theorem Mm{K:aeH}{k:Nat}(a e it:td)(hei:e≠it):OJ P w K 1.19 (Ite K a) [e,it] e (λi h=>(∃ old,IsEnum h e it i old)/\h.IsTupleIter it a i) where
 mem:=by simp
 obj:=λi h st b hb=>by
  obtain⟨⟨old,he⟩,⟨o,ho,hc,hd⟩⟩:=st;simp only[aaG,acf,adu] at hb;rcases hb with rfl | rfl
  ·exact⟨_,he,λv z=>by cases z⟩
  ·exact⟨o,ho,λv z=>by rw[hd] at z;cases z⟩
 keep:=λi h h' st kk=>by
  obtain⟨⟨old,he⟩,⟨o,ho,r⟩⟩:=st;exact⟨⟨old,kk e 0.4 _ he⟩,⟨o,kk it 0.4 _ ho,r⟩⟩
 item:=by
  intro X hP hw hK hc i pins s σ H E I hf st hg;subst hP hw hK;obtain⟨xs,x,hq,hx⟩:=hg;obtain⟨its,rv,p,hz⟩:=I.tuple hq;have hT:s.heap.IsTuple a its.toArray:=p;have hh:=I.ok.hd hc
  have ne1:a≠e:=λz=>by
   obtain⟨⟨old,he⟩,v⟩:=st;obtain⟨o,ho,hcl,v⟩:=hT;rw[z,he] at ho;cases ho;exact absurd (show Value.type "enumerate" = Value.type "tuple" from hcl) 0.1
  have ne2:a≠it:=λz=>by
   obtain⟨v,⟨o',ho',hc',v⟩⟩:=st;obtain⟨o,ho,hcl,v⟩:=hT;rw[z,ho'] at ho;cases ho;rw[hc'] at hcl;exact absurd hcl 0.1
  have W:=WalksT.enumerateD (HT.SW (prog:=X.prog) (w:=X.w) (A:=X.A.in1) hh it a ne2 its.toArray) e hei (by simp;exact⟨hei,λz=>ne1 z.symm⟩) 0.4;have hi:i<its.toArray.size:=by rw[aak,<- rv.length];exact(aaa.mp hx).1
  obtain⟨⟨old,he⟩,hit⟩:=st;have Te:s.heap.objs.size≠e:=abW (aaq he)
  have Ti:s.heap.objs.size≠it:=by
   obtain⟨o,ho,v⟩:=hit;exact abW (aaq ho)
  refine wpAny_pyNext_enum_itemD (HT.SW (prog:=X.prog) (w:=X.w) (A:=X.A.in1) hh it a ne2 its.toArray) he ⟨hit,hT⟩ hi hei (by simp;exact⟨hei,λz=>ne1 z.symm⟩) λy h1 tk hy ho st1 hT1 hsz kk=>⟨_,rfl,?_⟩
  refine W.go es k pos i s.heap.objs.size _ _ _ ⟨⟨y,ho⟩,st1,Te,Ti⟩ λh2 st2 kk2=>?_;generalize hTT:s.heap.objs.size=T at *;obtain⟨u,hu,ru⟩:=rv.get hx
  have ey:y=u:=by
   rw[show its.toArray[i]?=its[i]? by simp,hu] at hy;exact(aaB hy).symm
  subst ey;have apT:T∉[e,it]:=by simp;exact⟨Te,Ti⟩
  have kall:∀ b o,b∉[e,it]->s.heap.get? b=Y o->h2.get? b=Y o:=λb o hb q=>kk2 b o hb (kk b o (λz=>hb (by simp[z])) (λz=>hb (by simp[z])) q);have hT2:IsTupN h2 T #[.int i tk,y]:=⟨_,kk2 T _ apT hT1,rfl,⟨_,rfl⟩,rfl⟩
  have hTs:s.heap.objs.size<=T:=aeg hTT;refine⟨.ref T,upd H T (.tup [.int (i:Nat),x]),I.turnLaid kall hf hTs ⟨by show 2<=UJ;decide,[.int i tk,y],.cons ⟨_,rfl⟩ (.cons ru .nil),hT2⟩,rfl,⟨T,x,rfl,I.hok.fresh hTs,rfl,λys hy=>by rw[I.tuple_inj hy hq];exact hx⟩,⟨st2.1,st2.2.1⟩,λb hb=>?_⟩;have nb:b≠T:=λz=>apT (by rw[<- z];exact hb);rw[bj nb];exact(hf b hb).1
 done:=by
  intro X hP hw hK hc i pins s σ H E I hf st hg;subst hP hw hK;obtain⟨xs,hq,hx⟩:=hg;obtain⟨its,rv,p,hz⟩:=I.tuple hq;have hT:s.heap.IsTuple a its.toArray:=p;have hh:=I.ok.hd hc
  have ne1:a≠e:=λz=>by
   obtain⟨⟨old,he⟩,v⟩:=st;obtain⟨o,ho,hcl,v⟩:=hT;rw[z,he] at ho;cases ho;exact absurd (show Value.type "enumerate" = Value.type "tuple" from hcl) 0.1
  have D':Draws X.prog X.w X.A.in1 it [it,a] i (λv v=>True) (λj h=>j=i/\h.IsTupleIter it a i/\h.IsTuple a its.toArray):=
   {live:=λv v q=>by obtain⟨v,⟨o,ho,v⟩,v⟩:=q;exact⟨o,ho⟩
    frame:=λv v v q hk=>by
     obtain⟨q0,⟨o,ho,r⟩,⟨o2,ho2,r2⟩⟩:=q;exact⟨q0,⟨o,hk it 0.4 o ho,r⟩,⟨o2,hk a 0.4 o2 ho2,r2⟩⟩
    item:=λj v v v hj q v=>absurd q.1 (aaI hj)
    done:=λs Q E q hE=>HT.Cd hh q.2.1 q.2.2 (by simp;have:=rv.length;omega) hE }
  have W:=WalksT.enumerateD D' e hei (by simp;exact⟨hei,λz=>ne1 z.symm⟩) 0.4;refine W.done s _ _ ⟨st.1,rfl,st.2,hT⟩ λh2 tk kk=>⟨rfl,I.turnedL kk hf⟩
 self:=λA i s Q E st h=>by
  obtain⟨⟨old,he⟩,v⟩:=st;exact wpAny_pyIter_enum he h
def iEnum(K:aeH)(t:TA):TI:=λσ H R=>t σ H λxs H1=>∃ a,xs=[.ref a]/\(∃ ys,sO K H1 a ys)/\R (Ite K a) H1
end
section
variable{X:Cx}
theorem UZ{a:tx}{k:Nat}{p:Pos}(hg:Gl X "enumerate")(hm:X.mg "enumerate" = L)(ha:PA X [a] ta)(hs:Wj [a] X.env=[5.8]) :
  PI X (.Tuple es k tp) (.Call (.Name "enumerate" p) [a] [] pos) (iEnum X.K ta):=by
 intro pins s σ H R I h;refine Call_ (sy I hg hm boot_enumerate (abz (eG 6.9 λus s1 ⟨vs,H1,I1,r1,q1⟩=>?_) hs rfl));obtain⟨t,rfl,⟨ys,hq⟩,q⟩:=q1;obtain⟨u,rfl,ru⟩:=r1.one;cases ru;obtain⟨its,rv,pt,hz⟩:=I1.tuple hq;refine HT.KA pt λh' he hi hsz kk=>wpAny_pyIter_enum he ?_;refine⟨s1.heap.objs.size+1,[s1.heap.objs.size+1,s1.heap.objs.size],_,_,H1,rfl,I1.kept (t':=s1.toks) kk,Mm t _ _ (Nat.succ_ne_self _),⟨⟨_,he⟩,hi⟩,λb hb=>?_,q⟩;simp only[aaG,acf,adu] at hb;rcases hb with rfl | rfl
 ·exact I1.fpOk (acX _) (I1.hok.fresh (acX _))
 ·exact I1.fpOk (aao _) 8.7
end
end L2
namespace M
open L2
section
variable{X:Cx}{K:aeH}{μ μ':Fp}{H H':Hp}{S:ac}
def fK:Nat->List D->List D
 | _,[]=>[]
 | i,x::r=>.tup [.int (i:Nat),x]::fK (i+1) r
theorem qY:∀ (i:Nat) (xs:List D),(fK i xs).length=xs.length
 | _,[]=>rfl
 | i,_::r=>by rw[fK,aam,aam,qY (i+1) r]
theorem Cb:∀ (k:Nat) (xs:List D) (i:Nat) (d:D),(fK k xs)[i]?=Y d->∃ x,xs[i]?=Y x/\d=.tup [.int ((k+i:Nat):Int),x]
 | _,[],i,d,h=>by simp[fK] at h
 | k,x::r,0,d,h=>by simp[fK] at h;exact⟨x,rfl,h.symm⟩
 | k,x::r,i+1,d,h=>by
  rw[fK,adR] at h;obtain⟨y,h1,h2⟩:=Cb (k+1) r i d h;refine⟨y,by simpa using h1,?_⟩;rw[h2,show k+1+i=k+(i+1) by omega]
theorem NF(r:Rep K μ H (.ref a) 5.2):OM K μ H (Ite K a) (fK 0 xs):=λμ' H' S' e s i=>by
 have r':=r.monoP e;obtain⟨b,vs,hb,hq,rs⟩:=r'.sqT;cases hb;refine⟨λd hd=>?_,λhl=>⟨vs,hq,by rw[rs.length];rw[qY] at hl;exact hl⟩⟩;obtain⟨x,hx,rfl⟩:=Cb 0 xs i d hd;obtain⟨v,hv,rv⟩:=rs.get hx;refine⟨⟨vs,v,hq,hv⟩,λy H2 hy=>?_⟩;obtain⟨p,w,rfl,hp,rfl,hw⟩:=hy;have ew:w=v:=by have:=hw vs hq;rw[hv] at this;exact(aaB this).symm
 subst ew;obtain⟨e2,s2⟩:=s.laid (o:=.tup [.int (i:Nat),w]) hp;refine⟨e2,s2,?_⟩;rw[acI];exact .tup bF (s.notMem hp) (.cons (.int _) (.cons (rv.mono e2) .nil))
def gk(ms:MA):MA:=λenv S=>(ms env S).bind λp=>match p.1 with | [.tup xs]=>Y (fK 0 xs,p.2) | _=>L
theorem WT{a:tx}{k:Nat}{p:Pos}(hm:X.mg "enumerate" = L)(ha:DA X [a] ms)(hg:Gl X "enumerate")(hs:Wj [a] X.env=[5.8]) :
  DI X (.Tuple es k tp) (.Call (.Name "enumerate" p) [a] [] pos) (gk ms):=PI.imp (UZ hg hm ha hs) λσ H R z0=>by
 obtain⟨μ,S,env,xs,S',hS,hE,h,post⟩:=z0;obtain⟨ds,S1,h1,h⟩:=dW h;refine⟨μ,S,env,ds,S1,hS,hE,h1,λvs H1 μ1 e1 s1 r1=>?_⟩;dsimp only at h;split at h
 ·rename_i ys;cases h;obtain⟨v,rfl,rv⟩:=r1.one;have rv':=rv;obtain⟨b,ws,rfl,hq,rs⟩:=rv.sqT;exact⟨b,rfl,⟨ws,hq⟩,post _ H1 μ1 e1 s1 (NF rv')⟩
 ·cases h
end
end M
namespace M
open L2
def sE:List D->Option (List Int)
 | []=>Y []
 | .int i::r=>(sE r).bind λns=>Y (i::ns)
 | _::_=>L
theorem vW:∀ {ds:List D} {ns:List Int},sE ds=Y ns->ds=ns.map D.int
 | [],ns,h=>by cases h;rfl
 | .int i::r,ns,h=>by
  obtain⟨ms,h1,h2⟩:=iq h;cases h2;rw[aah,<- vW h1]
 | .non::_,ns,h=>by cases h
 | .bl _::_,ns,h=>by cases h
 | .str _::_,ns,h=>by cases h
 | .tup _::_,ns,h=>by cases h
 | .lst _::_,ns,h=>by cases h
 | .rol _::_,ns,h=>by cases h
 | .dct _ _::_,ns,h=>by cases h
 | .ref _::_,ns,h=>by cases h
theorem ze:∀ ns:List Int,sE 1.08=Y ns
 | []=>rfl
 | n::ns=>by rw[aah,sE,ze ns];rfl
section
variable{X:Cx}{K:aeH}{μ:Fp}{H:Hp}{S:ac}
theorem Bn:∀ {vs:List V} {ns:List Int},Reps K μ H vs 1.08->vs=ns.map V.int
 | _,[],.nil=>rfl
 | _,n::ns,.cons h t=>by rw[h.int_inv,Bn t];rfl
def vX(S:ac)(d:D):Option (List Int):=if vd S d=true then(lm S d).bind λds=>(sE ds).bind λns=>if ns.length<64 then Y ns else L else L
theorem JR{d:D}(hS:SOk K μ S H)(r:Rep K μ H v d)(h:vX S d=Y ns):∃ a,v=.ref a/\rZ K H a 9.2/\ns.length<64:=by
 unfold vX at h;split at h
 ·rename_i hl;obtain⟨a,vs,ds,rfl,hq,hs,rs⟩:=tS hS r hl;rw[hs] at h;have h:((sE ds).bind λns=>if ns.length<64 then Y ns else L)=Y ns:=h;obtain⟨ms,h1,h2⟩:=iq h;split at h2
  ·rename_i h3;cases h2;have:=vW h1;subst this;exact⟨a,rfl,by rw[<- Bn rs];exact hq,h3⟩
  ·cases h2
 ·cases h
end
section
variable{X:Cx}{K:aeH}{μ:Fp}{H:Hp}{S:ac}
def nN(i j:Nat)(ms:MA):MS:=λenv S=>(ms env S).bind λp=>match p.1 with | [v,w]=>Y (.nx ((env.set i (Y v)).set j (Y w)) p.2) | _=>L
theorem qbk{i j:Nat}{a b:tx}{pt:Pos}(hc:X.calm=true)(hN:X.N.Nodup)(hi:X.N[i]?=Y x)(hj:X.N[j]?=Y y)(hij:i≠j)
  (hx:X.env.scope.names.lookup x=Y .local) (hy:X.env.scope.names.lookup y=Y .local) (ha:DA X [a,b] ms)
  (hw:swappedStores [.Tuple [.Name x px,.Name y py] kt pt] 9.1 X.env=pure (Y [x,y])) :
  DS X (.Assign [.Tuple [.Name x px,.Name y py] kt pt] 9.1 pos) (nN i j ms):=
 PS.imp (Zr hc hN hi hj hij hx hy ha hw rfl) λE σ H z0=>by
  obtain⟨μ,S,env,o,hS,hE,h,post⟩:=z0;obtain⟨ds,S1,h1,h⟩:=dW h;refine⟨μ,S,env,ds,S1,hS,hE,h1,λvs H1 μ1 e1 s1 r1=>?_⟩;dsimp only at h;split at h
  ·rename_i v w;cases h;obtain⟨v',w',rfl,rv,rw'⟩:=r1.two;exact⟨v',w',rfl,post _ H1 μ1 e1 s1 (((hE.mono e1).set rv i).set rw' j)⟩
  ·cases h
def yg:tx->Bool
 | .Starred _ _=>false
 | _=>true
theorem Pl{px py pt:Pos}(hb:X.env.blockKind=.function)(hx:X.env.scope.names.lookup x=Y .local)(hy:X.env.scope.names.lookup y=Y .local)(hne:(x==y)=false)
  (hl:(py.line==px.line)=true) (ha:yg a=true) (hb':yg b=true) (hf:(foldedForSure 8 a&&foldedForSure 8 b)=false) (hcn:(constantsAlone 8 a&&constantsAlone 8 b)=false) :
  swappedStores [.Tuple [.Name x px,.Name y py] kt pt] 9.1 X.env=pure (Y [x,y]):=by
 have hkx:X.env.kindOf x=Y .local:=hx;have hky:X.env.kindOf y=Y .local:=hy
 have hs:([a,b].any λe=>match e with | .Starred ..=>true | _=>false)=false:=by
  have q:∀ e:tx,yg e=true->(match e with | .Starred ..=>true | _=>false:Bool)=false:=λe h=>by cases e<;>first | rfl | cases h
  simp only[abr,List.any_nil,q a ha,q b hb',Bool.or_self]
 have hxy:(y==x)=false:=by
  rw[Bool.eq_false_iff] at hne ⊢;intro z;exact hne (by rw[beq_iff_eq] at z ⊢;exact z.symm)
 have hed:([x,y]:List Str).eraseDups=[x,y]:=by simp[List.eraseDups_cons,hxy]
 have hl':py.line=px.line:=by simpa using hl
 unfold swappedStores;simp only[aam,abk,hb];simp only[abe,List.all_nil,adg,hf,hcn];generalize hg:List.filterMap _ [Expr.Name x px,Expr.Name y py]=L4
 have hL:L4=[x,y]:=by
  rw[<- hg];have e0:(Option.map (λ(x:tx)=>x.pos.line) [Expr.Name x px,Expr.Name y py].head?).getD 0=px.line:=rfl;rw[aaT,aaT];have e1:(Expr.Name x px).pos=px:=rfl;simp[hkx,hky,e0,e1,hl']
 subst hL;rw[if_neg 0.1]
 rw[if_neg (by
  intro z;have:([a,b].any λe=>match e with | .Starred ..=>true | _=>false)=true:=z
  rw[hs] at this;cases this)]
 rw[if_neg (by rw[hed];simp),if_neg aeJ,if_neg aeJ]
end
end M
namespace L2
section
variable{X:Cx}{pins:List (td×Obj)}{σ:St}{H:Hp}{s:gV}{a:td}{xs:List V}
theorem Inv.tupD(I:Inv X pins σ H s)(h:sO X.K H a xs):∃ ob,s.heap.get? a=Y ob/\ob.cls=.type "tuple"/\ob.dict=L:=by
 rcases h with h | ⟨o,its,n,hk,hc,hdn,hs,hz,r⟩
 ·obtain⟨z,its,r,ob,e,c,d,dn⟩:=h.ok I.hok;exact⟨ob,e,c,dn⟩
 ·exact⟨o,I.kIn a o hk,hc,hdn⟩
variable{o e:tx}{es:List tx}{to:TE}{t:TA}{name:Str}{apos cpos:Pos}{id:String}{r:V->List V->Hp->VK->Prop}
def tBT(K:aeH)(r:V->List V->Hp->VK->Prop)(to:TE)(t:TA):TE:=λσ H Q=>to σ H λx H1=>(∃ p xs,x=.ref p/\sO K H1 p xs)/\t σ H1 λxs H2=>r x xs H2 Q
theorem Qp(slot:Slot "tuple" name id)(hty:typeOf 6.1=pure (.type "method_descriptor"))(hm:MtR X id r)(ho:PE X o to)(ha:PA X (e::es) t)
  (hbase:attributeBase o name X.env 9.3=eval o X.env)
  (hfew:((backTo cpos (Wj (e::es) X.env)).all (λx=>!x.1)&&(backToKw cpos 6.0).all (λx=>x.1.isSome)&&decide ((e::es).length+([]:List Keyword).length+(if ([]:List Keyword).isEmpty then 0 else 1)<30))=true)
  (hline:(apos.endLine==cpos.line)=true) (hs:Wj (e::es) X.env=1.2::Wj es X.env) (hplain:(backTo cpos 2.1).any (·.1)=false) :
  PE X (.Call 1.01 (e::es) [] cpos) (tBT X.K r to t):=by
 intro pins s σ H Q I h;refine acQ hbase hfew hline rfl (eG 1.41 λv s1 ⟨x,H1,I1,r1,ty,q1⟩=>?_);obtain⟨p,ys,rfl,hq⟩:=ty;cases r1;obtain⟨ob,e1,e2,e3⟩:=I1.tupD hq;refine⟨"tuple",id,F.plainAttrs_tuple,slot,hty,⟨ob,e1,e2⟩,λa z=>by cases z;exact⟨ob,e1,e3⟩,?_⟩;have hA:=ha cpos pins s1 σ H1 _ I1 q1;rw[hs] at hA ⊢;refine acR (by show(false||(backTo cpos 2.1).any (·.1))=false;rw[hplain]<;>rfl) (acA ?_);exact eG hA λus s2 ⟨vs,H2,I2,r2,q2⟩=>hm pins s2 σ H2 (V.ref p) vs _ us Q I2 (show RelV (V.ref p) (Value.ref p) from rfl) r2 q2
end
end L2
namespace M
open L2
section
variable{X:Cx}{K:aeH}{μ:Fp}{H:Hp}{S:ac}
def Ih:D->Bool
 | .tup _=>true
 | _=>false
def iJ:MF:=λo ds S=>if Ih o=true then zy o ds S else L
theorem Nh(hu:X.A.units+64<cLine):MtR X "tuple.count" (PR X.K iJ):=by
 intro pins s σ H x vs v us Q I rx rv h;obtain⟨μ,S,dx,ds,d,S',hS,r1,r2,h,post⟩:=h;unfold iJ at h;split at h
 ·rename_i hl;cases dx with
  | tup es=>
   unfold zy at h;split at h
   ·rename_i y;have h:(if cK 40 y=true/\es.all (cK 39)=true then Y (D.int (es.countP λd=>iK d y),S) else L)=Y (d,S'):=h;split at h
    ·rename_i hk;cases h;obtain⟨a,ws,rfl,hq,re⟩:=r1.sqT;cases rx;obtain⟨w,rfl,rw0⟩:=r2.one;obtain⟨u,rfl,ru⟩:=rv.one;obtain⟨its,rvs,pt,hz⟩:=I.tuple hq;obtain⟨⟨cls,dd,data,sl⟩,e,hc,n,hd⟩:=id pt;simp only at hc hd;subst hc hd;have ok:=aan.mp hk.2;refine aci aez ⟨_,e,rfl⟩ F.entry_tuple_count (F.args_tuple_count_2 _ _) (SeqAt.tuple_countAt a its.toArray n dd sl u 1.39) ⟨e,λw' hw'=>?_,?_⟩
     ·exact gZ I (by show X.A.units+1+40<cLine;omega) ru rw0 hk.1 rvs re ok w' (by simpa using hw')
     ·refine⟨.int _,H,I.tok _,⟨_,rfl⟩,?_⟩;rw[qz I rvs re ok];exact post.here hS (.int _)
    ·cases h
   ·cases h
  | _=>cases hl
 ·cases h
def mj(f:MF)(o:ME)(ms:MA):ME:=λenv S=>(o env S).bind λp=>if Ih p.1=true then(ms env p.2).bind λq=>f p.1 q.1 q.2 else L
def mn(o:ME)(ms:MA):ME:=λenv S=>(o env S).bind λp=>if Ih p.1=true then(ms env p.2).bind λq=>iJ p.1 q.1 q.2 else if vd p.2 p.1=true then(ms env p.2).bind λq=>qW p.1 q.1 q.2 else L
theorem qbx{e:tx}{es:List tx}{apos:Pos}(hu:X.A.units+64<cLine)(ho:DE X o mo)(ha:DA X (e::es) ms)
  (hbase:attributeBase o "count" X.env 9.3=eval o X.env)
  (hfew:((backTo cpos (Wj (e::es) X.env)).all (λx=>!x.1)&&(backToKw cpos 6.0).all (λx=>x.1.isSome)&&decide ((e::es).length+([]:List Keyword).length+(if ([]:List Keyword).isEmpty then 0 else 1)<30))=true)
  (hline:(apos.endLine==cpos.line)=true) (hs:Wj (e::es) X.env=1.2::Wj es X.env) (hpl:(backTo cpos 2.1).any (·.1)=false) :
  DE X (.Call (.Attribute o "count" apos) (e::es) [] cpos) (mn mo ms):=by
 have hT:=Qp (X:=X) aez F.type_tuple_count (Nh hu) ho ha hbase hfew hline hs hpl;have hL:=Mc (X:=X) adl F.type_list_count (FN hu) ho ha hbase hfew hline hs hpl;intro pins s σ H Q I ⟨μ,S,env,d,S',hS,hE,h,post⟩;obtain⟨x,S1,h1,h⟩:=dW h;dsimp only at h;split at h
 ·rename_i ht;obtain⟨xs,S2,h2,h⟩:=dW h;refine hT pins s σ H Q I ⟨μ,S,env,x,S1,hS,hE,h1,λv H1 μ1 e1 s1 r1=>⟨?_,μ1,S1,env,xs,S2,s1,hE.mono e1,h2,λvs H2 μ2 e2 s2 r2=>⟨μ2,S2,x,xs,d,S',s2,r1.mono e2,r2,h,(post.ext e1).ext e2⟩⟩⟩;cases x<;>first | cases ht | skip
  obtain⟨a,ws,rfl,hq,z⟩:=r1.sqT;exact⟨a,ws,rfl,hq⟩
 ·refine hL pins s σ H Q I ⟨μ,S,env,d,S',hS,hE,?_,post⟩;show(mo env S).bind _=_;rw[h1];exact h
end
end M
namespace M
open L2
section
variable{X:Cx}{K:aeH}{μ μ':Fp}{H H':Hp}{S S':ac}
def gm:D->Option cj
 | .int i=>Y (.inl i)
 | .str x=>Y (.inr x)
 | _=>L
theorem lP{d:D}{k:cj}(h:gm d=Y k)(r:Rep K μ H v d):v=kV k:=by
 cases d<;>first | cases h | skip
 ·rw[r.int_inv];rfl
 ·rw[r.str_inv];rfl
def fH(kvs:List (cj×D))(k:cj):Option D:=match kvs with
 | []=>L
 | p::r=>if p.1=k then Y p.2 else fH r k
def NL(kvs:List (cj×D))(k:cj):Bool:=match kvs with
 | []=>false
 | p::r=>if p.1=k then true else NL r k
def UE(kvs:List (cj×D))(k:cj)(d:D):List (cj×D):=match kvs with
 | []=>[]
 | p::r=>(if p.1=k then(p.1,d) else p)::UE r k d
def PU(kvs:List (cj×D))(k:cj)(d:D):List (cj×D):=if NL kvs k then UE kvs k d else kvs++[(k,d)]
def dE(kvs:List (cj×D)):List (cj×D)->List (cj×D)
 | []=>kvs
 | p::r=>dE (PU kvs p.1 p.2) r
inductive KR(K:aeH)(μ:Fp)(H:Hp):List (cj×V)->List (cj×D)->Prop
 | nil:KR K μ H [] []
 | cons {k:cj} {v:V} {d:D} {vs:List (cj×V)} {ds:List (cj×D)} (h:Rep K μ H v d) (t:KR K μ H vs ds):KR K μ H ((k,v)::vs) ((k,d)::ds)
theorem KR.keys:∀ {vs ds},KR K μ H vs ds->vs.map (·.1)=ds.map (·.1)
 | _,_,.nil=>rfl
 | _,_,.cons _ t=>by rw[aah,aah,KR.keys t]
theorem KR.reps:∀ {vs ds},KR K μ H vs ds->Reps K μ H (vs.map (·.2)) (ds.map (·.2))
 | _,_,.nil=>.nil
 | _,_,.cons h t=>.cons h (KR.reps t)
theorem KR.length:∀ {vs ds},KR K μ H vs ds->vs.length=ds.length
 | _,_,.nil=>rfl
 | _,_,.cons _ t=>by rw[aam,aam,KR.length t]
theorem KR.less{p:td}{cs fb:List td}:∀ {vs ds},KR K ⟨cs,p::fb⟩ H vs ds->KR K ⟨cs,fb⟩ H vs ds
 | _,_,.nil=>.nil
 | _,_,.cons h t=>.cons h.less (KR.less t)
theorem KR.chg{p:td}(hp:p∈μ.fb):∀ {vs ds},KR K μ H vs ds->KR K μ 6.4 vs ds
 | _,_,.nil=>.nil
 | _,_,.cons h t=>.cons (h.chg hp) (KR.chg hp t)
theorem KR.of:∀ {kvs:List (cj×V)} {ks:List cj} {ds:List D},ks=kvs.map (·.1)->Reps K μ H (kvs.map (·.2)) ds->KR K μ H kvs (ks.zip ds)
 | [],_,_,e,r=>by subst e;cases r;exact .nil
 | p::q,_,_,e,r=>by
  subst e;rw[aah] at r;cases r with | cons h t=>exact .cons h (KR.of rfl t)
theorem KR.val{k:cj}:∀ {vs ds},KR K μ H vs ds->∀ {d},fH ds k=Y d->∃ v,xN vs k=Y v/\Rep K μ H v d
 | _,_,.nil,d,h=>by cases h
 | _,_,.cons (k:=k') h t,d,q=>by
  unfold fH at q;split at q
  ·rename_i e;cases q;exact⟨_,ER e,h⟩
  ·rename_i e;obtain⟨v,h1,h2⟩:=KR.val t q;exact⟨v,(xM e).trans h1,h2⟩
theorem KR.valN{k:cj}:∀ {vs ds},KR K μ H vs ds->fH ds k=L->xN vs k=L
 | _,_,.nil,_=>rfl
 | _,_,.cons h t,q=>by
  unfold fH at q;split at q
  ·cases q
  ·rename_i e;exact(xM e).trans (KR.valN t q)
theorem KR.has{k:cj}:∀ {vs ds},KR K μ H vs ds->(vs.any λkv=>decide (kv.1=k))=NL ds k
 | _,_,.nil=>rfl
 | _,_,.cons (k:=k') h t=>by
  rw[abr,KR.has t];unfold NL;by_cases e:k'=k
  ·simp[e]
  ·simp only[aap e,Bool.false_or,if_neg e];cases t<;>rfl
theorem KR.setv{k:cj}{d:D}(r:Rep K μ H x d):∀ {vs ds},KR K μ H vs ds->KR K μ H (vs.map λkv=>if kv.1=k then(kv.1,x) else kv) (UE ds k d)
 | _,_,.nil=>.nil
 | _,_,.cons (k:=k') h t=>by
  rw[aah];unfold UE;by_cases e:k'=k
  ·simp only[aas e];exact .cons r (KR.setv r t)
  ·simp only[if_neg e];exact .cons h (KR.setv r t)
theorem KR.snoc{k:cj}{d:D}(r:Rep K μ H x d):∀ {vs ds},KR K μ H vs ds->KR K μ H (vs++[(k,x)]) (ds++[(k,d)])
 | _,_,.nil=>.cons r .nil
 | _,_,.cons h t=>.cons h (KR.snoc r t)
theorem KR.put{k:cj}{d:D}{vs ds}(r:Rep K μ H x d)(t:KR K μ H vs ds):KR K μ H (Ai vs k x) (PU ds k d):=by
 unfold Ai PU;rw[t.has];split
 ·exact t.setv r
 ·exact t.snoc r
theorem KR.merge:∀ {ws es vs ds},KR K μ H ws es->KR K μ H vs ds->KR K μ H (lY vs ws) (dE ds es)
 | _,_,_,_,.nil,t=>t
 | _,_,vs,ds,.cons (k:=k) (v:=v) (d:=d) h q,t=>by
  have:=KR.merge q (t.put (k:=k) h);exact this
noncomputable abbrev MP:=bf->ac->Option (List (cj×D)×ac)
def mf:List (ME×ME)->MP
 | []=>λw S=>Y ([],S)
 | (a,b)::r=>λenv S=>(a env S).bind λp=>(gm p.1).bind λk=>(b env p.2).bind λq=>(mf r env q.2).bind λz=>Y ((k,q.1)::z.1,z.2)
def DPs(X:Cx)(pos:Pos)(keys:List 1.32)(values:List tx)(ms:List (ME×ME)):Prop:=PPs X pos keys values (ms.map λp=>(tM X.K p.1,tM X.K p.2))
theorem WO:DPs X pos [] [] []:=UV
theorem SX{k:tx}(hk:DE X k mk)(hv:DE X v mv)(hr:DPs X pos ks vs ms):DPs X pos (Y k::ks) (v::vs) ((mk,mv)::ms):=Qe hk hv hr
theorem uJ:∀ {ms:List (ME×ME)} {μ:Fp} {H:Hp} {S S':ac} {kvs:List (cj×D)} {Q:List (V×V)->Hp->Prop},SOk K μ S H->EOk K μ H σ env->mf ms env S=Y (kvs,S') ->
  (∀ vs H' μ',Ext μ H μ' H'->SOk K μ' S' H'->KR K μ' H' vs kvs->Q (vs.map λkv=>(kV kv.1,kv.2)) H')->Cz (ms.map λp=>(tM K p.1,tM K p.2)) σ H Q
 | [],μ,H,S,S',kvs,Q,s,e,h,q=>by cases h;exact q [] H μ s.ext s .nil
 | (a,b)::r,μ,H,S,S',kvs,Q,s,e,h,q=>by
  obtain⟨x,S1,h1,h⟩:=dW h;obtain⟨k,h2,h⟩:=iq h;obtain⟨y,S2,h3,h⟩:=dW h;obtain⟨zs,S3,h4,h⟩:=dW h;cases h;refine⟨μ,S,env,x,S1,s,e,h1,λv H1 μ1 e1 s1 r1=>⟨μ1,S1,env,y,S2,s1,e.mono e1,h3,λw H2 μ2 e2 s2 r2=>uJ s2 ((e.mono e1).mono e2) h4 λvs H3 μ3 e3 s3 r3=>?_⟩⟩;have:=q ((k,w)::vs) H3 μ3 ((e1.trans e2).trans e3) s3 (.cons (r2.mono e3) r3);rw[aah] at this;rw[lP h2 r1];exact this
theorem Ext.shut{cs fb:List td}(hp:H p=L)(hn:p∉fb)(e:Ext ⟨cs,p::fb⟩ 6.4 μ2 H2)(s:SOk K μ2 S2 H2) :
  Ext ⟨cs,fb⟩ H ⟨μ2.cs,fb⟩ (upd H2 p o')/\SOk K ⟨μ2.cs,fb⟩ S2 (upd H2 p o')/\(⟨μ2.cs,fb⟩:Fp).no p/\(∀ vs ds,KR K μ2 H2 vs ds->KR K ⟨μ2.cs,fb⟩ (upd H2 p o') vs ds)/\H2 p=Y o:=by
 have pm:p∈μ2.fb:=by rw[e.fb];exact aac
 have ncs:p∉μ2.cs:=s.disj p pm;have ncs0:p∉cs:=λz=>ncs (by obtain⟨l,q,w⟩:=e.pre;rw[q];exact aaW _ z);have ef:μ2=⟨μ2.cs,p::fb⟩:=by have:=e.fb;obtain⟨a,b⟩:=μ2;simp only at this;rw[this]
 refine⟨⟨rfl,?_,λa o2 na ha=>?_,λa ha=>?_⟩,?_,⟨ncs,?_⟩,λvs ds r=>?_,e.keep p o ncs0 bF⟩
 ·obtain⟨l,q,hl⟩:=e.pre;refine⟨l,q,λa ha=>?_⟩;have:=hl a ha;by_cases z:a=p
  ·subst z;exact hp
  ·rwa[bj z] at this
 ·have z:=cP ha hp;rw[bj z];exact e.keep a o2 na ((bj z).trans ha)
 ·have z:a≠p:=λz=>ncs (z ▸ ha);rw[bj z];exact e.dom a ha
 ·have:=(s.chg (o:=o') pm)
  rw[ef] at this;exact this.less
 ·exact hn
 ·have:=r.chg (o:=o') pm;rw[ef] at this;exact this.less
def ik(ms:List (ME×ME)):ME:=λenv S=>(mf ms env S).bind λz=>if z.1.length<=15 then Y (.dct ((dE [] z.1).map (·.1)) ((dE [] z.1).map (·.2)),z.2) else L
theorem Xc{keys:List 1.32}(h:DPs X pos keys values ms)(hall:keys.all (·.isSome)=true)(hl:keys.length=values.length)(h0:keys≠[])(h15:keys.length<=15) :
  DE X 2.06 (ik ms):=PE.imp (KY h hall hl h0 h15) λσ H Q z0=>by
 obtain⟨μ,S,env,d,S',hS,hE,hm,post⟩:=z0;obtain⟨kvs,S1,h1,hm⟩:=dW hm;dsimp only at hm;split at hm
 ·rename_i hl;cases hm;intro p hp;obtain⟨cs,fb⟩:=μ;refine uJ (hS.more hp) (hE.more hp) h1 λvs H2 μ2 e2 s2 r2=>?_;obtain⟨eF,sF,nF,rF,hF⟩:=Ext.shut (o':=.dK (lY [] vs)) hp (hS.notMem hp).2 e2 s2;refine⟨hF,vs,rfl,by rw[r2.length];exact hl,post _ _ _ eF sF ?_⟩;have rr:=(rF _ _ r2).merge KR.nil;have:=Rep.dct (K:=X.K) (bF (H:=H2) (o:=.dK (lY [] vs))) nF rr.reps;rw[rr.keys] at this;exact this
 ·cases hm
def EX(S:ac):D->Option (List (cj×D))
 | .dct ks vs=>Y 2.48
 | .ref r=>match S[r]? with | some 2.25=>Y 2.48 | _=>L
 | _=>L
theorem KS{d:D}(s:SOk K μ S H)(r:Rep K μ H v d)(h:EX S d=Y kvs):∃ a vs,v=.ref a/\H a=Y (.dK vs)/\KR K μ H vs kvs:=by
 cases r with
 | dct hd n rr=>cases h;exact⟨_,_,rfl,hd,KR.of rfl rr⟩
 | ref hr=>
  rename_i a i;unfold EX at h;dsimp only at h;cases q:S[i]? with
  | none=>rw[q] at h;cases h
  | some c=>
   rw[q] at h;have ck:=s.cell _ _ _ hr q;cases c with
   | lst _=>cases h
   | dct ks xs=>cases h;obtain⟨vs,e,hk,rr⟩:=ck;exact⟨a,vs,rfl,e,KR.of hk rr⟩
 | _=>cases h
def aD(S:ac)(x y:D):Option D:=match EX S x with
 | some kvs=>(gm y).bind λk=>fH kvs k
 | none=>fIx S x y
theorem VW(hu:X.A.units+1<cLine):IxR X (λx y H Q=>∃ a v,x=.ref a/\DGet H a y (Y v)/\Q v H):=by
 intro value slice pins s σ H x y v u Q I rx ry h hs;obtain⟨a,z,rfl,g,q⟩:=h;cases rx;exact tail_any (HG I g) F.slot_dict_getitem.lookup (Oq hu I g ry λw' s' I' rw'=>⟨z,H,I',rw',q⟩) hs
theorem ix_DX(hu:X.A.units+1<cLine):IxR X (qK X.K aD):=IxR.imp ((VW hu).or ix_D) λx y H Q z0=>by
 obtain⟨μ,S,dx,dy,dz,hS,h1,h2,h3,post⟩:=z0;unfold aD at h3;split at h3
 ·rename_i kvs hk;obtain⟨k,h4,h5⟩:=iq h3;obtain⟨a,vs,rfl,ha,rr⟩:=KS hS h1 hk;obtain⟨v,h6,h7⟩:=rr.val h5;refine .inl ⟨a,v,rfl,?_,post.here hS h7⟩;rw[lP h4 h2,<- h6];exact DGet.k ha
 ·exact .inr ⟨μ,S,dx,dy,dz,hS,h1,h2,h3,post⟩
theorem qbv{mb:ME}(hu:X.A.units+1<cLine)(ha:DE X a ma)(hb:DE X b mb)(hs:rp b:=by intro z z;rfl):DE X (.Subscript a b pos) (aB aD ma mb):=
 PE.imp (Qk (ix_DX hu) ha hb hs) λz z z h=>CA h
end
end M
namespace L2
section
variable{X:Cx}{o e:tx}{es:List tx}{to:TE}{t:TA}{name:Str}{apos cpos:Pos}{id:String}{r:V->List V->Hp->VK->Prop}
def tBD(r:V->List V->Hp->VK->Prop)(to:TE)(t:TA):TE:=λσ H Q=>to σ H λx H1=>(∃ p,x=.ref p/\IsD H1 p)/\t σ H1 λxs H2=>r x xs H2 Q
theorem ZE(slot:Slot "dict" name id)(hty:typeOf 6.1=pure (.type "method_descriptor"))(hm:MtR X id r)(ho:PE X o to)(ha:PA X (e::es) t)
  (hbase:attributeBase o name X.env 9.3=eval o X.env)
  (hfew:((backTo cpos (Wj (e::es) X.env)).all (λx=>!x.1)&&(backToKw cpos 6.0).all (λx=>x.1.isSome)&&decide ((e::es).length+([]:List Keyword).length+(if ([]:List Keyword).isEmpty then 0 else 1)<30))=true)
  (hline:(apos.endLine==cpos.line)=true) (hs:Wj (e::es) X.env=1.2::Wj es X.env) (hplain:(backTo cpos 2.1).any (·.1)=false) :
  PE X (.Call 1.01 (e::es) [] cpos) (tBD r to t):=by
 intro pins s σ H Q I h;refine acQ hbase hfew hline rfl (eG 1.41 λv s1 ⟨x,H1,I1,r1,ty,q1⟩=>?_);obtain⟨p,rfl,hq⟩:=ty;cases r1;obtain⟨t1,t2,z⟩:=qaJ I1 hq;refine⟨"dict",id,F.plainAttrs_dict,slot,hty,t1,t2,?_⟩;have hA:=ha cpos pins s1 σ H1 _ I1 q1;rw[hs] at hA ⊢;refine acR (by show(false||(backTo cpos 2.1).any (·.1))=false;rw[hplain]<;>rfl) (acA ?_);exact eG hA λus s2 ⟨vs,H2,I2,r2,q2⟩=>hm pins s2 σ H2 (V.ref p) vs _ us Q I2 (show RelV (V.ref p) (Value.ref p) from rfl) r2 q2
theorem Vy(hu:X.A.units+1<cLine):MtR X "dict.get" (λx xs H Q=>∃ a y o,x=.ref a/\DGet H a y o/\((xs=[y]/\Q (o.getD .non) H)\/∃ d,xs=[y,d]/\Q (o.getD d) H)):=by
 intro pins s σ H x xs v us Q I rx rv h;obtain⟨a,y,o,rfl,g,h⟩:=h;cases rx;rcases h with ⟨rfl,q⟩ | ⟨d,rfl,q⟩
 ·obtain⟨u,rfl,ru⟩:=rv.one;exact qbC hu I g ru λw' s3 I3 rw'=>⟨_,H,I3,rw',q⟩
 ·obtain⟨u,u2,rfl,ru,ru2⟩:=rv.two;exact qbB hu I g ru ru2 λw' s4 I4 rw'=>⟨_,H,I4,rw',q⟩
theorem Jd:MtR X "dict.update" (λx xs H Q=>∃ a b kvs more,x=.ref a/\xs=[.ref b]/\a≠b/\H a=Y 9.0/\H b=Y (.dK more)/\kvs.length+more.length<=UJ/\Q .non (upd H a (.dK (lY kvs more)))):=by
 intro pins s σ H x xs v us Q I rx rv h;obtain⟨a,b,kvs,more,rfl,rfl,ne,ha,hb,hl,q⟩:=h;cases rx;obtain⟨u,rfl,ru⟩:=rv.one;cases ru;obtain⟨z,hd,vs,r0,dd⟩:=Tb I.hok ha;obtain⟨z2,hd2,vs2,r2,dd2⟩:=Tb I.hok hb;have l1:=r0.length;have l2:=r2.length;refine aee aeB dd.typeIs F.entry_dict_update (F.args_dict_update_2 _ _) (meets_dict_update 2.21 a b ne hd2) ⟨vs,vs2,dd,dd2,by omega,λh' dd' w hs=>?_⟩
 have hz:(lY kvs more).length<=UJ:=by
  have h1:=nj more kvs;omega
 have he:∃ q,h'.get? a=Y q:=let ⟨q,_,_,hq,_⟩:=dd';⟨q,hq⟩;exact⟨.non,_,Md I (by rw[ha];exact True.intro) hs he (Tc hz hd (r2.merge r0) dd'),rfl,q⟩
end
end L2
namespace M
open L2
section
variable{X:Cx}{K:aeH}{μ μ':Fp}{H H':Hp}{S S':ac}
theorem SOk.writeD{S:ac}(s:SOk K μ S H){i:Nat}{kvs':List (cj×V)}{ks:List cj}(hi:μ.cs[i]?=Y a)(h:H a=Y 9.0)(hk:ks=kvs'.map (·.1))(r:Reps K μ H (kvs'.map (·.2)) ds) :
  Ext μ H μ 2.34/\SOk K μ (S.set i (.dct ks ds)) 2.34:=by
 have ha:=aaA hi
 have e:Ext μ H μ 2.34:=⟨rfl,⟨[],by simp,λw z=>by simp at z⟩,λb o' n q=>by rw[bj (by rintro rfl;exact n ha)];exact q,λb hb=>by
  by_cases z:b=a
  ·subst z;rw[bF];simp
  ·rw[bj z];exact s.dom b hb⟩
 refine⟨e,s.nd,by simp[s.len],λj b c h1 h2=>?_,λb hb=>?_,s.disj⟩
 case refine_2=>
  by_cases z:b=a
  ·subst z;rw[bF];simp
  ·rw[bj z];exact s.fdom b hb
 by_cases hj:j=i
 ·subst hj;rw[hi] at h1;cases h1;have hl:j<S.length:=by rw[<- s.len];exact(aaa.mp hi).1
  rw[aaL hl] at h2;cases h2;exact⟨kvs',bF,hk,r.mono e⟩
 ·rw[aaC 1.49] at h2;refine(s.cell j b c h1 h2).mono e (bj λz=>hj ?_);subst z;exact Li s.nd h1 hi
theorem FL{p:td}{cs fb:List td}(n:(⟨cs,p::fb⟩:Fp).no a):(⟨cs++[p],fb⟩:Fp).no a:=
 ⟨λz=>(aar.mp z).elim n.1 λz=>n.2 (by rw[aav.mp z];exact aac),λz=>n.2 (aaf _ z)⟩
theorem Rep.adopt{p:td}{cs fb:List td}{d:D}(r:Rep K ⟨cs,p::fb⟩ H v d):Rep K ⟨cs++[p],fb⟩ H v d:=r.imp (λh n=>⟨h,FL n⟩) λh=>EG rfl h
theorem Reps.adopt{p:td}{cs fb:List td}{d:List D}(r:Reps K ⟨cs,p::fb⟩ H v d):Reps K ⟨cs++[p],fb⟩ H v d:=r.imp (λh n=>⟨h,FL n⟩) λh=>EG rfl h
theorem KR.adopt{p:td}{cs fb:List td}:∀ {vs ds},KR K ⟨cs,p::fb⟩ H vs ds->KR K ⟨cs++[p],fb⟩ H vs ds
 | _,_,.nil=>.nil
 | _,_,.cons h t=>.cons h.adopt (KR.adopt t)
theorem Ext.shutR{cs fb:List td}(hp:H p=L)(hn:p∉fb)(e:Ext ⟨cs,p::fb⟩ 6.4 μ2 H2)(s:SOk K μ2 S2 H2)(r:KR K μ2 H2 vs kvs) :
  Ext ⟨cs,fb⟩ H ⟨μ2.cs++[p],fb⟩ (upd H2 p (.dK vs))/\SOk K ⟨μ2.cs++[p],fb⟩ (S2++[.dct (kvs.map (·.1)) (kvs.map (·.2))]) (upd H2 p (.dK vs))/\H2 p=Y o:=by
 have pm:p∈μ2.fb:=by rw[e.fb];exact aac
 have ncs:p∉μ2.cs:=s.disj p pm;have ncs0:p∉cs:=λz=>ncs (by obtain⟨l,q,w⟩:=e.pre;rw[q];exact aaW _ z);have ef:μ2.fb=p::fb:=e.fb;obtain⟨cs2,fb2⟩:=μ2;simp only at ef pm ncs;subst ef;refine⟨⟨rfl,?_,λa o2 na ha=>?_,λa ha=>?_⟩,⟨?_,by simp[s.len],λi a c h1 h2=>?_,λa ha=>?_,λa ha z=>?_⟩,e.keep p o ncs0 bF⟩
 ·obtain⟨l,q,hl⟩:=e.pre;simp only at q;refine⟨l++[p],by rw[q,aaP],λa ha=>?_⟩;rcases aar.mp ha with ha | ha
  ·have:=hl a ha;by_cases z:a=p
   ·subst z;exact hp
   ·rwa[bj z] at this
  ·rw[aav.mp ha];exact hp
 ·have z:=cP ha hp;rw[bj z];exact e.keep a o2 na ((bj z).trans ha)
 ·by_cases z:a=p
  ·subst z;rw[bF];simp
  ·rw[bj z];rcases aar.mp ha with ha | ha
   ·exact e.dom a ha
   ·exact absurd (aav.mp ha) z
 ·exact abZ.mpr ⟨s.nd,by simp,λa ha b hb=>by rw[aav.mp hb];exact λz=>ncs (z ▸ ha)⟩
 ·have sc:=s.chg (o:=.dK vs) pm;by_cases hi:i<cs2.length
  ·rw[aay hi] at h1;rw[aay (by rw[<- s.len];exact hi)] at h2;have ck:=sc.cell i a c h1 h2;cases c with
   | lst ds=>obtain⟨ws,h,r⟩:=ck;exact⟨ws,h,r.adopt⟩
   | dct ks ds=>obtain⟨ws,h,q,r⟩:=ck;exact⟨ws,h,q,r.adopt⟩
  ·have hi':i=cs2.length:=by
    have:=(aaa.mp h1).1;simp at this;omega
   subst hi';rw[abo (aao _)] at h1;rw[show cs2.length=S2.length from s.len,abo (aao _)] at h2;simp at h1 h2;subst h1 h2;have rc:=(r.chg (o:=.dK vs) pm).adopt;exact⟨vs,bF,rc.keys.symm,rc.reps⟩
 ·by_cases z:a=p
  ·subst z;rw[bF];simp
  ·rw[bj z];exact s.fdom a (aaf _ ha)
 ·rcases aar.mp z with z | z
  ·exact s.disj a (aaf _ ha) z
  ·exact hn (aav.mp z ▸ ha)
def eM(ms:List (ME×ME)):ME:=λenv S=>(mf ms env S).bind λz=>if z.1.length<=15 then Y (.ref z.2.length,z.2++[.dct ((dE [] z.1).map (·.1)) ((dE [] z.1).map (·.2))]) else L
theorem Tp{keys:List 1.32}(h:DPs X pos keys values ms)(hall:keys.all (·.isSome)=true)(hl:keys.length=values.length)(h0:keys≠[])(h15:keys.length<=15) :
  DE X 2.06 (eM ms):=PE.imp (KY h hall hl h0 h15) λσ H Q z0=>by
 obtain⟨μ,S,env,d,S',hS,hE,hm,post⟩:=z0;obtain⟨kvs,S1,h1,hm⟩:=dW hm;dsimp only at hm;split at hm
 ·rename_i hl;cases hm;intro p hp;obtain⟨cs,fb⟩:=μ;refine uJ (hS.more hp) (hE.more hp) h1 λvs H2 μ2 e2 s2 r2=>?_;obtain⟨eF,sF,hF⟩:=Ext.shutR hp (hS.notMem hp).2 e2 s2 (r2.merge KR.nil);exact⟨hF,vs,rfl,by rw[r2.length];exact hl,post _ _ _ eF sF (.ref (by rw[<- s2.len];simp))⟩
 ·cases hm
def Tt(S:ac):D->Bool
 | .dct _ _=>true
 | .ref r=>match S[r]? with | some (.dct _ _)=>true | _=>false
 | _=>false
theorem Xg{d:D}(s:SOk K μ S H)(r:Rep K μ H v d)(h:Tt S d=true):∃ a,v=.ref a/\IsD H a:=by
 cases r with
 | dct hd n rr=>exact⟨_,rfl,_,.inl hd⟩
 | ref hr=>
  rename_i a i;unfold Tt at h;dsimp only at h;cases q:S[i]? with
  | none=>rw[q] at h;cases h
  | some c=>
   rw[q] at h;have ck:=s.cell _ _ _ hr q;cases c with
   | lst _=>cases h
   | dct ks xs=>obtain⟨vs,e,hk,rr⟩:=ck;exact⟨a,rfl,_,.inl e⟩
 | _=>cases h
def zx:MF:=λo ds S=>(EX S o).bind λkvs=>match ds with
 | [y]=>(gm y).bind λk=>Y ((fH kvs k).getD .non,S)
 | [y,d]=>(gm y).bind λk=>Y ((fH kvs k).getD d,S)
 | _=>L
theorem KR.getD{k:cj}{vs ds}(t:KR K μ H vs ds)(r:Rep K μ H z e):Rep K μ H ((xN vs k).getD z) ((fH ds k).getD e):=by
 cases q:fH ds k with
 | none=>rw[t.valN q];exact r
 | some d=>obtain⟨v,h1,h2⟩:=t.val q;rw[h1];exact h2
theorem VA(hu:X.A.units+1<cLine):MtR X "dict.get" (PR X.K zx):=MtR.imp (Vy hu) λx vs H Q z0=>by
 obtain⟨μ,S,dx,ds,d,S',hS,r1,r2,h,post⟩:=z0;obtain⟨kvs,hk,h⟩:=iq h;obtain⟨a,ws,rfl,ha,rr⟩:=KS hS r1 hk;split at h
 ·rename_i y;obtain⟨k,h4,h5⟩:=iq h;cases h5;obtain⟨v,rfl,rv⟩:=r2.one;have:=lP h4 rv;subst this;exact⟨a,_,_,rfl,DGet.k ha,.inl ⟨rfl,post.here hS (rr.getD .non)⟩⟩
 ·rename_i y e;obtain⟨k,h4,h5⟩:=iq h;cases h5;obtain⟨v,w,rfl,rv,rw0⟩:=r2.two;have:=lP h4 rv;subst this;exact⟨a,_,_,rfl,DGet.k ha,.inr ⟨w,rfl,post.here hS (rr.getD rw0)⟩⟩
 ·cases h
def zr:MF:=λo ds S=>match o,ds with
 | .ref r,[.dct ks2 vs2]=>match S[r]? with
  | some 2.25=>if ks.length+ks2.length<=UJ then Y (.non,S.set r (.dct ((dE 2.48 (ks2.zip vs2)).map (·.1)) ((dE 2.48 (ks2.zip vs2)).map (·.2)))) else L
  | _=>L
 | _,_=>L
theorem Vz:MtR X "dict.update" (PR X.K zr):=MtR.imp Jd λx vs H Q z0=>by
 obtain⟨μ,S,dx,ds,d,S',hS,r1,r2,h,post⟩:=z0;unfold zr at h;split at h
 ·rename_i r ks2 vs2;cases q:S[r]? with
  | none=>rw[q] at h;cases h
  | some c=>
   rw[q] at h;cases c with
   | lst _=>cases h
   | dct ks xs=>
    dsimp only at h;split at h
    ·rename_i hz;cases h;obtain⟨v,rfl,rv⟩:=r2.one;cases r1 with
     | @ref a _ h'=>
      obtain⟨kvs,hw,hk,rw'⟩:=hS.cell r a _ h' q;cases rv with
      | @dct b more _ hb nb rb=>
       have k1:=KR.of hk rw';have k2:=KR.of rfl rb;have kk:=k2.merge k1;obtain⟨e,s'⟩:=hS.writeD h' hw (kvs':=lY kvs more) (ks:=(dE (ks.zip xs) ((more.map (·.1)).zip vs2)).map (·.1)) kk.keys.symm kk.reps;refine⟨a,b,kvs,more,rfl,rfl,λz=>nb.1 (z ▸ aaA h'),hw,hb,?_,post _ _ μ e s' .non⟩;rw[hk,aai,aai] at hz;exact hz
    ·cases h
 ·cases h
def eY(f:MF)(o:ME)(ms:MA):ME:=λenv S=>(o env S).bind λp=>if Tt p.2 p.1=true then(ms env p.2).bind λq=>f p.1 q.1 q.2 else L
theorem Tl{e:tx}{es:List tx}{name:Str}{id:String}{apos:Pos}(slot:Slot "dict" name id)(hty:typeOf 6.1=pure (.type "method_descriptor"))(hm:MtR X id (PR X.K f))(ho:DE X o mo)(ha:DA X (e::es) ms)
  (hbase:attributeBase o name X.env 9.3=eval o X.env)
  (hfew:((backTo cpos (Wj (e::es) X.env)).all (λx=>!x.1)&&(backToKw cpos 6.0).all (λx=>x.1.isSome)&&decide ((e::es).length+([]:List Keyword).length+(if ([]:List Keyword).isEmpty then 0 else 1)<30))=true)
  (hline:(apos.endLine==cpos.line)=true) (hs:Wj (e::es) X.env=1.2::Wj es X.env) (hpl:(backTo cpos 2.1).any (·.1)=false) :
  DE X (.Call 1.01 (e::es) [] cpos) (eY f mo ms):=
 PE.imp (ZE slot hty hm ho ha hbase hfew hline hs hpl) λσ H Q z0=>by
  obtain⟨μ,S,env,d,S',hS,hE,h,post⟩:=z0;obtain⟨x,S1,h1,h⟩:=dW h;dsimp only at h;split at h
  ·rename_i hl;obtain⟨xs,S2,h2,h⟩:=dW h;refine⟨μ,S,env,x,S1,hS,hE,h1,λv H1 μ1 e1 s1 r1=>⟨?_,μ1,S1,env,xs,S2,s1,hE.mono e1,h2,λvs H2 μ2 e2 s2 r2=>⟨μ2,S2,x,xs,d,S',s2,r1.mono e2,r2,h,(post.ext e1).ext e2⟩⟩⟩;exact Xg s1 r1 hl
  ·cases h
end
end M
namespace L2
section
variable{X:Cx}{a b:tx}{rest:List tx}{ta tb:TE}{pos:Pos}
def tAndX(K:aeH)(ta tb:TE):TE:=λσ H Q=>ta σ H λx H1=>∃ c,OK K x H1 c/\if c=true then tb σ H1 Q else Q x H1
def tOrX(K:aeH)(ta tb:TE):TE:=λσ H Q=>ta σ H λx H1=>∃ c,OK K x H1 c/\if c=true then Q x H1 else tb σ H1 Q
def tNotX(K:aeH)(ta:TE):TE:=λσ H Q=>ta σ H λx H1=>∃ c,OK K x H1 c/\Q (.bl (!c)) H1
theorem Vh(ha:PE X a ta)(hb:PE X (.BoolOp .And (b::rest) pos) tb):PE X (.BoolOp .And (a::b::rest) pos) (tAndX X.K ta tb):=by
 intro pins s σ H Q I h;refine BoolOp_and (eG 3.1 λv s1 ⟨x,H1,I1,r1,q1⟩=>?_);obtain⟨c,tv,q1⟩:=q1;refine eG (Cy pins s1 σ H1 x v (λk H'=>k=c/\H'=H1) I1 r1 ⟨c,tv,rfl,rfl⟩) λk s2 z=>?_;obtain⟨H2,I2,rfl,rfl⟩:=z;cases k with
 | true=>exact hb pins s2 σ H2 Q I2 q1
 | false=>exact⟨x,H2,I2,r1,q1⟩
theorem ZA(ha:PE X a ta)(hb:PE X (.BoolOp .Or (b::rest) pos) tb):PE X (.BoolOp .Or (a::b::rest) pos) (tOrX X.K ta tb):=by
 intro pins s σ H Q I h;refine BoolOp_or (eG 3.1 λv s1 ⟨x,H1,I1,r1,q1⟩=>?_);obtain⟨c,tv,q1⟩:=q1;refine eG (Cy pins s1 σ H1 x v (λk H'=>k=c/\H'=H1) I1 r1 ⟨c,tv,rfl,rfl⟩) λk s2 z=>?_;obtain⟨H2,I2,rfl,rfl⟩:=z;cases k with
 | false=>exact hb pins s2 σ H2 Q I2 q1
 | true=>exact⟨x,H2,I2,r1,q1⟩
theorem Vc(ha:PE X a ta):PE X 1.51 (tNotX X.K ta):=by
 intro pins s σ H Q I h;refine UnaryOp_ (eG 3.1 λv s1 ⟨x,H1,I1,r1,q1⟩=>?_);obtain⟨c,tv,q1⟩:=q1;refine not_of (eG (Cy pins s1 σ H1 x v (λk H'=>k=c/\H'=H1) I1 r1 ⟨c,tv,rfl,rfl⟩) λk s2 z=>?_);obtain⟨H2,I2,rfl,rfl⟩:=z;exact⟨.bl (!k),H2,I2,rfl,q1⟩
end
end L2
namespace M
open L2
section
variable{X:Cx}{K:aeH}{μ μ':Fp}{H H':Hp}{S S':ac}{a b:tx}{ma mb:ME}{rest:List tx}{pos:Pos}
def QS(a b:ME):ME:=λenv S=>(a env S).bind λp=>(xO p.2 p.1).bind λk=>if k=true then b env p.2 else Y (p.1,p.2)
def ZY(a b:ME):ME:=λenv S=>(a env S).bind λp=>(xO p.2 p.1).bind λk=>if k=true then Y (p.1,p.2) else b env p.2
def QM(a:ME):ME:=λenv S=>(a env S).bind λp=>(xO p.2 p.1).bind λk=>Y (.bl (!k),p.2)
theorem Xf(ha:DE X a ma)(hb:DE X (.BoolOp .And (b::rest) pos) mb):DE X (.BoolOp .And (a::b::rest) pos) (QS ma mb):=PE.imp (Vh ha hb) λσ H Q z0=>by
 obtain⟨μ,S,env,d,S',hS,hE,hm,post⟩:=z0;obtain⟨x,S1,h1,hm⟩:=dW hm;obtain⟨k,h2,hm⟩:=iq hm;refine⟨μ,S,env,x,S1,hS,hE,h1,λv H1 μ1 e1 s1 r1=>⟨k,xh s1 r1 h2,?_⟩⟩;cases k with
 | true=>rw[aas rfl];exact⟨μ1,S1,env,d,S',s1,hE.mono e1,hm,post.ext e1⟩
 | false=>cases hm;rw[if_neg aeJ];exact post _ H1 μ1 e1 s1 r1
theorem qbs(ha:DE X a ma)(hb:DE X (.BoolOp .Or (b::rest) pos) mb):DE X (.BoolOp .Or (a::b::rest) pos) (ZY ma mb):=PE.imp (ZA ha hb) λσ H Q z0=>by
 obtain⟨μ,S,env,d,S',hS,hE,hm,post⟩:=z0;obtain⟨x,S1,h1,hm⟩:=dW hm;obtain⟨k,h2,hm⟩:=iq hm;refine⟨μ,S,env,x,S1,hS,hE,h1,λv H1 μ1 e1 s1 r1=>⟨k,xh s1 r1 h2,?_⟩⟩;cases k with
 | false=>rw[if_neg aeJ];exact⟨μ1,S1,env,d,S',s1,hE.mono e1,hm,post.ext e1⟩
 | true=>cases hm;rw[aas rfl];exact post _ H1 μ1 e1 s1 r1
theorem WX(ha:DE X a ma):DE X 1.51 (QM ma):=PE.imp (Vc ha) λσ H Q z0=>by
 obtain⟨μ,S,env,d,S',hS,hE,hm,post⟩:=z0;obtain⟨x,S1,h1,hm⟩:=dW hm;obtain⟨k,h2,hm⟩:=iq hm;cases hm;exact⟨μ,S,env,x,_,hS,hE,h1,λv H1 μ1 e1 s1 r1=>⟨k,xh s1 r1 h2,post _ H1 μ1 e1 s1 (.bl _)⟩⟩
end
section
variable{X:Cx}{K:aeH}{μ μ':Fp}{H H':Hp}{S S':ac}{tg iter:tx}{pos:Pos}
def fW(g:MG)(body:MS)(r:Nat):Nat->Nat->bf->ac->Option se
 | 0,_,_,_=>L
 | f+1,i,env,S=>match S[r]? with
  | some 2.2=>match xs[i]? with
   | none=>Y 1.16
   | some d=>(g d env S).bind λp=>(body p.1 p.2).bind λo=>match o with
    | .nx e s=>fW g body r f (i+1) e s
    | .ct e s=>fW g body r f (i+1) e s
    | .bk e s=>Y 1.97
    | .rt d s=>Y 1.96
  | _=>L
def gc(m:ME)(g:MG)(body:MS):MS:=λenv S=>(m env S).bind λp=>match p.1 with
 | .ref r=>fW g body r 2000 0 env p.2
 | .lst xs=>cO g body xs env p.2
 | .rol xs=>cO g body xs env p.2
 | .tup xs=>cO g body xs env p.2
 | _=>L
def mForX(m:ME)(g:MG)(body:MS):MS:=λenv S=>(m env S).bind λp=>match p.1 with
 | .ref r=>fW g body r 2000 0 env p.2
 | _=>L
theorem WL{mb:MS}(hp:PassesOwn 0.3 X.A X.env X.xe)(hc:X.calm=true)(hi:DE X iter mi)(hg:DG X tg g)(hb:AU X body mb)
  (hs:∀ x,XM iter X.env x=pure x):DS X 8.8 (mForX mi g mb):=PS.imp (IN hp hc (UY hi) hg hb hs) λE σ H z0=>by
 obtain⟨μ,S,env,o,hS,hE,hm,post⟩:=z0;obtain⟨d,S1,h1,hm⟩:=dW hm;dsimp only at hm;split at hm
 ·rename_i r;refine⟨μ,S,env,_,S1,hS,hE,h1,λv H1 μ1 e1 s1 r1=>?_⟩;cases r1 with
  | @ref a _ ha=>
   have cell:∀ {μ' H' S' xs},Ext μ1 H1 μ' H'->SOk X.K μ' S' H'->S'[r]?=Y 2.2->∃ vs,H' a=Y 1.07/\Reps X.K μ' H' vs xs:=λ{μ' H' S' xs} e s q=>by
    obtain⟨l,ql,u⟩:=e.pre;have ha':μ'.cs[r]?=Y a:=by rw[ql,aay (aaa.mp ha).1];exact ha
    exact s.cell r a _ ha' q
   have hq0:∃ vs,rZ X.K H1 a vs:=by
    unfold fW at hm;split at hm
    ·rename_i xs q;obtain⟨vs,hv,u⟩:=cell s1.ext s1 q;exact⟨vs,.inl (.inl hv)⟩
    ·cases hm
   refine⟨a,rfl,hq0,?_⟩
   refine⟨λi n=>YG X.K μ1 H1 (λμ H o=>PostS X.K μ H o E) (fW g mb r n i),
    ⟨2000,μ1,S1,env,o,s1.ext,s1,hE.mono e1,hm,post.ext e1⟩,?_⟩
   rintro i n σ' H' ⟨μ',S',env',o',e',s',r',hl,post'⟩;cases n with
   | zero=>cases hl
   | succ n=>
    unfold fW at hl;split at hl
    ·rename_i xs q;obtain⟨vs,hv,rv⟩:=cell e' s' q;have hsq:rZ X.K H' a vs:=.inl (.inl hv);split at hl
     ·rename_i hx;cases hl;refine .inl ⟨⟨vs,hsq,?_⟩,post' σ' H' μ' s'.ext s' r'⟩;rw[rv.length];simpa using hx
     ·rename_i d hx;obtain⟨w,hw,rw0⟩:=rv.get hx
      refine .inr ⟨⟨vs,w,hsq,hw⟩,YG X.K μ1 H1 (λμ H o=>PostS X.K μ H o E) (fW g mb r n (i+1)),
       λσ2 H2 z=>⟨n,by omega,z⟩,λx H2 y=>?_⟩
      obtain⟨e2,hy⟩:=y;subst e2;have ex:x=w:=by have:=hy vs hsq;rw[hw] at this;exact(aaB this).symm
      subst ex;obtain⟨env3,S3,h3,hl⟩:=dW hl;obtain⟨o4,h4,hl⟩:=iq hl;refine⟨μ',S',env',d,env3,S3,s',r',rw0,h3,λσ3 H3 μ3 e3 s3 r3=>⟨μ3,S3,env3,o4,s3,r3,h4,?_⟩⟩;have eT:Ext μ1 H1 μ3 H3:=e'.trans e3;have pT:PostS X.K μ3 H3 o' E:=post'.ext e3;cases o4 with
      | nx e5 s5=>exact λσ6 H6 μ6 e6 s6 r6=>⟨μ6,s5,e5,o',eT.trans e6,s6,r6,hl,pT.ext e6⟩
      | ct e5 s5=>exact λσ6 H6 μ6 e6 s6 r6=>⟨μ6,s5,e5,o',eT.trans e6,s6,r6,hl,pT.ext e6⟩
      | bk e5 s5=>cases hl;exact pT
      | rt d5 s5=>cases hl;exact pT
    ·cases hl
 ·cases hm
theorem WM{mb:MS}(hp:PassesOwn 0.3 X.A X.env X.xe)(hc:X.calm=true)(hi:DE X iter mi)(hg:DG X tg g)(hb:AU X body mb)
  (hs:∀ x,XM iter X.env x=pure x):DS X 8.8 (gc mi g mb):=by
 have hA:=WL (pos:=pos) hp hc hi hg hb hs;have hB:=SS (pos:=pos) hp hc (Kv (tg:=tg) hi) hg hb hs;intro pins s σ H E I ⟨μ,S,env,o,hS,hE,h,post⟩;obtain⟨x,S1,h1,h⟩:=dW h;cases x with
 | ref r=>exact hA pins s σ H E I ⟨μ,S,env,o,hS,hE,by show(mi env S).bind _=_;rw[h1];exact h,post⟩
 | lst xs=>exact hB pins s σ H E I ⟨μ,S,env,o,hS,hE,by show((mi env S).bind _).bind _=_;rw[h1];exact h,post⟩
 | rol xs=>exact hB pins s σ H E I ⟨μ,S,env,o,hS,hE,by show((mi env S).bind _).bind _=_;rw[h1];exact h,post⟩
 | tup xs=>exact hB pins s σ H E I ⟨μ,S,env,o,hS,hE,by show((mi env S).bind _).bind _=_;rw[h1];exact h,post⟩
 | _=>cases h
end
end M
namespace L2
section
variable{X:Cx}{pos:Pos}
theorem zd:∀ {ns:List Int} {us:List ce},Vals 9.2 us->∃ xs:List (Int×Tok),us=xs.map (λp=>Value.int p.1 p.2)/\xs.map (·.1)=ns
 | [],_,.nil=>⟨[],rfl,rfl⟩
 | n::ns,_,.cons ⟨t,e⟩ r=>by
  subst e;obtain⟨xs,e1,e2⟩:=zd r;exact⟨(n,t)::xs,by rw[e1];rfl,by rw[aah,e2]⟩
theorem OB(hc:X.calm=true):CallR X (.builtin "max") (λxs H Q=>∃ p ns,xs=[.ref p]/\rZ X.K H p 9.2/\ns≠[]/\∀ m,m∈ns->(∀ a∈ns,a<=m)->Q (.int m) H):=by
 intro pins s σ H xs us Q I r h;obtain⟨p,ns,rfl,hq,h0,q⟩:=h;obtain⟨u,rfl,rx⟩:=pF r;cases rx;obtain⟨its,rv,pl,hz⟩:=I.list hq;obtain⟨ps,e1,e2⟩:=zd rv
 have hl:s.heap.IsList p (intItems ps.toArray):=by
  have:=pl.isList;rw[e1] at this;have e:intItems ps.toArray=(ps.map (λp=>Value.int p.1 p.2)).toArray:=by simp[intItems]
  rw[e];exact this
 have hp:0<ps.toArray.size:=by
  rw[aak];cases ps with
  | nil=>exact absurd e2.symm h0
  | cons _ _=>simp
 refine max_intList 8.3 hl hp λv h' tk hv kk=>?_;obtain⟨g1,g2⟩:=argBest_gt (numAt ps.toArray) (ps.toArray.size - 1);generalize argBest (λi j=>decide (numAt ps.toArray i>numAt ps.toArray j)) (ps.toArray.size - 1)=b at hv g1 g2;have hb:b<ps.length:=by rw[aak] at g1 hp;omega
 have nb:∀ j (hj:j<ps.length),numAt ps.toArray j=ps[j].1:=λj hj=>by
  simp[numAt,hj]
 have ev:v=Value.int ps[b].1 ps[b].2:=by
  simp[intItems,hb] at hv;exact hv.symm
 subst ev;refine⟨.int ps[b].1,H,I.kept kk,⟨_,rfl⟩,q _ ?_ λa ha=>?_⟩
 ·rw[<- e2];exact aaE.mpr ⟨_,acg hb,rfl⟩
 ·rw[<- e2] at ha;obtain⟨x,hx,rfl⟩:=aaE.mp ha;obtain⟨j,hj,rfl⟩:=ael.mp hx;have:=g2 j (by rw[aak];omega);rw[nb j hj,nb b hb] at this;exact this
theorem xL:∀ (l:List ce) (lo:Nat),(∀ (j:Nat) (v:ce),l[j]?=Y v->∃ t,v=.int ((lo+j:Nat):Int) t)->Vals ((List.range' lo l.length).map λ(i:Nat)=>V.int (i:Int)) l
 | []=>λz z=>.nil
 | v::r=>λlo h=>by
  rw[aam,List.range'_succ,aah];obtain⟨t,e⟩:=h 0 v rfl;refine .cons ⟨t,by simpa using e⟩ (xL r (lo+1) λj w hw=>?_);obtain⟨t,e⟩:=h (j+1) w (by simpa using hw);exact⟨t,by rw[e];congr 2;omega⟩
def uO(n:Nat):List V:=(List.range n).map λ(i:Nat)=>V.int (i:Int)
theorem CZ{a:tx}{p p2 pos:Pos}(hc:X.calm=true)(hm:X.mg "list" = L)(hm2:X.mg "range" = L)(hg:Gl X "list")(hg2:Gl X "range")(ha:PA X [a] ta)(hs:Wj [a] X.env=[5.8]) :
  PE X (.Call (.Name "list" p) [.Call (.Name "range" p2) [a] [] pos2] [] pos) (λσ H Q=>ta σ H λvs H1=>∃ j:Int,vs=[.int j]/\0<=j/\j<=1000/\∀ q,H1 q=L->Q (.ref q) (upd H1 q (.lst (uO j.toNat)))):=by
 intro pins s σ H Q I h;refine Call_ (sy I hg hm boot_list (abz (aeD ?_) rfl rfl));refine Call_ (sy I hg2 hm2 boot_range (abz (eG (ha pos2 pins s σ H _ I h) λus s1 ⟨vs,H1,I1,r1,q1⟩=>?_) hs rfl));obtain⟨j,rfl,j0,j1,q⟩:=q1;obtain⟨u,rfl,ru⟩:=r1.one;obtain⟨t,rfl⟩:=ru;refine call_range_1 (Calls.spliced_nil ?_);have I2:Inv X pins σ H1 { s1 with heap:=s1.heap.push { cls:=.type "range",data:=.fields #[.int 0 s1.toks,.int j t,.int 1 (s1.toks+1)] },toks:=s1.toks+1+1 }:=I1.kept λb o e=>aag _ e;have hz:(s1.heap.push { cls:=.type "range",data:=.fields #[.int 0 s1.toks,.int j t,.int 1 (s1.toks+1)] }).objs.size=s1.heap.objs.size+1:=acW ..;refine call_list_range (n:=j.toNat) (I1.ok.hd hc) (IsRange.new ..) (small_one 0.1 0.1 0.0 0.0) (by rw[rangeSize_one];split<;>omega) 0.0 λh' tk acc c' kk hn it=>?_;obtain⟨i1,i2⟩:=it;have fr:H1 (s1.heap.objs.size+1)=L:=I1.hok.fresh (acX _);dsimp only at hn ⊢;rw[hz] at hn ⊢;refine⟨.ref _,_,I2.laid (t':=tk) (a:=s1.heap.objs.size+1) (o:=.lst (uO j.toNat)) kk (by show _<=s1.heap.objs.size+1;rw[hz];exact aao _) ⟨?_,acc.toList,c',?_,?_⟩,rfl,q _ fr⟩
 ·simp[uO];rw[acM];omega
 ·have:=xL acc.toList 0 (λj v hv=>by
   obtain⟨t,e⟩:=i2 j v (by simpa using hv)
   exact⟨t,by rw[e];congr 1;omega⟩)
  rw[acF,i1] at this;rw[uO,List.range_eq_range'];exact this
 ·simpa using hn
end
end L2
namespace M
open L2
section
variable{X:Cx}{K:aeH}{μ μ':Fp}{H H':Hp}{S S':ac}{pos:Pos}
def vS(S:ac):D->Option (List D)
 | .lst xs=>Y xs
 | .ref r=>match S[r]? with | some 2.2=>Y xs | _=>L
 | _=>L
theorem BE{d:D}(s:SOk K μ S H)(r:Rep K μ H v d)(h:vS S d=Y ds):∃ a vs,v=.ref a/\H a=Y 1.07/\Reps K μ H vs ds:=by
 cases r with
 | lst hd n rr=>cases h;exact⟨_,_,rfl,hd,rr⟩
 | ref hr=>
  rename_i a i;unfold vS at h;dsimp only at h;cases q:S[i]? with
  | none=>rw[q] at h;cases h
  | some c=>
   rw[q] at h;have ck:=s.cell _ _ _ hr q;cases c with
   | lst xs=>cases h;obtain⟨vs,e,rr⟩:=ck;exact⟨a,vs,rfl,e,rr⟩
   | dct ks xs=>cases h
 | _=>cases h
def Ed:D->Bool
 | .ref _=>true
 | _=>false
def aH(S:ac)(x y:D):Option D:=if Ed x||Ed y then(vS S x).bind λxs=>(vS S y).bind λys=>if xs.length+ys.length<=UJ then Y (.lst (xs++ys)) else L else Sf S x y
theorem Vr:OpR X 2.29 (qK X.K aH):=OpR.imp (OpR.or Qs ZR) λx y H Q z0=>by
 obtain⟨μ,S,dx,dy,dz,hS,h1,h2,h3,post⟩:=z0;unfold aH at h3;split at h3
 ·obtain⟨xs,e1,h3⟩:=iq h3;obtain⟨ys,e2,h3⟩:=iq h3;split at h3
  ·rename_i hl;cases h3;obtain⟨a,vs,rfl,q1,r1⟩:=BE hS h1 e1;obtain⟨b,ws,rfl,q2,r2⟩:=BE hS h2 e2;have l1:=r1.length;have l2:=r2.length;exact .inl ⟨a,b,vs,ws,rfl,rfl,q1,q2,by omega,λp hp=>post.lst hS hp (r1.append r2)⟩
  ·cases h3
 ·exact .inr ⟨μ,S,dx,dy,dz,hS,h1,h2,h3,post⟩
def mZ:List Int->Int
 | []=>0
 | [a]=>a
 | a::r=>max a (mZ r)
theorem uV:∀ {ns:List Int},ns≠[]->mZ ns∈ns/\∀ a∈ns,a<=mZ ns
 | [a],_=>⟨by simp[mZ],λb hb=>by simp at hb;simp[mZ,hb]⟩
 | a::b::r,_=>by
  obtain⟨h1,h2⟩:=uV (ns:=b::r) 0.4;show max a (mZ (b::r))∈_/\∀ c∈_,c<=max a (mZ (b::r));generalize mZ (b::r)=m at h1 h2;refine⟨?_,λc hc=>?_⟩
  ·by_cases h:m<=a
   ·rw[Int.max_eq_left h];exact aac
   ·rw[Int.max_eq_right 0.0];exact aaf _ h1
  ·rcases aaG.mp hc with rfl | hc
   ·exact Int.le_max_left _ _
   ·exact aei (h2 c hc) (Int.le_max_right _ _)
theorem FY{ns:List Int}{m:Int}(h0:ns≠[])(h1:m∈ns)(h2:∀ a∈ns,a<=m):m=mZ ns:=by
 obtain⟨g1,g2⟩:=uV h0;have:=h2 _ g1;have:=g2 _ h1;omega
def qq(S:ac):List D->Option D
 | [d]=>(vX S d).bind λns=>if ns.isEmpty then L else Y (.int (mZ ns))
 | ds=>Ym S ds
theorem CallR.or(h:CallR X f r)(h':CallR X f r'):CallR X f (λxs H Q=>r xs H Q\/r' xs H Q):=by
 intro pins s σ H xs us Q I rv q;rcases q with q | q
 ·exact h pins s σ H xs us Q I rv q
 ·exact h' pins s σ H xs us Q I rv q
theorem OF(hc:X.calm=true):CallR X (.builtin "max") (MN X.K (aS qq)):=CallR.imp (CallR.or (OB hc) (OG hc)) λxs H Q z0=>by
 obtain⟨μ,S,ds,d,S',hS,hr,hm,post⟩:=z0;obtain⟨rfl,hm'⟩:=eN hm
 match ds,hr,hm,hm' with
 | [d0],hr,hm,hm'=>
  obtain⟨ns,h1,h2⟩:=iq hm';split at h2
  ·cases h2
  ·rename_i h0;cases h2;have h0:ns≠[]:=λz=>h0 (by rw[z];rfl);obtain⟨v,rfl,rv⟩:=hr.one;obtain⟨b,rfl,hq,h64⟩:=JR hS rv h1;refine .inl ⟨b,ns,rfl,hq,h0,λm m1 m2=>?_⟩;rw[FY h0 m1 m2];exact post.here hS (.int _)
 | [],hr,hm,hm'=>cases hm'
 | _::_::_,hr,hm,hm'=>exact .inr ⟨μ,_,_,d,_,hS,hr,hm,post⟩
def fV(ms:MA):ME:=λenv S=>(ms env S).bind λp=>match p.1 with | [.int j]=>if 0<=j/\j<=1000 then Y (.lst (dw 0 j.toNat),p.2) else L | _=>L
theorem IK(n:Nat):Reps K μ H (uO n) (dw 0 n):=by
 unfold uO dw;generalize List.range n=l
 induction l with
 | nil=>exact .nil
 | cons a r ih=>rw[aah,aah,Int.zero_add];exact .cons (.int _) ih
theorem Tn{a:tx}{p p2:Pos}(hc:X.calm=true)(hm:X.mg "list" = L)(hm2:X.mg "range" = L)(hg:Gl X "list")(hg2:Gl X "range")(ha:DA X [a] ms)(hs:Wj [a] X.env=[5.8]) :
  DE X (.Call (.Name "list" p) [.Call (.Name "range" p2) [a] [] pos2] [] pos) (fV ms):=PE.imp (CZ hc hm hm2 hg hg2 ha hs) λσ H Q z0=>by
 obtain⟨μ,S,env,d,S',hS,hE,h,post⟩:=z0;obtain⟨ds,S1,h1,h⟩:=dW h;refine⟨μ,S,env,ds,S1,hS,hE,h1,λvs H1 μ1 e1 s1 r1=>?_⟩;dsimp only at h;split at h
 ·rename_i j;split at h
  ·rename_i hj;cases h;obtain⟨v,rfl,rv⟩:=r1.one;exact⟨j,by rw[rv.int_inv],hj.1,hj.2,λq hq=>(post.ext e1).lst s1 hq (IK _)⟩
  ·cases h
 ·cases h
def jn(t:MT)(body:MS):Nat->bf->ac->Option se
 | 0,_,_=>L
 | f+1,env,S=>(t env S).bind λp=>if p.1=true then(body env p.2).bind λo=>match o with
   | .nx e s=>jn t body f e s
   | .ct e s=>jn t body f e s
   | .bk e s=>Y 1.97
   | .rt d s=>Y 1.96
  else Y (.nx env p.2)
def fU(t:MT)(body:MS):MS:=jn t body 5000
theorem SQ{mb:MS}(hp:PassesOwn 0.3 X.A X.env X.xe)(hc:DT X c t)(hb:AU X body mb):DS X (.While c body [] pos) (fU t mb):=PS.imp (PZ hp hc hb) λE σ H z0=>by
 obtain⟨μ,S,env,o,hS,hE,hm,post⟩:=z0;refine⟨λn=>YG X.K μ H (λμ H o=>PostS X.K μ H o E) (jn t mb n),⟨5000,μ,S,env,o,hS.ext,hS,hE,hm,post⟩,?_⟩;rintro n σ' H' ⟨μ',S',env',o',e',s',r',hl,post'⟩;cases n with
 | zero=>cases hl
 | succ n=>
  obtain⟨b,S1,h1,hl⟩:=dW hl;refine⟨μ',S',env',b,S1,s',r',h1,λH2 μ2 e2 s2=>?_⟩;have eT:Ext μ H μ2 H2:=e'.trans e2;have pT:PostS X.K μ2 H2 o' E:=post'.ext e2;cases b with
  | false=>cases hl;dsimp only;rw[if_neg aeJ];exact pT σ' H2 μ2 s2.ext s2 (r'.mono e2)
  | true=>
   dsimp only;rw[aas rfl];obtain⟨o4,h4,hl⟩:=iq hl;refine⟨YG X.K μ H (λμ H o=>PostS X.K μ H o E) (jn t mb n),λσ2 H2 z=>⟨n,by omega,z⟩,?_⟩;refine⟨μ2,S1,env',o4,s2,r'.mono e2,h4,?_⟩;cases o4 with
   | nx e5 s5=>exact λσ6 H6 μ6 e6 s6 r6=>⟨μ6,s5,e5,o',eT.trans e6,s6,r6,hl,pT.ext e6⟩
   | ct e5 s5=>exact λσ6 H6 μ6 e6 s6 r6=>⟨μ6,s5,e5,o',eT.trans e6,s6,r6,hl,pT.ext e6⟩
   | bk e5 s5=>cases hl;exact pT
   | rt d5 s5=>cases hl;exact pT
end
inductive TabRel:List (cj×ce)->List (cj×D)->Prop
 | nil:TabRel [] []
 | cons {k:cj} {v:ce} {d:D} {vs:List (cj×ce)} {ds:List (cj×D)} (x:V) (h:RelV x v) (r:∀ K μ H,Rep K μ H x d) (t:TabRel vs ds):TabRel ((k,v)::vs) ((k,d)::ds)
theorem TabRel.val{k:cj}:∀ {vs ds},TabRel vs ds->∀ {d},fH ds k=Y d->∃ v x,valueAt vs k=Y v/\RelV x v/\∀ K μ H,Rep K μ H x d
 | _,_,.nil,d,h=>by cases h
 | _,_,.cons (k:=k') (v:=v) x h r t,d,q=>by
  unfold fH at q;split at q
  ·rename_i e;cases q;refine⟨v,x,?_,h,r⟩;simp only at e;simp[valueAt,e]
  ·rename_i e;obtain⟨v',x',h1,h2,h3⟩:=TabRel.val t q;refine⟨v',x',?_,h2,h3⟩;simp only at e;rw[<- h1];simp[valueAt,e]
structure zO(w:Pn)(K:aeH)(mg:Str->Option ce)(x:Str)(l:List (cj×D)):Prop where
 ex:∃ (a:td) (vs:List (cj×ce)),mg x=Y (.ref a)/\(∀ (P:vx) (h:Ud),K.In h->h.DictOf (cZ P w) a vs)/\TabRel vs l
section
variable{X:Cx}
theorem Rv(hd:∀ (P:vx) (h:Ud),X.K.In h->h.DictOf (cZ P X.w) a vs):IxR X (λx y H Q=>∃ k v z,x=.ref a/\y=kV k/\valueAt vs k=Y v/\RelV z v/\Q z H):=by
 intro value slice pins s σ H x y v u Q I rx ry h hs;obtain⟨k,v',z,rfl,rfl,hv,rz,q⟩:=h;cases rx;have dd:=hd X.prog s.heap I.kIn;exact tail_any dd.typeIs F.slot_dict_getitem.lookup (wpAny_getItem_of (yO ry) dd.mapOf hv ⟨z,H,I.tok _,rz,q⟩) hs
def eL(l:List (cj×D))(mi:ME):ME:=λenv S=>(mi env S).bind λp=>(gm p.1).bind λk=>(fH l k).bind λd=>Y (d,p.2)
theorem Th(g:zO X.w X.K X.mg x l)(hg:Gl X x)(hx:(x==("__debug__":Str))=false)(hi:DE X i mi)(hs:rp i:=by intro q q;rfl):DE X (.Subscript 7.2 i pos) (eL l mi):=by
 obtain⟨a,vs,h1,h2,h3⟩:=g.ex;refine PE.imp (Qk (Rv h2) (Da (v:=.ref a) hg h1 rfl hx) hi hs) λσ H Q ⟨μ,S,env,d,S',hS,hE,hm,post⟩=>?_;obtain⟨y,S1,e1,hm⟩:=dW hm;obtain⟨k,e2,hm⟩:=iq hm;obtain⟨d',e3,hm⟩:=iq hm;cases hm;obtain⟨v,z,v1,v2,v3⟩:=h3.val e3;exact⟨μ,S,env,y,_,hS,hE,e1,λu H1 μ1 ex s1 r1=>⟨k,v,z,rfl,lP e2 r1,v1,v2,post _ H1 μ1 ex s1 (v3 _ _ _)⟩⟩
end
theorem EV{K:aeH}(hl:K.lookup a=Y ⟨.type "dict",L,.dict es n,#[]⟩)(hp:∀ P,Pairs (cZ P w) es.toList vs)(hk:∀ P,KeysOf (cZ P w) es)(hn:(vs.map (·.1)).Nodup) :
  ∀ (P:vx) (h:Ud),K.In h->h.DictOf (cZ P w) a vs:=λP h KX=>⟨_,es,n,KX a _ hl,⟨rfl,rfl,rfl⟩,rfl,hk P,hp P,hn⟩
inductive TabLit(w:Pn):List DictEntry->List (cj×ce)->Prop
 | nil:TabLit w [] []
 | cons {x:Str} {t:Tok} {v:ce} {es:List DictEntry} {vs:List (cj×ce)} (h:TabLit w es vs):TabLit w (⟨PyData.keyHash w.params x,.str x t,v⟩::es) ((.inr x,v)::vs)
theorem TabLit.pairs:∀ {es vs},TabLit w es vs->Pairs (cZ P w) es vs
 | _,_,.nil=>.nil
 | _,_,.cons (x:=x) (t:=t) h=>.cons (yO (k:=.inr x) (show RelV (V.str x) (Value.str x t) from ⟨t,rfl⟩)) rfl h.pairs
theorem TabLit.keys:∀ {es vs},TabLit w es vs->∀ e∈es,∃ k,(cZ P w).is k e.key=true/\e.hash=(cZ P w).hash k
 | _,_,.nil,e,h=>by simp at h
 | _,_,.cons (x:=x) (t:=t) h,e,he=>by
  rcases aaG.mp he with rfl | he
  ·exact⟨.inr x,yO (k:=.inr x) (show RelV (V.str x) (Value.str x t) from ⟨t,rfl⟩),rfl⟩
  ·exact h.keys e he
theorem Pe{K:aeH}{mg:Str->Option ce}{es:List DictEntry}(hg:mg x=Y (.ref a))(hl:K.lookup a=Y ⟨.type "dict",L,.dict es.toArray n,#[]⟩)(t:TabLit w es vs)(hn:(vs.map (·.1)).Nodup)(r:TabRel vs l):zO w K mg x l:=
 ⟨a,vs,hg,EV hl (λP=>by simpa using t.pairs) (λP e he=>t.keys e (by simpa using he)) hn,r⟩
section
variable{X:Cx}{K:aeH}{μ:Fp}{H:Hp}{S:ac}
def qt:MF:=λo ds S=>match ds with
 | [x]=>if vd S o=true then(lm S o).bind λys=>if cK 40 x=true/\ys.all (cK 39)=true/\ys.length<=UJ then(ys.findIdx? λd=>iK d x).bind λj=>Y (.int (j:Nat),S) else L else L
 | _=>L
theorem sJ{s:gV}(I:Inv X pins σ H s):∀ {vs:List V} {us:List ce} {ds:List D},Vals vs us->Reps X.K μ H vs ds->(∀ d∈ds,cK 39 d=true) ->
  us.map (fv X.K μ H x)=ds.map λd=>iK d x
 | _,_,_,.nil,.nil,_=>rfl
 | _,_,_,.cons rv tv,.cons r t,ok=>by
  rw[aah,aah,uv I rv r (ok _ aac),sJ I tv t λd m=>ok d 1.90]
theorem QA(hu:X.A.units+64<cLine):MtR X "list.index" (PR X.K qt):=by
 intro pins s σ H x vs v us Q I rx rv h;obtain⟨μ,S,dx,ds,d,S',hS,r1,r2,h,post⟩:=h;unfold qt at h;split at h
 ·rename_i y;split at h
  ·rename_i hl;obtain⟨a,ws,es,rfl,hq,hse,re⟩:=tS hS r1 hl;rw[hse] at h;dsimp only[Option.bind_some] at h;split at h
   ·rename_i hk;obtain⟨j,hj,h⟩:=iq h;cases h;cases rx;obtain⟨w,rfl,rw0⟩:=r2.one;obtain⟨u,rfl,ru⟩:=rv.one;obtain⟨its,rvs,⟨⟨cls,dd,data,sl⟩,n,e,hc,hdd,hd⟩,hz⟩:=I.list hq;simp only at hc hdd hd;subst hc hdd hd;have ok:=aan.mp hk.2.1;have em:=sJ (x:=y) I rvs re ok;have ln:its.length=es.length:=by rw[<- re.length,rvs.length]
    obtain⟨hj1,hj2,hj3⟩:=acm.mp hj
    have at_:∀ (m:Nat) (h1:m<its.length) (h2:m<es.length),fv X.K μ H y its[m]=iK es[m] y:=λm h1 h2=>by
     have:(its.map 1.39)[m]?=(es.map λd=>iK d y)[m]?:=by rw[em]
     rw[abi,abi,aae h1,aae h2] at this;simpa using this
    have sz:UJ<2^63 - 1:=by decide
    refine aci F.slot_list_index ⟨_,e,rfl⟩ F.entry_list_index (F.args_list_index_2 _ _) (SeqAt.list_indexAt a its.toArray n L sl u 1.39 j (by simpa[ln] using hj1) (by have:=hk.2.2;omega) ?_ ?_) ⟨e,λw' hw'=>?_,?_⟩
    ·rw[acz,at_ j 0.0 hj1];exact hj2
    ·intro m hm hmj;rw[acz,at_ m (by simpa using hm) 0.0];have:=hj3 m hmj;simpa using this
    ·exact gZ I (by show X.A.units+1+40<cLine;omega) ru rw0 hk.1 rvs re ok w' (by simpa using hw')
    ·exact⟨.int _,H,I.tok _,⟨_,rfl⟩,post.here hS (.int _)⟩
   ·cases h
  ·cases h
 ·cases h
end
end M
namespace L2
section
variable{X:Cx}
theorem Oz:CallR X (.type "str") (λxs H Q=>(∃ i,xs=[.int i]/\i.natAbs.log2<1920/\Q 1.75 H)\/(xs=[.non]/\Q (.str "None") H)):=by
 intro pins s σ H xs us Q I r h;rcases h with h | ⟨rfl,q⟩
 ·exact EB pins s σ H xs us Q I r h
 ·obtain⟨u,rfl,hu⟩:=pF r;cases hu;exact PySem.P.str_of_none ⟨.str _,H,I.tok _,⟨_,rfl⟩,q⟩
end
end L2
namespace M
open L2
section
variable{X:Cx}{K:aeH}{μ μ':Fp}{H H':Hp}{S:ac}
def ur(S:ac)(ds:List D):Option D:=match ds with
 | [.int i]=>if i.natAbs.log2<1920 then Y 1.75 else L
 | [.non]=>Y (.str "None")
 | _=>L
theorem TJ:CallR X (.type "str") (MN X.K (aS ur)):=CallR.imp Oz λxs H Q z0=>by
 obtain⟨μ,S,ds,d,S',hS,hr,hm,post⟩:=z0;obtain⟨rfl,hm⟩:=eN hm;cases ds with
 | nil=>cases hm
 | cons x r=>
  cases r with
  | cons _ _=>cases x<;>cases hm
  | nil=>
   obtain⟨v,rfl,r⟩:=hr.one;cases x with
   | non=>cases hm;cases r;exact .inr ⟨rfl,post.here hS (.str _)⟩
   | int i=>
    dsimp only[ur] at hm;by_cases hz:i.natAbs.log2<1920
    ·rw[aas hz] at hm;cases hm;exact .inl ⟨i,by rw[r.int_inv],hz,post.here hS (.str _)⟩
    ·rw[if_neg hz] at hm;cases hm
   | _=>cases hm
end
end M
namespace HT
open SeqAt
def LF(items:Array ce)(x:ce)(i:Nat)(_s:Option Fin×Unit):Sem (ForInStep (Option Fin×Unit)):=match items[i]? with
 | some y=>do
  let b <- eqBool y x
  if b=true then do
   let r <- retInt (i:Int)
   pure (ForInStep.done (Y r,()))
  else pure (ForInStep.yield (L,()))
 | _=>pure (ForInStep.yield (L,()))
theorem RD{items:Array ce}{e:ce->Bool}{j:Nat}{hp:Ud}{g:Array GenState}{d:Drawn}{tk:Nat}{os:OsState}{Q:Option Fin×Unit->gV->Prop}(hj:j<items.size)
  (hit:e items[j]=true) (hno:∀ m (hm:m<items.size),m<j->e items[m]=false) (he:∀ y,y∈items->EqAt A ⟨hp,g,d,tk,os⟩ y x (e y))
  (hQ:Q (Y (.done (.ret (.int j tk))),()) ⟨hp,g,d,tk+1,os⟩):∀ (k i:Nat),items.size - i=k->i<=j->aeG 1.4 A (forIn (List.range' i k) (L,()) (LF items x)) Q E ⟨hp,g,d,tk,os⟩:=by
 intro k
 induction k with
 | zero=>intro i hk hi;omega
 | succ k ih=>
  intro i hk hi;have hlt:i<items.size:=by omega
  rw[List.range'_succ,List.forIn_cons];refine aab ?_;have hx:items[i]?=Y items[i]:=by simp[hlt]
  unfold LF;rw[hx];refine aab (he _ (Array.getElem_mem hlt) prog w _ _ ?_);by_cases h:i=j
  ·subst h;rw[hit,aas rfl]
   wp_walk
   exact hQ
  ·rw[hno i hlt 0.0,if_neg 0.1];refine aat ?_;exact ih (i+1) 0.0 0.0
theorem zS(l:td)(items:Array ce)(n:Nat)(dd:Option td)(sl:Array 1.04)(x:ce)(e:ce->Bool)(j:Nat)(hj:j<items.size)
  (hit:e items[j]=true) (hno:∀ m (hm:m<items.size),m<j->e items[m]=false) :
  Meets (Builtin.«tuple.index» ⟨[.ref l,x],[]⟩)
   (λA R s=>s.heap.get? l=Y { cls:=.type "tuple",dict:=dd,data:=.seq items n,slots:=sl }/\(∀ y,y∈items->EqAt A.in1 s y x (e y))/\R (.ok (.ret (.int j s.toks))) { s with toks:=s.toks+1 }):=
 .of_wp λprog w A R s h=>by
  obtain⟨hp,g,d,tk,os⟩:=s;obtain⟨hl,he,h⟩:=h;unfold Builtin.«tuple.index»;simp only[Std.Legacy.Range.forIn_eq_forIn_range']
  wp_walk using wpAny_loadPart' hl
  have hz:[:min items.size items.size].size=items.size:=by simp[Std.Legacy.Range.size]
  rw[hz];refine RD (items:=items) (x:=x) (j:=j) hj hit hno he ?_ items.size 0 0.0 (acp _);exact aat ⟨_,rfl,h⟩
end HT
namespace M
open L2
section
variable{X:Cx}{K:aeH}{μ:Fp}{H:Hp}{S:ac}
def uu:MF:=λo ds S=>match o,ds with
 | .tup es,[y]=>if cK 40 y=true/\es.all (cK 39)=true then(es.findIdx? λd=>iK d y).bind λj=>Y (.int (j:Nat),S) else L
 | _,_=>L
theorem Ng(hu:X.A.units+64<cLine):MtR X "tuple.index" (PR X.K uu):=by
 intro pins s σ H x vs v us Q I rx rv h;obtain⟨μ,S,dx,ds,d,S',hS,r1,r2,h,post⟩:=h;unfold uu at h;split at h
 ·rename_i es y;split at h
  ·rename_i hk;obtain⟨j,hj,h⟩:=iq h;cases h;obtain⟨a,ws,rfl,hq,re⟩:=r1.sqT;cases rx;obtain⟨w,rfl,rw0⟩:=r2.one;obtain⟨u,rfl,ru⟩:=rv.one;obtain⟨its,rvs,pt,hz⟩:=I.tuple hq;obtain⟨⟨cls,dd,data,sl⟩,e,hc,n,hd⟩:=id pt;simp only at hc hd;subst hc hd;have ok:=aan.mp hk.2;have em:=sJ (x:=y) I rvs re ok;have ln:its.length=es.length:=by rw[<- re.length,rvs.length]
   obtain⟨hj1,hj2,hj3⟩:=acm.mp hj
   have at_:∀ (m:Nat) (h1:m<its.length) (h2:m<es.length),fv X.K μ H y its[m]=iK es[m] y:=λm h1 h2=>by
    have:(its.map 1.39)[m]?=(es.map λd=>iK d y)[m]?:=by rw[em]
    rw[abi,abi,aae h1,aae h2] at this;simpa using this
   refine aci aey ⟨_,e,rfl⟩ F.entry_tuple_index (F.args_tuple_index_2 _ _) (HT.zS a its.toArray n dd sl u 1.39 j (by simpa[ln] using hj1) ?_ ?_) ⟨e,λw' hw'=>?_,?_⟩
   ·rw[acz,at_ j 0.0 hj1];exact hj2
   ·intro m hm hmj;rw[acz,at_ m (by simpa using hm) 0.0];have:=hj3 m hmj;simpa using this
   ·exact gZ I (by show X.A.units+1+40<cLine;omega) ru rw0 hk.1 rvs re ok w' (by simpa using hw')
   ·exact⟨.int _,H,I.tok _,⟨_,rfl⟩,post.here hS (.int _)⟩
  ·cases h
 ·cases h
theorem WZ{e:tx}{es:List tx}{apos:Pos}(hu:X.A.units+64<cLine)(ho:DE X o mo)(ha:DA X (e::es) ms)
  (hbase:attributeBase o "index" X.env 9.3=eval o X.env)
  (hfew:((backTo cpos (Wj (e::es) X.env)).all (λx=>!x.1)&&(backToKw cpos 6.0).all (λx=>x.1.isSome)&&decide ((e::es).length+([]:List Keyword).length+(if ([]:List Keyword).isEmpty then 0 else 1)<30))=true)
  (hline:(apos.endLine==cpos.line)=true) (hs:Wj (e::es) X.env=1.2::Wj es X.env) (hpl:(backTo cpos 2.1).any (·.1)=false) :
  DE X (.Call (.Attribute o "index" apos) (e::es) [] cpos) (mj uu mo ms):=by
 have hT:=Qp (X:=X) aey F.type_tuple_index (Ng hu) ho ha hbase hfew hline hs hpl;intro pins s σ H Q I ⟨μ,S,env,d,S',hS,hE,h,post⟩;obtain⟨x,S1,h1,h⟩:=dW h;dsimp only at h;split at h
 ·rename_i ht;obtain⟨xs,S2,h2,h⟩:=dW h;refine hT pins s σ H Q I ⟨μ,S,env,x,S1,hS,hE,h1,λv H1 μ1 e1 s1 r1=>⟨?_,μ1,S1,env,xs,S2,s1,hE.mono e1,h2,λvs H2 μ2 e2 s2 r2=>⟨μ2,S2,x,xs,d,S',s2,r1.mono e2,r2,h,(post.ext e1).ext e2⟩⟩⟩;cases x<;>first | cases ht | skip
  obtain⟨a,ws,rfl,hq,z⟩:=r1.sqT;exact⟨a,ws,rfl,hq⟩
 ·cases h
end
end M
namespace L2
def qaK(e iter:tx)(acc:ce)(env:Env):Sem Unit:=do
 let x <- eval iter env
 standAt iter.pos
 let x <- XM iter env x;let it <- holding [x] (pyIter x);let _ <- runOwn (.compStart e 1 it acc env) env
 pure ()
theorem rV(elt tg iter tg2 iter2:tx)(ifs ifs2:List tx)(scope:Scope)(pos:Pos)(it acc:ce)(env:Env) :
  compTurn 0.7 0 it acc env=pG 0.7 tg iter.pos ifs 0 it acc env (qaK 0.7 iter2 acc env):=by
 unfold pG qaK;simp only[bind_assoc,pure_bind];rfl
theorem AR(elt tg iter tg2 iter2:tx)(ifs ifs2:List tx)(scope:Scope)(pos:Pos)(it acc:ce)(env:Env) :
  compTurn 0.7 1 it acc env=pG 0.7 tg2 iter2.pos ifs2 1 it acc env (SG elt acc env):=rfl
theorem pA{s:gV}{g1:Comprehension}{tg2 iter2:tx}{ifs2:List tx}
  (h0:codeAny 1.4 A (.compLoop 8.2 1 it acc env) R s)
  (h:aeG 1.4 A (pyIter it) (λit' s'=>codeAny 1.4 A (.compLoop 8.2 1 it' acc env) R s') (notedBy 1.4 A env λx s'=>R (.error x) s') s) :
  codeAny 1.4 A (.compStart 8.2 1 it acc env) R s:=by
 refine codeAny_of_tree ?_;refine wpAny_notedAt ?_;show aeG _ _ (compStart _ 1 _ _ _) _ _ _;refine aab (wpAny_askSetting (wpAny_ite ?_));by_cases hq:({ program:=(model prog w).prog,params:=(model prog w).w.params:Setting }.params.followText "comprehension-iter-twice")=true
 ·rw[aas hq];exact aab (aat (aat ⟨rfl,h0⟩))
 ·rw[if_neg hq];exact aab (adG (aab (abC (aab (aaK h (λit' s' h'=>aat ⟨rfl,h'⟩) λq q z=>z)))))
def tIn(wi:TI)(g:TG)(tt:TT)(te:TE)(p:td):TB:=λσ H Q=>wi σ H λJ H1=>Ik J g tt (tEm te p) σ H1 Q
theorem XQ{X:Cx}{tg iter:tx}{ifs:List tx}(hc:X.calm=true)(hx:∀ e s,X.xe e s->False)
  (hi:PI X tg2 iter2 wi) (hg:PG X tg2 g) (ht:Uj X ifs2 tt) (he:PE X elt te) (hs:∀ x,XM iter2 X.env x=pure x) :
  PB X (qaK 0.7 iter2 (.ref p) X.env) (tIn wi g tt te p):=λpins s σ H Q I h=>by
 refine aab (eG 2.11 λx s1 h1=>aab (abC ?_));rw[hs];refine aab (aat (aab (abd (eG h1 λitv s2 h2=>?_))));obtain⟨it,fp,tn,J,H1,e,I2,T,st2,f2,hL⟩:=h2;subst e;have loop:=Ci (d:=1) hc hx rfl (AR elt tg iter tg2 iter2 ifs ifs2 scope pos _ _ _) hg ht (Db (p:=p) he) T I2 st2 f2 hL;refine aab (wpAny_runOwn ?_);rw[Around.mark_none];refine abU (pA loop (T.self _ 0 _ _ _ st2 loop)) λr s' ⟨σ',H',hr,J',q'⟩=>?_;subst hr;exact aat ⟨σ',H',J',q'⟩
end L2
namespace M
open L2
section
variable{X:Cx}{K:aeH}{H:Hp}{pos:Pos}
inductive iMs(K:aeH)(m:MA)(σ:L2.St)(H:Hp)(R:It->Hp->Prop):Prop
 | mk (μ:Fp) (S:ac) (env:bf) (xs:List D) (S':ac) (hS:SOk K μ S H) (hE:EOk K μ H σ env) (h:m env S=Y (xs,S')) (post:∀ J H' μ',Ext μ H μ' H'->SOk K μ' S' H'->(∀ μ2 H2,(∀ v d,Rep K μ' H' v d->Rep K μ2 H2 v d)->OM K μ2 H2 J xs)->R J H')
def YH(X:Cx)(tg iter:tx)(m:MA):Prop:=PI X tg iter (iMs X.K m)
theorem Ku{a:tx}{p:Pos}(hm:X.mg "range" = L)(ha:DA X [a] ms)(hg:Gl X "range":=by rfl)(hs:Wj [a] X.env=[5.8]:=by rfl):YH X tg (.Call (.Name "range" p) [a] [] pos) (cB ms):=
 PI.imp (Bo hg hm ha hs) λσ H R z0=>by
  obtain⟨μ,S,env,xs,S',hS,hE,hm,post⟩:=z0;obtain⟨ds,S1,h1,hm⟩:=dW hm;refine⟨μ,S,env,ds,S1,hS,hE,h1,λvs H1 μ1 e1 s1 r1=>?_⟩;dsimp only at hm;split at hm
  ·split at hm
   ·rename_i hb;cases hm;obtain⟨v,rfl,r⟩:=r1.one;exact⟨_,by rw[r.int_inv],hb.1,hb.2,post _ H1 μ1 e1 s1 λz z z=>yZ 0 _⟩
   ·cases hm
  ·cases hm
theorem WS(h:DE X iter m):YH X tg iter (di m):=PI.imp (Qg h) λσ H R z0=>by
 obtain⟨μ,S,env,xs,S',hS,hE,hm,post⟩:=z0;obtain⟨d,S1,h1,hm⟩:=dW hm;refine⟨μ,S,env,d,S1,hS,hE,h1,λv H1 μ1 e1 s1 r1=>?_⟩;cases d with
 | lst ys=>
  cases hm;have r1':=r1;obtain⟨a,vs,rfl,q,z,rs⟩:=r1.sqL;exact⟨a,rfl,.inl ⟨⟨vs,.inl (.inl q)⟩,post _ H1 μ1 e1 s1 λz z f=>qR 4.5 (f _ _ r1') rfl⟩⟩
 | tup ys=>
  cases hm;have r1':=r1;obtain⟨a,vs,rfl,q,rs⟩:=r1.sqT;exact⟨a,rfl,.inr ⟨⟨vs,q⟩,post _ H1 μ1 e1 s1 λz z f=>GU (f _ _ r1')⟩⟩
 | rol ys=>
  cases hm;have r1':=r1;obtain⟨a,vs,rfl,q,rs⟩:=r1.sqR;exact⟨a,rfl,.inl ⟨⟨vs,q⟩,post _ H1 μ1 e1 s1 λz z f=>qR 2.32 (f _ _ r1') rfl⟩⟩
 | _=>cases hm
def lq(g:MG)(t:MT)(e:ME):List D->bf->ac->Option (List D×bf×ac)
 | [],env,S=>Y ([],env,S)
 | d::ds,env,S=>(g d env S).bind λp=>(t p.1 p.2).bind λb=>if b.1=true then(e p.1 b.2).bind λq=>(lq g t e ds p.1 q.2).bind λr=>Y (q.1::r.1,r.2) else lq g t e ds p.1 b.2
def jY(g:MG)(t:MT)(mi2:MA)(g2:MG)(t2:MT)(e:ME):List D->bf->ac->Option (List D×ac)
 | [],_,S=>Y ([],S)
 | d::ds,env,S=>(g d env S).bind λp=>(t p.1 p.2).bind λb=>if b.1=true then(mi2 p.1 b.2).bind λq=>(lq g2 t2 e q.1 p.1 q.2).bind λr=>(jY g t mi2 g2 t2 e ds r.2.1 r.2.2).bind λz=>Y (r.1++z.1,z.2) else jY g t mi2 g2 t2 e ds p.1 b.2
def dZ(mi:MA)(g:MG)(t:MT)(mi2:MA)(g2:MG)(t2:MT)(e:ME)(cap:List 5.9):ME:=λenv S=>(mi env S).bind λp=>(jY g t mi2 g2 t2 e p.1 1.80 p.2).bind λq=>if q.1.length<=UJ then Y 1.85 else L
structure CpI(K:aeH)(μ1:Fp)(H1:Hp)(p:td)(σ:L2.St)(H:Hp)(cs:List td)(S:ac)(env:bf)(vs:List V)(zs:List D):Prop where
 ext:ExtP μ1 H1 ⟨cs,p::μ1.fb⟩ H
 sok:SOk K ⟨cs,p::μ1.fb⟩ S H
 eok:EOk K ⟨cs,p::μ1.fb⟩ H σ env
 lst:H p=Y 1.07
 rep:Reps K ⟨cs,p::μ1.fb⟩ H vs zs
theorem CpI.go{H:Hp}{cs':List td}(c:CpI K μ1 H1 p σ H cs S env vs zs)(e:Ext ⟨cs,p::μ1.fb⟩ H ⟨cs',p::μ1.fb⟩ H')(s:SOk K ⟨cs',p::μ1.fb⟩ S' H')(r:EOk K ⟨cs',p::μ1.fb⟩ H' σ' env'):CpI K μ1 H1 p σ' H' cs' S' env' vs zs:=
 ⟨c.ext.then e,s,r,(e.keeps c.lst λz=>c.sok.disj p aac z).1,c.rep.mono e⟩
theorem CpI.app{H:Hp}{d:D}(c:CpI K μ1 H1 p σ H cs S env vs zs)(hp:H1 p=L)(r:Rep K ⟨cs,p::μ1.fb⟩ H v d):CpI K μ1 H1 p σ (upd H p (.lst (vs++[v]))) cs S env (vs++[v]) (zs++[d]):=
 ⟨c.ext.chg hp,c.sok.chg aac,c.eok.chg aac,bF,Reps.chg aac (c.rep.append (.cons r .nil))⟩
inductive CoJ(K:aeH)(μ1:Fp)(H1:Hp)(p:td)(f:List D->bf->ac->Option (List D×ac))(xs ys:List D)(S9:ac)(i n:Nat)(σ':L2.St)(H':Hp):Prop
 | mk (hn:n=xs.length - i) (hi:i<=xs.length) (cs:List td) (S':ac) (env':bf) (vs:List V) (zs rest:List D) (c:CpI K μ1 H1 p σ' H' cs S' env' vs zs) (hl:f (xs.drop i) env' S'=Y (rest,S9)) (hy:ys=zs++rest)
inductive CeJ(K:aeH)(μ1:Fp)(H1:Hp)(p:td)(cs5:List td)(H5:Hp)(f:List D->bf->ac->Option (List D×bf×ac))(us ys:List D)(env6:bf)(S6:ac)(j n:Nat)(σ':L2.St)(H':Hp):Prop
 | mk (hn:n=us.length - j) (hj:j<=us.length) (cs:List td) (S':ac) (env':bf) (vs:List V) (zs' rest:List D) (c:CpI K μ1 H1 p σ' H' cs S' env' vs zs') (rk:∀ v d,Rep K ⟨cs5,p::μ1.fb⟩ H5 v d->Rep K ⟨cs,p::μ1.fb⟩ H' v d) (hl:f (us.drop j) env' S'=Y (rest,env6,S6)) (hz:ys=zs'++rest)
theorem Bc(h:tM K (dZ mi g t mi2 g2 t2 e cap) σ H Q):xP (iM K mi) (Pg K g) (EL K t) (tIn (iMs K mi2) (Pg K g2) (EL K t2) (tM K e)) cap σ H Q:=by
 obtain⟨μ,S,env,d,S9,hS,hE,hm,post⟩:=h;obtain⟨xs,S1,h1,hm⟩:=dW hm;obtain⟨ys,S2,h2,hm⟩:=dW hm;dsimp only at hm;split at hm
 case isFalse=>cases hm
 rename_i hsz;cases hm;refine⟨μ,S,env,xs,S1,hS,hE,h1,λJ H1 μ1 e1 s1 it p hp=>?_⟩;have hpn:=s1.notMem hp
 refine⟨CoJ K μ1 H1 p (jY g t mi2 g2 t2 e) xs ys S9,
  ⟨xs.length,by simp,acp _,μ1.cs,S1,lG cap env,[],[],ys,⟨?_,s1.more hp,((hE.mono e1).block cap).more hp,bF,.nil⟩,by rw[abM];exact h2,rfl⟩,?_⟩
 ·exact⟨⟨[p],rfl,λa z=>by rw[aav.mp z];exact hp⟩,⟨[],by simp,λw z=>by simp at z⟩,λa o' n h=>by rw[bj (cP h hp)];exact h,λa ha=>by
   by_cases z:a=p
   ·subst z;rw[bF];simp
   ·rw[bj z];exact s1.dom a ha⟩
 rintro i n σ' H' ⟨rfl,hi,cs,S',env',vs,zs,rest,c,hl,rfl⟩;have iti:=it _ H' S' c.ext c.sok i;by_cases hlt:i<xs.length
 ·refine .inr ⟨(iti.1 xs[i] 1.91).1,λx H2 y=>?_⟩;obtain⟨e2,s2,rx⟩:=(iti.1 xs[i] 1.91).2 x H2 y;rw[abq hlt] at hl;obtain⟨env3,S3,h3,hl⟩:=dW hl;obtain⟨b,S4,h4,hl⟩:=dW hl;refine⟨_,S',env',xs[i],env3,S3,s2,c.eok.mono e2,rx,h3,λσ3 H3 μ3 e3 s3 r3=>⟨μ3,S3,env3,b,S4,s3,r3,h4,λH4 μ4 e4 s4=>?_⟩⟩;have eA:=(e2.trans e3).trans e4;obtain⟨cs4,fb4⟩:=μ4;have hfb:fb4=p::μ1.fb:=eA.fb;subst hfb;have c4:=c.go eA s4 (r3.mono e4);cases b with
  | false=>
   rw[if_neg aeJ] at hl;rw[if_neg aeJ];exact⟨xs.length - (i+1),by omega,rfl,hlt,cs4,S4,env3,vs,zs,rest,c4,hl,rfl⟩
  | true=>
   rw[aas rfl] at hl;rw[aas rfl];obtain⟨us,S5,h5,hl⟩:=dW hl;obtain⟨⟨ws,env6,S6⟩,h6,hl⟩:=acl.mp hl;obtain⟨rs,S7,h7,hl⟩:=dW hl;cases hl;refine⟨_,S4,env3,us,S5,s4,r3.mono e4,h5,λJ2 H5 μ5 e5 s5 it2=>?_⟩;obtain⟨cs5,fb5⟩:=μ5;have hfb:fb5=p::μ1.fb:=e5.fb;subst hfb
   refine⟨CeJ K μ1 H1 p cs5 H5 (lq g2 t2 e) us (zs++ws) env6 S6,
    ⟨us.length,by simp,acp _,cs5,S5,env3,vs,zs,ws,c4.go e5 s5 (c4.eok.mono e5),λw w z=>z,by rw[abM];exact h6,rfl⟩,?_⟩
   rintro j n σ' H' ⟨rfl,hj,cs,S',env',vs',zs',rest',c',rk,hl',hz⟩;have itj:=it2 _ _ rk _ H' S' c'.sok.ext.toP c'.sok j;by_cases hlj:j<us.length
   ·refine .inr ⟨(itj.1 us[j] (aae hlj)).1,λx2 H2 y2=>?_⟩;obtain⟨f2,q2,rx2⟩:=(itj.1 us[j] (aae hlj)).2 x2 H2 y2;rw[abq hlj] at hl';obtain⟨env3',S3',k3,hl'⟩:=dW hl';obtain⟨b',S4',k4,hl'⟩:=dW hl';refine⟨_,S',env',us[j],env3',S3',q2,c'.eok.mono f2,rx2,k3,λσ3 H3 μ3 e3 s3 r3=>⟨μ3,S3',env3',b',S4',s3,r3,k4,λH4 μ4 e4 s4=>?_⟩⟩;have eA:=(f2.trans e3).trans e4;obtain⟨cs4,fb4⟩:=μ4;have hfb:fb4=p::μ1.fb:=eA.fb;subst hfb;have c4:=c'.go eA s4 (r3.mono e4);cases b' with
    | false=>
     rw[if_neg aeJ] at hl';rw[if_neg aeJ];exact⟨us.length - (j+1),by omega,rfl,hlj,cs4,S4',env3',vs',zs',rest',c4,λv d z=>(rk v d z).mono eA,hl',hz⟩
    | true=>
     rw[aas rfl] at hl';rw[aas rfl];obtain⟨dv,S8,k5,hl'⟩:=dW hl';obtain⟨rs',q8,k6,hl'⟩:=dW hl';cases hl';refine⟨_,S4',env3',dv,S8,s4,c4.eok,k5,λv H5 μ5 e5 s5 r5=>?_⟩;obtain⟨cs5,fb5⟩:=μ5;have hfb:fb5=p::μ1.fb:=e5.fb;subst hfb;have c5:=c4.go e5 s5 (c4.eok.mono e5);have hv:=c5.rep.length;have hlen:=congrArg List.length hz;simp only[aaj,aam] at hlen hsz;exact⟨vs',c5.lst,by omega,us.length - (j+1),by omega,rfl,hlj,cs5,S8,env3',vs'++[v],zs'++[dv],rs',c5.app hp r5,λv d z=>Rep.chg aac ((((rk v d z).mono eA)).mono e5),k6,by rw[hz];simp⟩
   ·have e:j=us.length:=by omega
    subst e;rw[acx] at hl';cases hl';rw[aaJ] at hz;subst hz;exact .inl ⟨itj.2 (aao _),xs.length - (i+1),by omega,rfl,hlt,cs,S6,env6,vs',zs++ws,rs,c',h7,by simp⟩
 ·have e:i=xs.length:=by omega
  subst e;refine .inl ⟨iti.2 (aao _),?_⟩;rw[acx] at hl;cases hl;have eF:Ext μ1 H1 ⟨cs,μ1.fb⟩ H':=⟨rfl,c.ext.pre,c.ext.keep,c.ext.dom⟩
  rw[aaJ] at post;exact post _ H' ⟨cs,μ1.fb⟩ (e1.trans eF) c.sok.less (.lst c.lst ⟨λz=>c.sok.disj p aac z,hpn.2⟩ c.rep.less)
variable{elt tg iter tg2 iter2:tx}{ifs ifs2:List tx}{scope:Scope}{spos py:Pos}{N':List Str}{cap:List (Option Nat)}{mi mi2:MA}{g g2:MG}{t t2:MT}{me:ME}{y:Str}{i:Nat}
theorem Tq(hc:X.calm=true)(B:BlockOk X N' scope cap)(hi:DI X tg iter mi)(hg:∀ C s H fp,DG 0.6 tg g)(ht:∀ C s H fp,OT 0.6 ifs t)
  (hi2:∀ C s H fp,YH 0.6 tg2 iter2 mi2) (hg2:∀ C s H fp,DG 0.6 tg2 g2) (ht2:∀ C s H fp,OT 0.6 ifs2 t2) (he:∀ C s H fp,DE 0.6 elt me)
  (hs:∀ x,XM iter X.env x=pure x) (hs2:∀ env x,XM iter2 env x=pure x):DE X 0.7 (dZ mi g t mi2 g2 t2 me cap):=
 PE.imp (Fy (g:=Pg X.K g) (tt:=EL X.K t) (tb:=tIn (iMs X.K mi2) (Pg X.K g2) (EL X.K t2) (tM X.K me)) hc B hi hg ht (λw w w=>rV ..) (λC s H fp p=>XQ hc (λw w z=>z) (hi2 C s H fp) (hg2 C s H fp) (ht2 C s H fp) (he C s H fp) (hs2 _)) hs) λw w w h=>Bc h
theorem HB(hN:X.N.Nodup)(hy:X.N[i]?=Y y)(hx:OS X.env.scope y)
  (hc:X.calm=true) (B:BlockOk X N' scope cap) (hi:DI X tg iter mi) (hg:∀ C s H fp,DG 0.6 tg g) (ht:∀ C s H fp,OT 0.6 ifs t)
  (hi2:∀ C s H fp,YH 0.6 tg2 iter2 mi2) (hg2:∀ C s H fp,DG 0.6 tg2 g2) (ht2:∀ C s H fp,OT 0.6 ifs2 t2) (he:∀ C s H fp,DE 0.6 elt me)
  (hsw:swapsWith 0.7 1.28 spos.line X.env=pure true)
  (hs:∀ x,XM iter X.env x=pure x) (hs2:∀ env x,XM iter2 env x=pure x) (hf:X.fn y=true\/X.env.scope.names.lookup y=Y .local) :
  DS X (.Assign [.Name y py] 0.7 spos) (aV (dZ mi g t mi2 g2 t2 me cap) (aj i)):=
 PS.imp (vK (g:=Pg X.K g) (tt:=EL X.K t) (tb:=tIn (iMs X.K mi2) (Pg X.K g2) (EL X.K t2) (tM X.K me)) hN hy hx hc B hi hg ht (λw w w=>rV ..) (λC s H fp p=>XQ hc (λw w z=>z) (hi2 C s H fp) (hg2 C s H fp) (ht2 C s H fp) (he C s H fp) (hs2 _)) hsw hs hf) λE σ H h=>by
  obtain⟨μ,S,env,o,hS,hE,hm,post⟩:=h;obtain⟨d,S1,h1,hm⟩:=dW hm;cases hm;exact Bc ⟨μ,S,env,d,S1,hS,hE,h1,λv H1 μ1 e1 s1 r1=>post _ H1 μ1 e1 s1 ((hE.mono e1).set r1 i)⟩
end
structure XB(P:vx)(w:Pn)(K:aeH)(mg:Str->Option ce)(base:Ud)(k:Nat)(a:td)(n:Nat)(f:List D->ac->Option (D×ac)):Prop where
 ex:∃ (fd:FuncData) (ps:List Str),ps.length=n/\FnOk P w K mg base HY k a fd ps (Px K n f)/\W.keepIn K (.ref a)=true/\Binds K fd ps []
theorem Fn.at{K:aeH}{k:Nat}(F:Fn P w K mg base k x n f)(h:mg x=Y (.ref a)):XB P w K mg base k a n f:=by
 obtain⟨b,fd,ps,h1,h2,h3,h4,h5⟩:=F.ex;rw[h] at h3;cases h3;exact⟨fd,ps,h1,h2,h4,h5⟩
inductive FRel(P:vx)(w:Pn)(K:aeH)(mg:Str->Option ce)(base:Ud)(k:Nat):List (cj×ce)->List (cj×Nat×(List D->ac->Option (D×ac)))->Prop
 | nil:FRel P w K mg base k [] []
 | cons {y:cj} {a:td} {n:Nat} {f:List D->ac->Option (D×ac)} {vs:List (cj×ce)} {l:List (cj×Nat×(List D->ac->Option (D×ac)))} (h:XB P w K mg base k a n f) (t:FRel P w K mg base k vs l):FRel P w K mg base k ((y,.ref a)::vs) ((y,n,f)::l)
def ES:List (cj×Nat×(List D->ac->Option (D×ac)))->cj->Option (Nat×(List D->ac->Option (D×ac)))
 | [],_=>L
 | (y,p)::l,k=>if y=k then Y p else ES l k
section
variable{P:vx}{w:Pn}{K:aeH}{mg:Str->Option ce}{base:Ud}{k:Nat}
theorem FRel.val:∀ {vs l},FRel P w K mg base k vs l->ES l y=Y p->∃ a,valueAt vs y=Y (.ref a)/\XB P w K mg base k a p.1 p.2
 | _,_,.nil,q=>by cases q
 | _,_,.cons (y:=y') (a:=a) h t,q=>by
  unfold ES at q;split at q
  ·rename_i e;cases q;exact⟨a,by simp[valueAt,e],h⟩
  ·rename_i e;obtain⟨b,h1,h2⟩:=FRel.val t q;refine⟨b,?_,h2⟩;rw[<- h1];simp[valueAt,e]
structure FTab(P:vx)(w:Pn)(K:aeH)(mg:Str->Option ce)(base:Ud)(k:Nat)(x:Str)(l:List (cj×Nat×(List D->ac->Option (D×ac)))):Prop where
 ex:∃ (a:td) (vs:List (cj×ce)),mg x=Y (.ref a)/\(∀ (P:vx) (h:Ud),K.In h->h.DictOf (cZ P w) a vs)/\FRel P w K mg base k vs l
end
theorem EOk.setN{K:aeH}:∀ {σ:L2.St} {env:bf} (i:Nat),EOk K μ H σ env->EOk K μ H (σ.set i x) 2.03
 | _,_,_,.nil=>.nil
 | _,_,0,.no t=>.no t
 | _,_,0,.yes _ t=>.no t
 | _,_,i+1,.no t=>.no (EOk.setN i t)
 | _,_,i+1,.yes h t=>.yes h (EOk.setN i t)
section
variable{X:Cx}{k i:Nat}{x b:Str}{e ix:tx}{es:List tx}{mi:ME}{ms:MA}{p pb pt ps pa pc pr:Pos}{l:List (cj×Nat×(List D->ac->Option (D×ac)))}
theorem Qn(hN:X.N[i]?=Y b)(hv:Xz X.env.scope b)(hr:Room k X.A)(ha:PA X (e::es) t)(hd:(b==("__debug__":Str))=false)(hc:(b==("__classdict__":Str))=false)
  (he:Wj (e::es) X.env=1.2::Wj es X.env) (hpl:(backTo pc 2.1).any (·.1)=false) :
  PE X (.Call (.Name b p) (e::es) [] pc) (λσ H Q=>∃ a n f,σ[i]?=Y (Y (.ref a))/\XB X.prog X.w X.K X.mg X.base k a n f/\Be (Px X.K n f) [] E0 t σ H Q):=by
 intro pins s σ H Q I ⟨a,n,f,hσ,F,h⟩;obtain⟨fd,qs,hn,F,hk,hb⟩:=F.ex;refine abO (eG (IR hN hv hd hc pins s σ H (λv H'=>v=.ref a/\H'=H) I ⟨_,hσ,rfl,rfl⟩) λu s1 ⟨v,H1,I1,r,e1,e2⟩=>?_);subst e1 e2;cases r;refine aef (h₀:=X.base) I1.ok.mod.kin hk (eG (ha pc pins s1 σ H1 _ I1 h) λus s2 ⟨vs,H2,I2,r2,q⟩=>⟨I2.kIn,?_⟩) he hpl;exact IG F hr hb .nil Qq I2 r2 q
def kK(l:List (cj×Nat×(List D->ac->Option (D×ac))))(i:Nat)(mi:ME)(ms:MA):MS:=λenv S=>(mi env S).bind λp=>(gm p.1).bind λk=>(ES l k).bind λq=>(ms 2.03 p.2).bind λr=>if r.1.length=q.1 then(q.2 r.1 r.2).bind λz=>Y (.rt z.1 z.2) else L
theorem SN(g:FTab X.prog X.w X.K X.mg X.base k x l)(hg:Gl X x)(hx:(x==("__debug__":Str))=false)(hi:DE X ix mi)(hs:rp ix)(hr:Room k X.A)(ha:DA X (e::es) ms)(nd:X.N.Nodup)(hN:X.N[i]?=Y b)(hl:OS X.env.scope b)(hv:Xz X.env.scope b)
  (hf:X.fn b=true\/X.env.scope.names.lookup b=Y .local) (hd:(b==("__debug__":Str))=false) (hc:(b==("__classdict__":Str))=false) (hlen:i<X.N.length)
  (he:Wj (e::es) X.env=1.2::Wj es X.env) (hpl:(backTo pc 2.1).any (·.1)=false) :
  AU X [.Assign [.Name b pb] (.Subscript (.Name x pt) ix ps) pa,.Return (Y (.Call (.Name b p) (e::es) [] pc)) pr] (kK l i mi ms):=by
 obtain⟨a,vs,h1,h2,h3⟩:=g.ex;intro pins s σ H E I h
 have hlσ:i < σ.length:=by
  have:σ.length=X.N.length:=I.len;omega
 refine yc (Qa (i:=i) nd hN hl (Qk (Rv h2) (Da (v:=.ref a) hg h1 rfl hx) hi hs) rfl hf) (xl (Qb (Qn hN hv hr ha hd hc he hpl))) pins s σ H E I ?_;obtain⟨μ,S,env,o,hS,hE,hm,post⟩:=h;obtain⟨y,S1,e1,hm⟩:=dW hm;obtain⟨z,e2,hm⟩:=iq hm;obtain⟨q,e3,hm⟩:=iq hm;obtain⟨fa,v1,F⟩:=h3.val e3;refine⟨μ,S,env,y,S1,hS,hE,e1,λu H1 μ1 ex s1 r1=>⟨z,.ref fa,.ref fa,rfl,lP e2 r1,v1,rfl,?_⟩⟩;obtain⟨ws,S2,e4,hm⟩:=dW hm;dsimp only at hm;split at hm
 ·rename_i hn;obtain⟨d,S3,e5,hm⟩:=dW hm;cases hm;refine⟨fa,q.1,q.2,by rw[aaL hlσ],F,EZ ⟨μ1,S1,env.set i L,d,S3,s1,(hE.mono ex).setN i,?_,Post.ext ex post⟩⟩;show(ms 2.03 S1).bind _=_;rw[e4];exact(aas hn).trans e5
 ·cases hm
end
inductive FNs(mg:Str->Option ce):List (cj×ce)->List (Str×Str)->Prop
 | nil:FNs mg [] []
 | cons {x y:Str} {a:td} {vs:List (cj×ce)} {l:List (Str×Str)} (h:mg y=Y (.ref a)) (t:FNs mg vs l):FNs mg ((.inr x,.ref a)::vs) ((x,y)::l)
structure FNm(w:Pn)(K:aeH)(mg:Str->Option ce)(x:Str)(l:List (Str×Str)):Prop where
 ex:∃ (a:td) (vs:List (cj×ce)),mg x=Y (.ref a)/\(∀ (P:vx) (h:Ud),K.In h->h.DictOf (cZ P w) a vs)/\FNs mg vs l
theorem qaT{K:aeH}{mg:Str->Option ce}{es:List DictEntry}(hg:mg x=Y (.ref a))(hl:K.lookup a=Y ⟨.type "dict",L,.dict es.toArray n,#[]⟩)(t:TabLit w es vs)(hn:(vs.map (·.1)).Nodup)(r:FNs mg vs l):FNm w K mg x l:=
 ⟨a,vs,hg,EV hl (λP=>by simpa using t.pairs) (λP e he=>t.keys e (by simpa using he)) hn,r⟩
section
variable{P:vx}{w:Pn}{K:aeH}{mg:Str->Option ce}{base:Ud}{k:Nat}
def FFs(P:vx)(w:Pn)(K:aeH)(mg:Str->Option ce)(base:Ud)(k:Nat):List (Str×Str)->List (cj×Nat×(List D->ac->Option (D×ac)))->Prop
 | [],[]=>True
 | (x,y)::l,(z,n,f)::r=>z=.inr x/\Fn P w K mg base k y n f/\FFs P w K mg base k l r
 | _,_=>False
theorem FNs.rel:∀ {vs l r},FNs mg vs l->FFs P w K mg base k l r->FRel P w K mg base k vs r
 | _,_,[],.nil,_=>.nil
 | _,_,(z,n,f)::r,.cons h t,q=>by
  obtain⟨q1,q2,q3⟩:=q;subst q1;exact .cons (q2.at h) (t.rel q3)
theorem Wf(T:FNm w K mg x l)(h:FFs P w K mg base k l r):FTab P w K mg base k x r:=by
 obtain⟨a,vs,h1,h2,h3⟩:=T.ex;exact⟨a,vs,h1,h2,h3.rel h⟩
theorem FRel.up{k':Nat}(h:k<=k'):∀ {vs l},FRel P w K mg base k vs l->FRel P w K mg base k' vs l
 | _,_,.nil=>.nil
 | _,_,.cons q t=>.cons (by obtain⟨fd,ps,a,b,c⟩:=q.ex;exact⟨fd,ps,a,b.mono h,c⟩) (t.up h)
theorem FTab.up{k':Nat}(T:FTab P w K mg base k x l)(h:k<=k'):FTab P w K mg base k' x l:=by
 obtain⟨a,vs,h1,h2,h3⟩:=T.ex;exact⟨a,vs,h1,h2,h3.up h⟩
end
section
variable{X:Cx}{e:tx}{m:ME}{pos:Pos}
theorem ML(bs:List Bool):((List.range bs.length).any λi=>(bs[i]?).getD true)=bs.any id:=by
 rw[aaH,aaS,aaS];constructor
 ·rintro⟨i,hi,h⟩;have hi':=acq.mp hi;rw[aae hi'] at h;exact⟨bs[i],acg hi',h⟩
 ·rintro⟨b,hb,h⟩;obtain⟨i,hi,e⟩:=ael.mp hb;exact⟨i,acq.mpr hi,by rw[aae hi,e];exact h⟩
theorem Se{d:D}(h:Ka S ds=Y d):∃ zs bs,ds=[.lst zs]/\jz zs=Y bs/\d=.bl (bs.any id):=by
 unfold Ka at h;split at h
 ·obtain⟨bs,h1,h2⟩:=iq h;cases h2;exact⟨_,_,rfl,h1,rfl⟩
 ·cases h
theorem TM(hc:X.calm=true):CallR X (.builtin "any") (MN X.K (aS Ka)):=by
 intro pins s σ H xs us Q I rv ⟨μ,S,ds,d,S',hS,hr,hm,post⟩;obtain⟨rfl,hm⟩:=eN hm;obtain⟨zs,bs,rfl,h1,rfl⟩:=Se hm;obtain⟨v,rfl,r⟩:=hr.one;obtain⟨u,rfl,ru⟩:=pF rv;obtain⟨a,vs,rfl,q,n,r⟩:=r.sqL;cases ru;obtain⟨its,rv',pl,hz⟩:=I.list 1.17;have hl:=pl.isList;have hb:=wA r rv' h1;have hlt:a<s.heap.objs.size:=by obtain⟨z,e,z⟩:=hl;exact aaq e
 refine call_any_walk (aco hl ⟨s.heap.objs.size,[s.heap.objs.size,a],[s.heap.objs.size],its.toArray.size,_,_,λi=>(bs[i]?).getD true,rfl,Walks.list (A:=X.A.in1) 8.3 _ a (aaI hlt) its.toArray,
  ⟨⟨_,aaz _ rfl,rfl,rfl⟩,hl.push _⟩,λi v s' Q' E' hP hQ=>?_,λh' tk hk=>?_⟩)
 ·obtain⟨b,e,rfl⟩:=hb.get i v (by simpa using hP);simp only[e,adr] at hQ;exact abD hQ
 ·rw[aak,hb.length,ML];exact⟨.bl _,H,I.kept (LSm.kept_iter hk),rfl,post.here hS (.bl _)⟩
end
end M
namespace HT
section
variable{prog:vx}{w:Pn}{A:RQ}{E:ce->gV->Prop}{h:Ud}{g:Array GenState}{d:Drawn}{t:Nat}{os:OsState}
variable{nm q:Str}{C N:td}{bs bm bmB:List ce}{hdct:Bool}{sn:List Str}{sub:List ce}{ab:Bool}{col:Option Bool}{dd:Option td}{k0 k1 k2 k3 k5:Option ce}{B newId initId:String}
noncomputable abbrev zB(h:Ud)(C:td)(rest:List ce):Ud:=(h.push { cls:=.type "tuple",data:=.seq rest.toArray }).push { cls:=.ref C,data:=.fields #[.ref h.objs.size,.none,.none,.none,.bool false,.none] }
theorem kS(e:h.get? b=Y o):(zB h C rest).get? b=Y o:=aag _ (aag _ e)
theorem vv:(zB h C rest).get? (h.objs.size+1)=Y { cls:=.ref C,data:=.fields #[.ref h.objs.size,.none,.none,.none,.bool false,.none] }:=by heap_get
theorem sR(F:ExcBaseFacts B newId initId bmB)(T:OwnTail h bmB bm){rest:List ce}{Q:Fin->gV->Prop}
  (hC:h.get? C=Y 1.7) (hn:h.Ns N mN) (hni:mN "__init__" = Y (.ref f))
  {of:Obj} (hfo:h.get? f=Y of) (hfc:of.cls=.type "function") (hrest:rest.length<=UJ)
  (hq:aeG 1.4 A (call (.ref f) (.ref (h.objs.size+1)::rest)) (λv s'=>v=.none/\Q (.done (.ret (.ref (h.objs.size+1)))) s') E ⟨zB h C rest,g,d,t,os⟩) :
  aeG 1.4 A (Builtin.«type.__call__» ⟨.ref C::rest,[]⟩) Q E ⟨h,g,d,t,os⟩:=by
 repeat (first | wp_step | with_reducible refine wpAny_madeBy_exc hC ?_ | with_reducible refine abE hC ?_)
 refine codeAny_call_builtin_code (aeC _ F.quiet) (wpAny_check_new_subT F T hC (codeAny_exc_new_subT F T hC ?_ hrest));show aeG _ _ _ _ _ _;have kC:=kS (C:=C) (rest:=rest) hC;have at0:=vv (h:=h) (C:=C) (rest:=rest);have own:(Value.ref C::bm).contains (.ref C)=true:=by simp
 unfold isInstance
 repeat (first | wp_step | with_reducible refine abE at0 ?_ | (with_reducible refine acC kC ?_;rw[own]))
 show aeG _ _ (typeLookup (.ref C) _) _ _ _;refine wpAny_typeLookup_tail kC (hn.keeps λb o e=>kS e) (T.keeps λb o e=>kS e) F.mroIs F.init.lookup ?_;rw[hni];refine abd (aab (wpAny_bindSpecial_def (of:=of) (kS hfo) hfc (aab (aaK hq (λv s' z=>aat ?_) λw w x=>x))));obtain⟨rfl,z⟩:=z;show aeG _ _ (if (Value.none != Value.none)=true then _ else ret _) _ _ _;rw[if_neg 0.4];exact aat z
theorem EE(F:ExcBaseFacts B newId initId bmB)(T:OwnTail h bmB bm){rest:List ce}{Q:ce->gV->Prop}
  (hC:h.get? C=Y 1.7) (hn:h.Ns N mN) (hni:mN "__init__" = Y (.ref f))
  {of:Obj} (hfo:h.get? f=Y of) (hfc:of.cls=.type "function") (hrest:rest.length<=UJ)
  (hq:aeG 1.4 (A.under (.builtin "type.__call__" ⟨.ref C::rest,[]⟩)) (call (.ref f) (.ref (h.objs.size+1)::rest)) (λv s'=>v=.none/\Q (.ref (h.objs.size+1)) s') E ⟨zB h C rest,g,d,t,os⟩) :
  aeG 1.4 A (call (.ref C) rest) Q E ⟨h,g,d,t,os⟩:=by
 have f1:=tc_lookup;have f2:=tc_bind (.ref C);have hT:(⟨h,g,d,t,os⟩:gV).TypeIs (.ref C) "type":=⟨_,hC,rfl⟩
 refine adI (codeAny_of_tree ?_);show aeG _ _ (callAny (.ref C) _) _ _ _
 repeat (any_goals (first | assumption | with_reducible refine abE hC ?_ | wp_step))
 refine⟨rfl,?_⟩;refine codeAny_call_builtin_at (aeC _ (by decide +kernel)) entry_typeCall (wpAny_check_type_call_sub hC (sR F T hC hn hni hfo hfc hrest ?_));exact hq
theorem xZ{s:gV}(hbase:bm.contains (.type "BaseException")=true)(hh:A.handled=L)
  (h:aeG M A x (λv s₁=>∃ e t dx,v=.ref e/\s₁.heap.get? C=Y 1.7 /\
   s₁.heap.get? e=Y { cls:=.ref C,dict:=dx,data:=.fields #[.ref t,.none,.none,.none,.bool false,.none] }/\E (.ref e) s₁) E s) :
  aeG M A (raiseStmt env (Y x) L) Q E s:=by
 have hcB:(Value.ref C::bm).contains (.type "BaseException")=true:=by rw[add,hbase,aej]
 unfold raiseStmt;refine aab (aaK h (λv s₁ h₁=>?_) λz z x=>x);obtain⟨e,t,dx,rfl,hC,he,hE⟩:=h₁;obtain⟨hp,g,d,tk,os⟩:=s₁
 repeat (first | with_reducible refine abE he ?_ | with_reducible refine abE hC ?_ | (with_reducible refine acC hC ?_;rw[hcB]) | wp_step)
 exact wpAny_raiseNew_none hh hE
end
section
open PySem.W Builtin Builtin.ObjectAttr Builtin.Getset_descriptor
def pE:List ce:=[.type "ValueError",.type "Exception",.type "BaseException",.type "object"]
def JO:ce->Bool
 | .ref _=>true
 | _=>false
inductive vF:List ce->Prop
 | base:vF pE
 | own {c:td} {r:List ce}:vF r->vF (.ref c::r)
theorem XD:∀ {l:List ce},(l.dropWhile JO==pE)=true->vF l
 | [],e=>absurd e 0.1
 | x::r,e=>by
  cases hx:JO x with
  | true=>
   rw[List.dropWhile_cons_of_pos hx] at e;cases x with
   | ref c=>exact .own (XD e)
   | _=>cases hx
  | false=>
   rw[List.dropWhile_cons_of_neg (by simp[hx])] at e;rw[eq_of_beq e];exact .base
theorem MK(self:ce)(h:vF l):refuseLoop self "__setattr__" l=pure ():=by
 induction h with
 | base=>exact F.store_ValueError.passes self
 | own _ ih=>rw[refuseLoop_ref];exact ih
theorem Pa(h:vF l):l.contains (.type "object")=true:=by
 induction h with
 | base=>decide
 | own _ ih=>rw[add,ih,aej]
def xo(K:Frag)(C:td):Bool:=(clsIn K C).any λcd=>cd.mro.dropWhile JO==pE
variable{prog:vx}{w:Pn}{A:RQ}{E:ce->gV->Prop}{s:gV}{K:Frag}{x C:td}{R:Result->gV->Prop}
theorem Vk(X:K.In s.heap)(I:InstAt s.heap x ox C od)(hp:xo K C=true)(ht:takerIn K C name=Y r)
  (h:∀ b,aeG 1.4 A.in1 (match r with | some a=>setByDescriptor a (.ref x) v | none=>storeInOwnDict (.ref x) (.ref C) (.str name tk) name v b)
   (λfin s'=>match fin with | .done f=>R (.ok f) s' | .again c'=>c'.quiet=true/\codeAny 1.4 A c' R s') (λe s'=>R (.error e) s') s) :
  codeAny 1.4 A (.call (.builtin "object.__setattr__") ⟨[.ref x,.str name tk,v],[]⟩) R s:=by
 have SF:=F.store_object;obtain⟨cd,hc,ho⟩:=any_some hp;have ho:=XD ho
 have ne:cd.mro.isEmpty=false:=by
  cases q:cd.mro with
  | nil=>rw[q] at ho;exact absurd (Pa ho) 0.1
  | cons _ _=>rfl
 have sub:Looks 1.4 s.heap (isInstance (.ref x) (.type "object")) true:=I.type.andThen (looks_mroIn X (by unfold mroIn;rw[hc,Option.bind_some,if_neg (by rw[ne];decide),Pa ho]));refine codeAny_call_builtin SF.slot.plain SF.entry (@check_slot 1.4 _ _ s "object.__setattr__" "object" "__setattr__" (.ref x) [.str name tk,v] [] _ SF.kind SF.split sub (SF.args (.ref x) (.str name tk) v) ?_);obtain⟨attr,ha,hr⟩:=acl.mp ht;have hm:Looks 1.4 s.heap (mroOf (.ref C)) cd.mro:=(looks_clsIn X hc).andThen .now
 have L3:Looks 1.4 s.heap (storeTaker? attr) r:=by
  cases attr with
  | none=>cases hr;exact .now
  | some a=>
   obtain⟨b,hb,rfl⟩:=adW.mp hr;refine(looks_takesIn X hb).andThen ?_;cases b<;>exact .now
 rw[osa_eq,refuse_eq];refine aab (aab (I.type.here (aab (hm.here ?_))));rw[MK _ ho];refine aat (aab (I.type.here (aab ((looks_findIn X ha).here (aab (L3.here ?_))))));exact h _
theorem UD{fs:Array ce}{Q:Unit->gV->Prop}(X:K.In s.heap)(I:InstAt s.heap x ⟨.ref C,L,.fields fs,#[]⟩ C L)
  (hs:findIn K (.ref C) "__setattr__" = Y (Y (.builtin "object.__setattr__"))) (hp:xo K C=true) (ht:takerIn K C name=Y L) (hh:hasDictIn K C=true)
  (h:∀ h' t',h'.get? x=Y ⟨.ref C,Y s.heap.objs.size,.fields fs,#[]⟩->h'.Ns1 s.heap.objs.size (λy=>if y=name then Y v else L) ->
   (∀ b o,b≠x->s.heap.get? b=Y o->h'.get? b=Y o)->Q () { s with heap:=h',toks:=t' }) :
  aeG 1.4 A (setAttr (.ref x) name v) Q E s:=by
 refine set_plain X I hs (Vk (s:={ s with toks:=s.toks+1 }) (r:=L) X I hp ht λb=>?_);obtain⟨cd,hc,hd'⟩:=any_some hh;have hx:=I.at_;refine aab (aat (aab (aab (wpAny_loadPart hx (aab (Looks.here (s:={ s with toks:=s.toks+1 }) (looks_clsIn X hc) ?_))))));rw[hd',if_neg 0.1];obtain⟨h0,g,d,tk,os⟩:=s;have hx₁:(h0.push { cls:=.type "dict",data:=.dict #[] }).get? x=Y ⟨.ref C,L,.fields fs,#[]⟩:=aag _ hx;have hxs:x≠h0.objs.size:=aaI (aaq hx);dsimp only;rw[if_neg (by simp[typeHasDict])];refine aab (wpAny_alloc' ?_);refine aab (wpAny_update' hx₁ ?_);refine aat ?_
 have hgd:((h0.push { cls:=.type "dict",data:=.dict #[] }).update x λo=>{ cls:=o.cls,dict:=Y h0.objs.size,data:=o.data,slots:=o.slots }).get? h0.objs.size
   = Y { cls:=.type "dict",data:=.dict #[] }:=
  (aer _ _ _ _ hxs.symm).trans (Heap.get?_push_at rfl rfl)
 have hnd:((h0.push { cls:=.type "dict",data:=.dict #[] }).update x λo=>{ cls:=o.cls,dict:=Y h0.objs.size,data:=o.data,slots:=o.slots }).Ns h0.objs.size (λz=>L):=
  ⟨_,#[],_,hgd,rfl,λe he=>absurd he 0.4,λz=>rfl⟩
 show aeG _ _ (storeInDict h0.objs.size (.str name tk) name v) _ _ _;unfold storeInDict newKeyGuard;refine aab (aat (aab (wpAny_nsSet1 (Heap.Ns1.of_empty hnd) λh' hn' hs=>?_)));obtain⟨oD,esD,epD,hoD,hdD,hcD⟩:=hn'.count (Within.cons name v Within.nil);refine aab (wpAny_lookBehind hoD (by rw[hdD];exact pastItsLine_dict (aaF hcD (by rw[aam,abk,acM];omega))) ?_);refine aat (h h' _ ?_ hn' λb ob hbx hb=>?_)
 ·exact(hs.2 x hxs).trans (aba _ hx₁ rfl)
 ·exact(hs.2 b (aaI (aaq hb))).trans ((aer _ _ _ _ hbx).trans (aag _ hb))
end
end HT
namespace HT
section
variable{M:Model}{A:RQ}{E:ce->gV->Prop}{s:gV}
structure Fly(h:Ud)(e T:td)(C:ce)(dx:Option td):Prop where
 ne:T≠e
 exc:∃ oe vs,h.get? e=Y oe/\oe.cls=C/\oe.dict=dx/\oe.data=.fields vs/\vs[1]?=Y (.ref T)
 ent:∃ oT ts,h.get? T=Y oT/\oT.data=.fields ts/\ts[3]?=Y .none
structure Left(fs:List td)(no:td->Prop)(h h':Ud):Prop where
 keep:∀ b o,b∉fs->¬ no b->h.get? b=Y o->h'.get? b=Y o
 slot:∀ b o,b∈fs->h.get? b=Y o->∃ sl,h'.get? b=Y { o with slots:=sl }
theorem tD(g:Array ce->Array ce)(o:Obj):(o.mapFields g).cls=o.cls/\(o.mapFields g).dict=o.dict:=by
 obtain⟨c,d,dt,sl⟩:=o;cases dt<;>exact⟨rfl,rfl⟩
theorem GL{env:Env}{outer:List Env}{Q:Unit->gV->Prop}
  (hfr:A.frames=Y (env::outer)) (hl:s.heap.FunFrames base (env::outer)) (hf:env.frame=Y L4)
  (he:s.heap.get? e=Y oe) (hd:oe.data=.fields vs) (h1:vs[1]?=Y .none)
  (h:∀ h' T,s.heap.objs.size<=T->Fly h' e T oe.cls oe.dict->Left ((env::outer).filterMap (·.frame)) (λb=>b=e) s.heap h'->Q () { s with heap:=h' }):aeG M A (leaving env (.ref e)) Q E s:=by
 have hsz:1<vs.size:=(acd.mp h1).1
 have enf:e∉(env::outer).filterMap (·.frame):=λhm=>by
  obtain⟨w,o,ho,hnf⟩:=hl.mem hm;rw[he] at ho;cases ho;exact hnf vs hd
 unfold leaving noteFrame;simp only[hf];refine aab (aab (abx he hd h1 ?_));rw[if_neg 0.1];refine aab (wpAny_frameOf_fun hfr hl hf λh₁ hs=>aab (aet λpl hpl=>?_));have e1:h₁.get? e=Y oe:=(hs.2.1 e enf).trans he;unfold EntryCells.newEntry newFields;refine aab (abf ?_ (hpl.sizeOk5 _ _ _ _ _));generalize hts:(([Value.none,.ref L4,.none,rawInt L4,.none]++(if pl.isEmpty then aeI 6 Value.none else pl)).toArray)=ts;have t3:3<ts.size:=by rw[<- hts];simp
 have e2:(h₁.push { cls:=.type "traceback",dict:=L,data:=.fields ts }).get? e=Y oe:=aag _ e1;have T2:(h₁.push { cls:=.type "traceback",dict:=L,data:=.fields ts }).get? h₁.objs.size=Y { cls:=.type "traceback",dict:=L,data:=.fields ts }:=aaz _ rfl;have ne:h₁.objs.size≠e:=abW (aaq e1);refine abL e2 hd hsz ?_;have d3:=abQ hd (·.setIfInBounds 1 7.0);have e3:=aba (Obj.mapFields (·.setIfInBounds 1 7.0)) e2 (abV d3);have T3:=(aaw _ (Obj.mapFields (·.setIfInBounds 1 7.0)) (Ne.symm ne)).trans T2;unfold setFlight;refine aab (abx e3 d3 (x:=.ref h₁.objs.size) (by simp[hsz]) ?_);rw[aas (show(Value.ref h₁.objs.size != Value.none)=true from by simp)];refine abL T3 rfl t3 (h _ h₁.objs.size (by rw[hs.1];exact aao _) ⟨ne,?_,?_⟩ ⟨λb o nb ne' hb=>?_,λb o hm hb=>?_⟩)
 ·exact⟨_,_,(aaw _ _ ne).trans e3,(tD _ _).1,(tD _ _).2,d3,by simp[hsz]⟩
 ·exact⟨_,_,aba _ T3 rfl,rfl,by simp[t3]⟩
 ·have b1:h₁.get? b=Y o:=(hs.2.1 b nb).trans hb;have nT:h₁.objs.size≠b:=abW (aaq b1);exact(aaw _ _ nT).trans ((aaw _ _ (Ne.symm ne')).trans (aag _ b1))
 ·obtain⟨sl,b1⟩:=hs.2.2 b o hb;have nT:h₁.objs.size≠b:=abW (aaq b1);have nE:e≠b:=λz=>enf (z ▸ hm);exact⟨sl,(aaw _ _ nT).trans ((aaw _ _ nE).trans (aag _ b1))⟩
theorem VG{env:Env}{outer:List Env}{Q:Unit->gV->Prop}
  (hfr:A.frames=Y (env::outer)) (hl:s.heap.FunFrames base (env::outer)) (hf:env.frame=Y L4) (F:Fly s.heap e T C dx)
  (h:∀ h' T',s.heap.objs.size<=T'->Fly h' e T' C dx->Left ((env::outer).filterMap (·.frame)) (λb=>b=e\/b=T) s.heap h'->Q () { s with heap:=h' }):aeG M A (noteFrame (.ref e) env) (λw s₂=>aeG M A (setFlight (.ref e) L) Q E s₂) E s:=by
 obtain⟨neT,⟨oe,vs,he,hc,hdx,hd,h1⟩,oT,ts0,hT,hdT,h3⟩:=F;have hsz:1<vs.size:=(acd.mp h1).1;have h3z:3<ts0.size:=(acd.mp h3).1
 have enf:e∉(env::outer).filterMap (·.frame):=λhm=>by
  obtain⟨w,o,ho,hnf⟩:=hl.mem hm;rw[he] at ho;cases ho;exact hnf vs hd
 have tnf:T∉(env::outer).filterMap (·.frame):=λhm=>by
  obtain⟨w,o,ho,hnf⟩:=hl.mem hm;rw[hT] at ho;cases ho;exact hnf ts0 hdT
 unfold noteFrame;simp only[hf];refine aab (abx he hd h1 ?_);rw[aas (show(Value.ref T != Value.none)=true from by simp)];refine aab (abx hT hdT h3 ?_);rw[if_neg (by simp[rawInt])];refine aab (abL hT hdT h3z ?_);have dT1:=abQ hdT (·.setIfInBounds 3 Value.none);have hT1:=aba (Obj.mapFields (·.setIfInBounds 3 Value.none)) hT (abV dT1);have he1:=(aaw s.heap (Obj.mapFields (·.setIfInBounds 3 Value.none)) neT).trans he;have hl1:(s.heap.update T (Obj.mapFields (·.setIfInBounds 3 Value.none))).FunFrames base (env::outer):=hl.of_keeps λb o hb hnf=>⟨o,(aaw s.heap _ λq=>by rw[<- q,hT] at hb;cases hb;exact hnf ts0 hdT).trans hb,rfl⟩
 refine aab (wpAny_frameOf_fun hfr hl1 hf λh₁ hs=>aab (aet λpl hpl=>?_));have e1:h₁.get? e=Y oe:=(hs.2.1 e enf).trans he1;unfold EntryCells.newEntry newFields;refine aab (abf ?_ (hpl.sizeOk5 _ _ _ _ _));generalize hts:(([Value.ref T,.ref L4,.none,rawInt L4,.none]++(if pl.isEmpty then aeI 6 Value.none else pl)).toArray)=ts;have t3:3<ts.size:=by rw[<- hts];simp
 have e2:(h₁.push { cls:=.type "traceback",dict:=L,data:=.fields ts }).get? e=Y oe:=aag _ e1;have T2:(h₁.push { cls:=.type "traceback",dict:=L,data:=.fields ts }).get? h₁.objs.size=Y { cls:=.type "traceback",dict:=L,data:=.fields ts }:=aaz _ rfl;have ne:h₁.objs.size≠e:=abW (aaq e1);have sz:h₁.objs.size=s.heap.objs.size:=hs.1.trans 0.4;refine abL e2 hd hsz ?_;have d3:=abQ hd (·.setIfInBounds 1 7.0);have e3:=aba (Obj.mapFields (·.setIfInBounds 1 7.0)) e2 (abV d3);have T3:=(aaw _ (Obj.mapFields (·.setIfInBounds 1 7.0)) (Ne.symm ne)).trans T2;unfold setFlight;refine aab (abx e3 d3 (x:=.ref h₁.objs.size) (by simp[hsz]) ?_);rw[aas (show(Value.ref h₁.objs.size != Value.none)=true from by simp)];refine abL T3 rfl t3 (h _ h₁.objs.size (by rw[sz];exact aao _) ⟨ne,?_,?_⟩ ⟨λb o nb ne' hb=>?_,λb o hm hb=>?_⟩)
 ·exact⟨_,_,(aaw _ _ ne).trans e3,(tD _ _).1.trans hc,(tD _ _).2.trans hdx,d3,by simp[hsz]⟩
 ·exact⟨_,_,aba _ T3 rfl,rfl,by simp[t3]⟩
 ·have b0:=(aaw s.heap (Obj.mapFields (·.setIfInBounds 3 Value.none)) (a:=T) (b:=b) (λz=>ne' (.inr z.symm))).trans hb;have b1:h₁.get? b=Y o:=(hs.2.1 b nb).trans b0;have nT:h₁.objs.size≠b:=abW (aaq b1);exact(aaw _ _ nT).trans ((aaw _ _ (λz=>ne' (.inl z.symm))).trans (aag _ b1))
 ·have b0:=(aaw s.heap (Obj.mapFields (·.setIfInBounds 3 Value.none)) (a:=T) (b:=b) (λz=>tnf (z ▸ hm))).trans hb;obtain⟨sl,b1⟩:=hs.2.2 b o b0;have nT:h₁.objs.size≠b:=abW (aaq b1);have nE:e≠b:=λz=>enf (z ▸ hm);exact⟨sl,(aaw _ _ nT).trans ((aaw _ _ nE).trans (aag _ b1))⟩
end
end HT
namespace L2
def sg(P:vx)(w:Pn):ON:=λouter H s E e s'=>∃ x T C dx H',e=.ref x/\HT.Fly s'.heap x T (.ref C) (Y dx)/\H' x=L/\H' T=L/\s.heap.get? x=L/\s.heap.get? T=L /\
 s'.os=s.os/\AllBare s'.gens/\Un (BV outer) [] H H' s.heap s'.heap/\HOk P w H' s'.heap/\E (.ref C) (Y dx) H'
theorem LI{h h':Ud}:∀ {l:List Env},h.FunFrames base l->(∀ b o,b∈BV l->h.get? b=Y o->∃ sl,h'.get? b=Y { o with slots:=sl })->h'.FunFrames base l
 | [],_,_=>trivial
 | env::r,hl,k=>by
  obtain⟨hk,⟨L4,o,hf,hn,ho,hd⟩,hr⟩:=hl;obtain⟨sl,e⟩:=k L4 o (by unfold BV;rw[aaT,hf];exact aac) ho;exact⟨hk,⟨L4,_,hf,hn,e,hd⟩,LI hr λb o hb=>k b o (by unfold BV at hb ⊢;rw[aaT,hf];exact aaf _ hb)⟩
section
variable{X:Cx}{pins:List (td×Obj)}{σ:St}{H:Hp}{s s':gV}{E:XK}{e:ce}
theorem Hq(hs:X.stack=X.env::X.outer)(hfm:X.env.frame=Y X.env.locals)(hex:X.ex=[])(I:Inv X pins σ H s)(he:s.heap.get? x=Y oe)(hc:oe.cls=.ref C)
  (hdx:oe.dict=Y dx) (hd:oe.data=.fields vs) (h1:vs[1]?=Y .none) (nx:H x=L) (x0:X.s₀.heap.get? x=L) (q:E (.ref C) (Y dx) H) :
  aeG 0.3 X.A (leaving X.env (.ref x)) (λj s''=>sg X.prog X.w X.outer X.H₀ X.s₀ E (.ref x) s'') E' s:=by
 have hl:=I.stack;have hfr:X.A.frames=Y (X.env::X.outer):=by rw[<- hs];exact I.ok.frames
 have fin:∀ b∈(X.env::X.outer).filterMap (·.frame),H b=L:=λb hb=>I.stkFree b (by rw[hs];exact hb);rw[hs] at hl
 have inL:∀ b o,X.s₀.heap.get? b=Y o->b∉BV X.outer->b∉(X.env::X.outer).filterMap (·.frame):=λb o h0 nb z=>by
  rw[aaT,hfm] at z;rcases aaG.mp z with z | z
  ·exact absurd (aaq h0) (by rw[z];exact adK.mpr I.ok.above)
  ·exact nb z
 have nxe:∀ b:td,b∉X.ex:=λb=>by rw[hex];simp
 have no:∀ b o,X.s₀.heap.get? b=Y o->¬ (b=x):=λb o h0 z=>by rw[z,x0] at h0;cases h0
 refine HT.GL hfr hl hfm he hd h1 λh' T sz F Lf=>⟨x,T,C,dx,H,rfl,by rw[<- hc,<- hdx];exact F,nx,I.hok.fresh sz,x0,?_,I.os,I.bare,?_,?_,q⟩
 ·cases q0:X.s₀.heap.get? T with
  | none=>rfl
  | some o=>obtain⟨o',e'⟩:=I.base.there T o q0 (nxe T);exact absurd (aaq e') (adK.mpr sz)
 ·refine⟨λb o h0 n nb j=>?_,λb o h0 n hb j=>?_,λb o h0 n j=>I.base.free b o h0 n (nxe b),λb o h0 j=>?_,I.base.tups,I.base.frzs,I.base.tbls⟩
  ·exact Lf.keep b o (inL b o h0 nb) (no b o h0) (I.base.keep b o h0 n nb (nxe b))
  ·obtain⟨sl,e1⟩:=I.base.slot b o h0 n hb (nxe b);obtain⟨sl3,e3⟩:=Lf.slot b _ (by rw[aaT,hfm];exact aaf _ hb) e1;exact⟨sl3,e3⟩
  ·obtain⟨o',e'⟩:=I.base.there b o h0 (nxe b);by_cases hb:b∈(X.env::X.outer).filterMap (·.frame)
   ·obtain⟨sl,e3⟩:=Lf.slot b o' hb e';exact⟨_,e3⟩
   ·exact⟨o',Lf.keep b o' hb (no b o h0) e'⟩
 ·intro a o ha
  have tr:∀ b,(b=a\/H b=Y (.own a))->H b≠L:=λb hb z=>by
   rcases hb with hb | hb
   ·rw[hb,ha] at z;cases z
   ·rw[hb] at z;cases z
  exact(I.hok a o ha).stay (λb u hb hu=>Lf.keep b u (λz=>tr b hb (fin b z)) (λz=>tr b hb (z ▸ nx)) hu) (λj z=>z) λj j z=>z
end
def AO(x C t:td)(h:Ud):Prop:=h.get? x=Y ⟨.ref C,L,.fields #[.ref t,.none,.none,.none,.bool false,.none],#[]⟩
def AN(x C t dx:td)(h:Ud):Prop:=h.get? x=Y ⟨.ref C,Y dx,.fields #[.ref t,.none,.none,.none,.bool false,.none],#[]⟩
structure zR(K:aeH)(C:td)(f:Str):Prop where
 sa:W.findIn K (.ref C) "__setattr__" = Y (Y (.builtin "object.__setattr__"))
 ve:HT.xo K C=true
 tk:W.takerIn K C f=Y L
 hd:W.hasDictIn K C=true
def sFldX(K:aeH)(ta tv:TE)(f:Str):TS:=λD σ H=>tv σ H λy H1=>ta σ H1 λx H2=>∃ a C t,x=.ref a/\H2 a=Y (.ext (AO a C t))/\zR K C f /\
 ∀ dx,H2 dx=L->D.nx σ (upd (upd H2 a (.ext (AN a C t dx))) dx (.xd [(f,y)]))
section
variable{X:Cx}{o value:tx}{f:Str}{pos pos':Pos}{ta tv:TE}
theorem Fc{s:gV}{Q:Unit->gV->Prop}(I:Inv X pins σ H s)(ea:H a=Y (.ext (AO a C t)))(c:zR X.K C f)(ry:RelV y u)
  (h:∀ s' dx,H dx=L->Inv X pins σ (upd (upd H a (.ext (AN a C t dx))) dx (.xd [(f,y)])) s'->Q () s'):aeG 0.3 X.A (setAttr (.ref a) f u) Q E s:=by
 have e0:AO a C t s.heap:=(show ObjOk X.prog X.w H s.heap a (.ext (AO a C t)) from I.hok a _ ea).1;have hn:=I.hok.fresh (aao s.heap.objs.size);have na:a≠s.heap.objs.size:=λz=>by rw[<- z,ea] at hn;cases hn
 refine HT.UD I.kIn ⟨e0,rfl,rfl,trivial⟩ c.sa c.ve c.tk c.hd λh' t' hx hd k=>h _ s.heap.objs.size hn ?_;have up:∀ b,b≠a->b≠s.heap.objs.size->upd (upd H a (.ext (AN a C t s.heap.objs.size))) s.heap.objs.size (.xd [(f,y)]) b=H b:=λb h1 h2=>by rw[bj h2,bj h1]
 have nT:∀ b o,H b=Y o->b≠s.heap.objs.size:=λb o q z=>by rw[z,hn] at q;cases q
 have lt:∀ b o,s.heap.get? b=Y o->b≠s.heap.objs.size:=λb o q=>aaI (aaq q);refine I.un (s:=s) (h':=h') (t':=t') ⟨λb o q n j j=>k b o (λz=>by rw[z,ea] at n;cases n) q,λb o q n j j=>⟨o.slots,k b o (λz=>by rw[z,ea] at n;cases n) q⟩,λb o q n j=>?_,λb o q j=>?_,λb xs q=>?_,λb o u q=>?_,λb ps q=>⟨#[],?_⟩⟩ λb o q=>?_
 ·rw[up b (λz=>by rw[z,ea] at n;cases n) (lt b o q)];exact n
 ·by_cases z:b=a
  ·subst z;exact⟨_,hx⟩
  ·exact⟨o,k b o z q⟩
 ·rw[up b (λz=>by rw[z,ea] at q;cases q) (nT b _ q)];exact q
 ·rw[up b (λz=>by rw[z,ea] at q;cases q) (nT b _ q)];exact q
 ·rw[up b (λz=>by rw[z,ea] at q;cases q) (nT b _ q),q];simp
 ·by_cases z:b=s.heap.objs.size
  ·subst z;rw[bF] at q;cases q;refine⟨_,hd,λg=>?_⟩;by_cases hg:g=f
   ·subst hg;rw[aas rfl];simp[List.lookup,RelO,ry]
   ·rw[if_neg hg];have hb:(g==f)=false:=aaX.mpr hg;simp only[List.lookup,hb,RelO]
  ·by_cases z':b=a
   ·subst z';rw[bj z,bF] at q;cases q;exact⟨hx,⟨_,hx⟩,λh1 h2 e1 e2=>e2 _ e1⟩
   ·rw[up b z' z] at q;refine(I.hok b o q).stay (λc' u hc hu=>k c' u (λw=>?_) hu) (λc' hc=>?_) λc' xs hc=>?_
    ·rcases hc with hc | hc
     ·exact z' (hc ▸ w)
     ·rw[w,ea] at hc;cases hc
    ·rw[up c' (λw=>by rw[w,ea] at hc;cases hc) (nT c' _ hc)];exact hc
    ·rw[up c' (λw=>by rw[w,ea] at hc;cases hc) (nT c' _ hc)];exact hc
theorem UT(ha:PE X o ta)(hv:PE X value tv)(hs:swapsWith value (Y (.Attribute o f pos')) pos.line X.env=pure false):PS X (.Assign [.Attribute o f pos'] value pos) (sFldX X.K ta tv f):=by
 intro pins s σ H D I h;refine plainObj_wpAny_Assign_Attribute (eG (hv pins s σ H _ I h) λu s1 ⟨y,H1,I1,ry,q⟩=>eG (ha pins s1 σ H1 _ I1 q) λov s2 ⟨x,H2,I2,rx,a,C,t,ex,ea,c,q2⟩=>?_) hs;subst ex;obtain rfl:ov=Value.ref a:=rx;exact Fc I2 ea c ry λs3 dx hn I3=>⟨σ,_,I3,q2 dx hn⟩
end
section
variable{X:Cx}{pins:List (td×Obj)}{σ:St}{H:Hp}{s:gV}
theorem Inv.letgo(I:Inv X pins σ H s)(hx:H x=Y 2.24):Inv X pins σ (λb=>if b=x then L else H b) s:=by
 have ne:∀ {b:td} {o:HO},H b=Y o->(∀ ψ,o≠.ext ψ)->(if b=x then L else H b)=Y o:=λ{b o} q n=>by
  rw[if_neg λz=>?_];exact q;rw[z,hx] at q;cases q;exact n _ rfl
 refine I.un (s:=s) (h':=s.heap) (t':=s.toks) ⟨λb o q j j j=>q,λb o q j j j=>⟨o.slots,q⟩,λb o q n j=>?_,λb o q j=>⟨o,q⟩,λb xs q=>ne q (by intro ψ z;cases z),λb o u q=>ne q (by intro ψ z;cases z),λb ps q=>⟨#[],by rw[ne q (by intro ψ z;cases z)];simp⟩⟩ λb o q=>?_
 ·show(if b=x then L else H b)=L;split
  ·rfl
  ·exact n
 ·by_cases z:b=x
  ·simp[z] at q
  ·have q:H b=Y o:=by simpa[z] using q
   exact(I.hok b o q).stay (λj j j hu=>hu) (λc hc=>ne hc (by intro ψ w;cases w)) λc xs hc=>ne hc (by intro ψ w;cases w)
end
def HX(K:aeH)(C f:td):Prop:=∃ nm q N bs bm hdct sn sub ab col dd k0 k1 k2 k3 k5 newId mN bmB B initId,mN "__init__" = Y (.ref f)/\ExcBaseFacts B newId initId bmB/\bm.contains (.type "BaseException")=true /\
 ∀ h:Ud,K.In h->h.get? C=Y 1.7/\h.Ns N mN/\OwnTail h bmB bm/\∃ of,h.get? f=Y of/\of.cls=.type "function"
def KJ(P:vx)(w:Pn)(K:aeH)(mg:Str->Option ce)(base:Ud)(k:Nat)(C f:td)(fl:Str):Prop:=∀ (A:RQ) (outer:List Env) (s:gV) (H:Hp) (x t:td) (v:V) (u:ce),Room k A->Env0 P w K mg base A outer s H ->
 RelV v u->H x=Y (.ext (AO x C t))->codeAny 1.29 A (.call (.ref f) ⟨[.ref x,u],[]⟩) (CR HY outer P w H s (λr H'=>r=.non/\∃ dx,H dx=L/\H'=upd (upd H x (.ext (AN x C t dx))) dx (.xd [(fl,v)])) E0) s
section
variable{X:Cx}{e:tx}{x:Str}{np cpos pos:Pos}{te:TE}{C f:td}{fl:Str}{k:Nat}
def Zi(C:td)(fl:Str)(E:XK)(te:TE):TS:=λz σ H=>te σ H λy H1=>∀ dx,H1 dx=L->E (.ref C) (Y dx) (upd H1 dx 1.84)
theorem Qc(R:HX X.K C f)(N:KJ X.prog X.w X.K X.mg X.base k C f fl)(hr:∀ us,Room k (X.A.under (.builtin "type.__call__" ⟨.ref C::us,[]⟩)))(hg:Gl X x)(hm:X.mg x=Y (.ref C))(he:PE X e te)(hcalm:X.calm=true)
  (hs:X.stack=X.env::X.outer) (hfm:X.env.frame=Y X.env.locals) (hex:X.ex=[])
  (hxe:∀ e' s',aeG 0.3 X.A (leaving X.env e') (λj s''=>sg X.prog X.w X.outer X.H₀ X.s₀ E e' s'') (λj j=>False) s'->X.xe e' s')
  (hd:(x==("__debug__":Str))=false:=by decide) (hst:Wj [e] X.env=1.2::Wj [] X.env:=by rfl) :
  PS X (.Raise (Y (.Call (.Name x np) [e] [] cpos)) L pos) (Zi C fl E te):=by
 intro pins s σ H D I h;have hh:=I.ok.hd hcalm;obtain⟨nm,q,Nn,bs,bm,hdct,sn,sub,ab,col,dd,k0,k1,k2,k3,k5,newId,mN,bmB,B,initId,hni,F,hb,R⟩:=R;rw[arm_exec_Raise];refine aab (abC (HT.xZ (C:=C) (nm:=nm) (q:=q) (N:=Nn) (bs:=bs) (bm:=bm) (hdct:=hdct) (sn:=sn) (sub:=sub) (ab:=ab) (col:=col) (dd:=dd) (k0:=k0) (k1:=k1) (k2:=k2) (k3:=k3) (k5:=k5) (newId:=newId) hb hh ?_));refine aab (aaK (wpAny_Call_ofName (tT I hg hm ?_ hd)) (λv s₃ h₃=>aab (abC (aat h₃))) λj j z=>z)
 have ev:aeG 0.3 X.A (evalArgs (.ref C) true (backTo cpos (Wj [e] X.env)) []) (λa s₂=>∃ y u H1,a=⟨[u],[]⟩/\Inv X pins σ H1 s₂/\RelV y u/\∀ dx,H1 dx=L->E (.ref C) (Y dx) (upd H1 dx 1.84)) X.xe s:=by
  rw[hst];refine acA (show aeG _ _ (spliced (backTo cpos (1.2::Wj [] X.env))) _ _ _ from ?_);rw[<- hst];exact spliced_more (eG 7.1 λu s1 ⟨y,H1,I1,ry,q1⟩=>spliced_none ⟨y,u,H1,rfl,I1,ry,q1⟩) hst
 have hplain:(backTo cpos (Wj [e] X.env)).any (·.1)=false:=by rw[hst];rfl
 unfold callWith;refine aab (abd (aaK ev (λa s₂ h₂=>aab (abC ?_)) λj j z=>z));obtain⟨y,u,H1,rfl,I1,ry,q1⟩:=h₂;obtain⟨hC,hn,T,of,hf,hfc⟩:=R s₂.heap I1.kIn;obtain⟨hp,g,d,tk,os⟩:=s₂;simp only[hplain];refine aab (wpAny_keeperOf_exc hC ?_);refine aab (HT.EE F T hC hn hni hf hfc (by rw[acM];simp) ?_);have I2:Inv X pins σ (upd H1 3.3 (.ext (AO 3.3 C hp.objs.size))) ⟨HT.zB hp C [u],g,d,tk,os⟩:=I1.laid (a:=hp.objs.size+1) (o:=.ext (AO 3.3 C hp.objs.size)) (t':=tk) (λb w z=>HT.kS z) (acX _) ⟨HT.vv,⟨_,HT.vv⟩,λh1 h2 e1 e2=>e2 _ e1⟩;refine adI (abU (N _ X.stack _ _ 3.3 hp.objs.size y u (hr [u]) (I2.env0.make C [u] []) ry bF) λr s' z=>?_)
 match r,z with
 | .ok (.ret v),z=>
  obtain⟨v',H',I3,rv,rfl,dx,hdx,rfl⟩:=I2.after z;cases(show v=Value.none from rv);have ndx:dx≠hp.objs.size+1:=λw=>by rw[w,bF] at hdx;cases hdx
  have hx:(upd (upd (upd H1 3.3 (.ext (AO 3.3 C hp.objs.size))) 3.3 (.ext (AN 3.3 C hp.objs.size dx))) dx 1.84) 3.3=Y (.ext (AN 3.3 C hp.objs.size dx)):=by rw[bj (Ne.symm ndx),bF]
  have e1:AN 3.3 C hp.objs.size dx s'.heap:=(show ObjOk X.prog X.w _ s'.heap _ (.ext (AN 3.3 C hp.objs.size dx)) from I3.hok _ _ hx).1;have I4:=I3.letgo hx;refine⟨rfl,aab (abd (wpAny_point (aat ⟨_,_,Y dx,rfl,(R s'.heap I3.kIn).1,e1,hxe _ _ ?_⟩)))⟩;refine Hq hs hfm hex I4 e1 rfl rfl rfl rfl 0.4 ?_ ?_
  ·exact aem (Nat.le_succ_of_le I1.sz)
  ·have n1:H1 3.3=L:=I1.hok.fresh (acX _);rw[bj ndx] at hdx
   have eq:(λb=>if b=hp.objs.size+1 then L else upd (upd (upd H1 3.3 (.ext (AO 3.3 C hp.objs.size))) 3.3 (.ext (AN 3.3 C hp.objs.size dx))) dx 1.84 b)=upd H1 dx 1.84:=by
    funext b;by_cases z1:b=hp.objs.size+1
    ·rw[aas z1,z1,bj (Ne.symm ndx),n1]
    ·rw[if_neg z1];by_cases z2:b=dx
     ·rw[z2,bF,bF]
     ·rw[bj z2,bj z2,bj z1,bj z1]
   rw[eq];exact q1 dx hdx
end
section
variable{X:Cx}{pins:List (td×Obj)}{σ:St}{H:Hp}{s s':gV}{E:XK}{e:ce}
theorem Inv.track(I:Inv X pins σ H s){φ:Ud->Prop}(hx:s.heap.get? x=Y ox)(hd:ox.data=.fields vs)(n:H x=L)(x0:X.s₀.heap.get? x=L)(hp:∀ p∈X.pn++pins,p.1≠x)
  (ok:φ s.heap) (st:∀ h1 h2:Ud,φ h1->(∀ o,h1.get? x=Y o->h2.get? x=Y o)->φ h2):Inv X pins σ (upd H x 2.24) s:=by
 have nl:X.env.locals≠x:=λz=>by
  obtain⟨m,⟨o,es,ep,ho,hdo,w⟩,w⟩:=I.loc;rw[z,hx] at ho;cases ho;rw[hd] at hdo;cases hdo
 have ne0:∀ b o,X.s₀.heap.get? b=Y o->b≠x:=λb o q z=>by rw[z,x0] at q;cases q
 have sm:∀ b o,H b=Y o->upd H x 2.24 b=Y o:=λb o q=>by rw[bj λz=>?_];exact q;rw[z,n] at q;cases q
 refine⟨I.ok,I.os,I.bare,⟨I.base.keep,I.base.slot,λb o q m ne=>by rw[bj (ne0 b o q)];exact I.base.free b o q m ne,I.base.there,λb xs q=>sm b _ (I.base.tups b xs q),λb o u q=>sm b _ (I.base.frzs b o u q),λb ps q=>?_⟩,I.loc,I.cell,?_,λy c q=>?_,λp q=>?_,λb o q=>?_,I.len⟩
 ·obtain⟨more,z⟩:=I.base.tbls b ps q;exact⟨more,sm b _ z⟩
 ·rw[bj nl];exact I.free
 ·rw[bj λz=>?_];exact I.freeC y c q;obtain⟨v,o,ho,hdo⟩:=I.cell y c q;rw[z,hx] at ho;cases ho;rw[hd] at hdo;cases hdo
 ·obtain⟨h1,h2,h3⟩:=I.pin p q;exact⟨h1,by rw[bj (hp p q)];exact h2,h3⟩
 ·by_cases z:b=x
  ·subst z;rw[bF] at q;cases q;exact⟨ok,⟨_,hx⟩,st⟩
  ·rw[bj z] at q;exact(I.hok b o q).stay (λw w w hu=>hu) (λc hc=>sm c _ hc) λc xs hc=>sm c _ hc
structure EK(X:Cx)(pins:List 2.4)(H:Hp)(s:gV)(x T C dx:td):Prop where
 fly:HT.Fly s.heap x T (.ref C) (Y dx)
 no:H T=L
 old:X.s₀.heap.objs.size<=T
 pin:∀ p∈X.pn++pins,p.1≠T
theorem JU(hs:X.stack=X.env::X.outer)(hfm:X.env.frame=Y X.env.locals)(hex:X.ex=[])(I:Inv X pins σ H s)(hx:sg X.prog X.w X.stack H s E e s'){Q:Unit->gV->Prop}
  (h:∀ s'' x T C dx H',e=.ref x->Inv X pins σ 1.53 s''->H' x=L->E (.ref C) (Y dx) H'->EK X pins H' s'' x T C dx->Q () s'') :
  aeG 0.3 X.A (noteFrame e X.env) (λj s₂=>aeG 0.3 X.A (setFlight e L) Q E' s₂) E' s':=by
 obtain⟨x,T,C,dx,H',rfl,F,nx,nT,fx,fT,os,bare,un,hok,q⟩:=hx;have fin:∀ b∈BV X.stack,H b=L:=I.stkFree;have hl:s'.heap.FunFrames X.base X.stack:=LI I.stack λb o hb ho=>un.slot b o ho (fin b hb) hb 0.4;have hfr:X.A.frames=Y (X.env::X.outer):=by rw[<- hs];exact I.ok.frames
 rw[hs] at hl;have nn:∀ b:td,b∉([]:List td):=λb=>by simp
 have fr':∀ b∈(X.env::X.outer).filterMap (·.frame),H' b=L:=λb hb=>by
  have hb:b∈BV X.stack:=by rw[hs];exact hb
  obtain⟨j,o,ho,j⟩:=I.stack.mem hb;exact un.free b o ho (fin b hb) (nn b)
 have no:∀ b o,s.heap.get? b=Y o->¬ (b=x\/b=T):=λb o h0 z=>by
  rcases z with z | z
  ·rw[z,fx] at h0;cases h0
  ·rw[z,fT] at h0;cases h0
 refine HT.VG hfr hl hfm F λh' T' sz F' Lf=>?_
 have un':Un (BV X.stack) [] H H' s.heap h':=by
  refine⟨λb o h0 n nb j=>?_,λb o h0 n hb j=>?_,un.free,λb o h0 j=>?_,un.tups,un.frzs,un.tbls⟩
  ·exact Lf.keep b o (by rw[hs] at nb;exact nb) (no b o h0) (un.keep b o h0 n nb (nn b))
  ·obtain⟨sl2,e2⟩:=un.slot b o h0 n hb (nn b);obtain⟨sl3,e3⟩:=Lf.slot b _ (by rw[hs] at hb;exact hb) e2;exact⟨sl3,e3⟩
  ·obtain⟨o',e'⟩:=un.there b o h0 (nn b);by_cases hb:b∈(X.env::X.outer).filterMap (·.frame)
   ·obtain⟨sl,e3⟩:=Lf.slot b o' hb e';exact⟨_,e3⟩
   ·exact⟨o',Lf.keep b o' hb (no b o h0) e'⟩
 have hok':HOk X.prog X.w H' h':=λa o ha=>by
  have tr:∀ b,(b=a\/H' b=Y (.own a))->H' b≠L:=λb hb z=>by
   rcases hb with hb | hb
   ·rw[hb,ha] at z;cases z
   ·rw[hb] at z;cases z
  refine(hok a o ha).stay (λb u hb hu=>Lf.keep b u (λz=>tr b hb (fr' b z)) (λz=>?_) hu) (λj z=>z) λj j z=>z;rcases z with z | z
  ·exact tr b hb (z ▸ nx)
  ·exact tr b hb (z ▸ nT)
 have I2:Inv X pins σ H' { s' with heap:=h' }:=I.call' (s':={ s' with heap:=h' }) (ch:=[]) os un' hok' bare λb z=>absurd z 0.4;obtain⟨j,⟨oe,vs,he,hc,hdx,hd,j⟩,j⟩:=id F'
 have x0:X.s₀.heap.get? x=L:=by
  cases q0:X.s₀.heap.get? x with
  | none=>rfl
  | some o=>obtain⟨o1,e1⟩:=I.base.there x o q0 (by rw[hex];simp);rw[fx] at e1;cases e1
 have s0:X.s₀.heap.objs.size<=s'.heap.objs.size:=by
  refine aaF I.ok.above (ado ?_);obtain⟨m,⟨o,es,ep,ho,j⟩,j⟩:=I.loc;obtain⟨o',ho'⟩:=un.there _ o ho (nn _);exact aaq ho'
 refine h _ x T' C dx H' rfl (I2.track he hd nx x0 (λp hp z=>?_) ⟨oe,vs,he,hc,hdx,hd⟩ λh1 h2 ⟨o,ws,z1,z2⟩ k=>⟨o,ws,k o z1,z2⟩) nx q ⟨F',hok.fresh sz,aaF s0 sz,λp hp z=>?_⟩
 rotate_left
 ·obtain⟨o',ho'⟩:=un.there p.1 p.2 (I.pin p hp).1 (nn _);exact absurd (aaq ho') (by rw[z];exact adK.mpr sz)
 have:=(I.pin p hp).1;rw[z,fx] at this;cases this
theorem NO{Q:Unit->gV->Prop}(I:Inv X pins σ (upd H' x 2.24) s)(L4:EK X pins H' s x T C dx)
  (h:∀ s',Inv X pins σ (upd H' x 2.24) s'->EK X pins H' s' x T C dx->Q () s'):aeG 0.3 A (setFlight (.ref x) L) Q E' s:=by
 obtain⟨neT,⟨oe,vs,he,hc,hdx,hd,h1⟩,oT,ts,hT,hdT,h3⟩:=id L4.fly;have h3z:3<ts.size:=(acd.mp h3).1;unfold setFlight;refine aab (abx he hd h1 ?_);rw[aas (show(Value.ref T != Value.none)=true from by simp)];refine abL hT hdT h3z ?_;have dT1:=abQ hdT (·.setIfInBounds 3 Value.none);have hT1:=aba (Obj.mapFields (·.setIfInBounds 3 Value.none)) hT (abV dT1);have ot:∀ b,b≠T->(s.heap.update T (Obj.mapFields (·.setIfInBounds 3 Value.none))).get? b=s.heap.get? b:=λb hb=>aaw s.heap _ (Ne.symm hb);have nT:upd H' x 2.24 T=L:=by rw[bj neT];exact L4.no
 have I2:=I.call (h':=s.heap.update T (Obj.mapFields (·.setIfInBounds 3 Value.none))) (g':=s.gens) (d':=s.drawn) (t':=s.toks) (ch:=[T]) (H':=upd H' x 2.24)
  ⟨λb o q w w nb=>(ot b λz=>nb (by simp[z])).trans q,λb o q w w nb=>⟨o.slots,(ot b λz=>nb (by simp[z])).trans q⟩,λb o w n w=>n,λb o q nb=>⟨o,(ot b λz=>nb (by simp[z])).trans q⟩,λw w z=>z,λw w w z=>z,λb ps z=>⟨#[],by rw[z];simp⟩⟩
  (λa o ha=>(I.hok a o ha).stay (λb u hb hu=>(ot b λz=>by
   rcases hb with hb | hb
   ·rw[<- hb,z,nT] at ha;cases ha
   ·rw[z,nT] at hb;cases hb).trans hu) (λw z=>z) λw w z=>z) I.bare (λb hb=>by
   obtain rfl:b=T:=by simpa using hb
   refine⟨.inr L4.old,λz=>?_,λy c hc' z=>?_,L4.pin⟩
   ·obtain⟨m,⟨o,es,ep,ho,hdo,w⟩,w⟩:=I.loc;rw[<- z,hT] at ho;cases ho;rw[hdT] at hdo;cases hdo
   ·obtain⟨v,o,ho,hdo⟩:=I.cell y c hc'
    rw[z,hT] at ho;cases ho;rw[hdT] at hdo;cases hdo)
 exact h _ I2 ⟨⟨neT,⟨oe,vs,(ot x (Ne.symm neT)).trans he,hc,hdx,hd,h1⟩,⟨_,_,hT1,dT1,by simp[h3z]⟩⟩,L4.no,L4.old,L4.pin⟩
end
section
variable{X:Cx}{k:Nat}{f:td}{fd:FuncData}{ps:List Str}{sp:Sp}{dvs:List V}{ds:List ce}{E:XK}{x:Str}{p pos:Pos}{e:tx}{es:List tx}{t:TA}{pins:List (td×Obj)}{σ:St}{H:Hp}{s:gV}{Q:VK}
def qbT(X:Cx)(pins:List 2.4)(σ:St)(E:XK)(e:ce)(s':gV):Prop:=∃ H1 s1,Inv X pins σ H1 s1/\sg X.prog X.w X.stack H1 s1 E e s'
theorem HN(F:FnOk X.prog X.w X.K X.mg X.base (sg X.prog X.w) k f fd ps sp)(hr:Room k X.A)(hg:Gl X x)(hm:X.mg x=Y (.ref f))(hk:W.keepIn X.K (.ref f)=true)(hb:Binds X.K fd ps ds)(hd:Vals dvs ds)
  (ha:PA X (e::es) t) (hxe:∀ v s',X.xe v s'->False) (I:Inv X pins σ H s) (h:Be sp dvs E t σ H Q) (hdb:(x==("__debug__":Str))=false:=by decide)
  (he:Wj (e::es) X.env=1.2::Wj es X.env:=by rfl) (hpl:(backTo pos 2.1).any (·.1)=false:=by rfl) :
  aeG 0.3 X.A (eval (.Call 7.2 (e::es) [] pos) X.env) 4.8 (qbT X pins σ E) s:=by
 refine abO (tT I hg hm ?_ hdb);refine aef (h₀:=X.base) I.ok.mod.kin hk (aaK 6.9 (λus s1 ⟨vs,H1,I1,r,q⟩=>⟨I1.kIn,?_⟩) λv s' z=>(hxe v s' z).elim) he hpl;have r2:Vals (vs++dvs) (us++ds):=r.append hd;have hl:(us++ds).length=ps.length:=by rw[<- r2.length];exact F.len _ _ _ _ q
 refine adI (abU (F.run X.A X.stack s1 H1 ⟨us,[]⟩ (us++ds) (vs++dvs) Q E hr I1.env0 (hb s1 us I1.kIn hl) r2 q) λr s' hq=>?_)
 match r,hq with
 | .error v,hq=>exact⟨H1,s1,I1,hq⟩
 | .ok (.ret u),hq=>exact I1.after hq
end
end L2
namespace HT
section
variable{M:Model}{A:RQ}{E:ce->gV->Prop}{h:Ud}{g:Array GenState}{d:Drawn}{t:Nat}{os:OsState}
variable{nm q nm' q':Str}{C N C' N':td}{bs bm bs' bm':List ce}{hdct hdct':Bool}{sn sn':List Str}{sub sub':List ce}{ab ab':Bool}{col col':Option Bool}{dd dd':Option td}{k0 k1 k2 k3 k5 l0 l1 l2 l3 l5:Option ce}{newId newId':String}
theorem FZ{Q:Bool->gV->Prop}(hC:h.get? C=Y 1.7)(hG:h.get? C'=Y (excClassObj nm' q' C' N' bs' bm' hdct' sn' sub' ab' col' dd' l0 l1 l2 l3 l5 newId'))
  (he:h.get? e=Y oe) (hcls:oe.cls=.ref C) (hin:(Value.ref C::bm).contains (.ref C')=true) (hbase:bm'.contains (.type "BaseException")=true)
  (hq:Q true ⟨h,g,d,t,os⟩):aeG M A (excMatches (.ref e) (.ref C')) Q E ⟨h,g,d,t,os⟩:=by
 have hcB:(Value.ref C'::bm').contains (.type "BaseException")=true:=by rw[add,hbase,aej]
 have f:=tc_notTuple;unfold excMatches
 repeat (first | (with_reducible refine abE he ?_;rw[hcls]) | with_reducible refine abE hG ?_ | (with_reducible refine acC hG ?_;rw[hcB]) | (with_reducible refine acC hC ?_;rw[hin]) | wp_step)
 exact hq
end
end HT
namespace L2
noncomputable abbrev Cx.suite(X:Cx)(v:ce)(E:ce->gV->Prop):Cx:={ X with A:=X.A.mark (Y v),calm:=false,xe:=E }
section
variable{X:Cx}{pins:List (td×Obj)}{σ:St}{H:Hp}{s:gV}{v:ce}{E:ce->gV->Prop}
theorem Cx.Ok.suite(ok:X.Ok):(X.suite v E).Ok:=⟨ok.mod,ok.kind,ok.glob,ok.blt,ok.above,ok.inj,ok.has,ok.cab,(λz=>by cases z),ok.frames,ok.stk,ok.exf,ok.bs,ok.bsz,ok.noex,ok.exfs,ok.funs,ok.frf⟩
theorem Inv.suite(I:Inv X pins σ H s):Inv (X.suite v E) pins σ H s:=⟨I.ok.suite,I.os,I.bare,I.base,I.loc,I.cell,I.free,I.freeC,I.pin,I.hok,I.len⟩
theorem Inv.unsuite(ok:X.Ok)(I:Inv (X.suite v E) pins σ H s):Inv X pins σ H s:=⟨ok,I.os,I.bare,I.base,I.loc,I.cell,I.free,I.freeC,I.pin,I.hok,I.len⟩
def zQ(K:aeH)(C:td)(bm:List ce):Prop:=∃ nm q N bs hdct sn sub ab col dd k0 k1 k2 k3 k5 newId,∀ h:Ud,K.In h->h.get? C=Y 1.7
end
def Py(K:aeH)(C:td)(fl:Str):Sp:=λvs H Q z=>∃ x t v,vs=[.ref x,v]/\H x=Y (.ext (AO x C t))/\zR K C fl/\∀ dx,H dx=L->Q .non (upd (upd H x (.ext (AN x C t dx))) dx (.xd [(fl,v)]))
theorem VZ{K:aeH}{k:Nat}(F:FnOk P w K mg base HY k f fd ps (Py K C fl))(hb:Binds K fd ps [])(hl:ps.length=2)(c:zR K C fl) :
  KJ P w K mg base k C f fl:=λA outer s H x t v u hr e0 rv hx=>by
 have KX:K.In s.heap:=e0.mod.kin.keeps λb o e=>(e0.bs b o e).1;have b:=hb s [.ref x,u] KX (by rw[hl];rfl);exact F.run A outer s H ⟨[.ref x,u],[]⟩ ([.ref x,u]++[]) [.ref x,v] _ E0 hr e0 b (.cons rfl (.cons rv .nil)) ⟨x,t,v,rfl,hx,c,λdx hdx=>⟨rfl,dx,hdx,rfl⟩⟩
theorem Wa{K:aeH}{k:Nat}{kV oc:ce}{od:Option td}{osl:Array 1.04}
  (lk:K.lookup f=Y ⟨oc,od,.func (W.fnOf name qual params [.Assign [.Attribute (.Name a p1) fl p2] (.Name b p3) pos] scope dV kV doc pm an cdv ct),osl⟩) (hcd:W.codeIn K cdv qual=true) (S:aP [a,b] [a,b] scope)
  (a1:(a==("__debug__":Str))=false) (a2:(a==("__classdict__":Str))=false) (b1:(b==("__debug__":Str))=false) (b2:(b==("__classdict__":Str))=false) :
  FnOk P w K mg base HY (k+1) f (W.fnOf name qual params [.Assign [.Attribute (.Name a p1) fl p2] (.Name b p3) pos] scope dV kV doc pm an cdv ct) [a,b] (Py K C fl):=
 RP lk hcd S (λvs H Q E ⟨x,t,v,e,_⟩=>by rw[e];rfl) λA outer s H vs Q E hr z0=>by
  obtain⟨x,t,v,ev,hx,c,q⟩:=z0;subst ev;have vis:∀ y∈[a,b],Xz scope y:=λy hy=>(S.par y hy).elim .inl λz=>.inr (.inl z);exact⟨_,xl (UT (pv 0 (hv:=vis a 0.4) (hd:=a1) (hcd:=a2)) (pv 1 (hv:=vis b 0.4) (hd:=b1) (hcd:=b2)) rfl),v,rfl,.ref x,rfl,x,C,t,rfl,hx,c,q⟩
end L2
namespace L2
section
variable{X:Cx}{pins:List (td×Obj)}{σ:St}{s:gV}{E:ce->gV->Prop}
theorem GZ{C:td}{b₀:QP}{suite:List QP}{D:sM}(I:Inv X pins σ 1.53 s)(L4:EK X pins H' s x T C dx)
  (hC:zQ X.K C bm) (hG:zQ X.K G bmG) (hin:(Value.ref C::bm).contains (.ref G)=true) (hb:bmG.contains (.type "BaseException")=true) (hg:Gl X g) (hm:X.mg g=Y (.ref G))
  (hS:∀ v,PSs (X.suite v λu u=>False) (b₀::suite) ts) (h:ts D σ 1.53) (hd:(g==("__debug__":Str))=false:=by decide) :
  aeG 0.3 X.A (handleBy (.ref x) X.env [.ExceptHandler (Y (.Name g gp)) L (b₀::suite) hp]) (SP X pins D) E s:=by
 obtain⟨nm,q,N,bs,hdct,sn,sub,ab,col,dd,k0,k1,k2,k3,k5,newId,hC⟩:=hC;obtain⟨nm',q',N',bs',hdct',sn',sub',ab',col',dd',l0,l1,l2,l3,l5,newId',hG⟩:=hG;obtain⟨oe,_,he,hc,_⟩:Hz x C dx s.heap:=(show ObjOk X.prog X.w _ s.heap x (.ext (Hz x C dx)) from I.hok x _ bF).1;refine wpAny_handleBy_cons (codeAny_handlers_test (acG I.ok.kind hg (adS (by rw[I.ok.glob];exact I.mod.glob.keeps I.bk) hm ?_) hd)) (by intro z;cases z);have I0:=I;have L0:=L4;obtain⟨hh,gg,ddr,tk,os⟩:=s;refine HT.FZ (hC hh I0.kIn) (hG hh I0.kIn) he hc hin hb ?_;show codeAny _ _ _ _ _;refine codeAny_handlers_suite (NO I0 L0 λs1 I1 L1=>?_);refine aaK (hS (.ref x) pins s1 _ _ _ I1.suite h) (λf s3 z=>?_) λu u z=>z.elim
 match f,z with
 | .next,⟨σ',H1,I3,q3⟩=>exact⟨σ',H1,I3.unsuite I.ok,q3⟩
 | .brk,⟨σ',H1,I3,q3⟩=>exact⟨σ',H1,I3.unsuite I.ok,q3⟩
 | .cont,⟨σ',H1,I3,q3⟩=>exact⟨σ',H1,I3.unsuite I.ok,q3⟩
 | .ret _,⟨v,σ',H1,I3,rv,q3⟩=>exact⟨v,σ',H1,I3.unsuite I.ok,rv,q3⟩
end
section
variable{X:Cx}{k:Nat}{f:td}{fd:FuncData}{ps:List Str}{sp:Sp}{dvs:List V}{ds:List ce}{x:Str}{p cpos:Pos}{e:tx}{es:List tx}{t:TA}
def qb8(X:Cx)(G:td)(ts:TS)(D:sM)(σ:St):XK:=λCv od H1=>∃ C dx bm,Cv=.ref C/\od=Y dx/\zQ X.K C bm/\(Value.ref C::bm).contains (.ref G)=true/\∀ a,H1 a=L->ts D σ (upd H1 a (.ext (Hz a C dx)))
theorem MQ{pa:Pos}{j:Nat}{b₀:QP}{suite:List QP}
  (F:FnOk X.prog X.w X.K X.mg X.base (sg X.prog X.w) k f fd ps sp) (hr:Room k X.A) (hgf:Gl X x) (hmf:X.mg x=Y (.ref f)) (hkp:W.keepIn X.K (.ref f)=true) (hb:Binds X.K fd ps ds) (hdv:Vals dvs ds) (ha:PA X (e::es) t)
  (hxe:∀ v s',X.xe v s'->False) (hG:zQ X.K G bmG) (hbG:bmG.contains (.type "BaseException")=true) (hg:Gl X g) (hm:X.mg g=Y (.ref G)) (hN:X.N.Nodup) (hj:X.N[j]?=Y y) (hy:OS X.env.scope y) (hf:X.fn y=true\/X.env.scope.names.lookup y=Y .local)
  (hS:∀ v,PSs (X.suite v λz z=>False) (b₀::suite) ts) (hs:X.stack=X.env::X.outer) (hfm:X.env.frame=Y X.env.locals) (hex:X.ex=[])
  (hdb:(x==("__debug__":Str))=false:=by decide) (hd:(g==("__debug__":Str))=false:=by decide)
  (he:Wj (e::es) X.env=1.2::Wj es X.env:=by rfl) (hpl:(backTo cpos 2.1).any (·.1)=false:=by rfl) (hsw:swapsWith (.Call 7.2 (e::es) [] cpos) 1.28 pa.line X.env=pure false:=by rfl) :
  PS X (.Try [.Assign [.Name y py] (.Call 7.2 (e::es) [] cpos) pa] [.ExceptHandler (Y (.Name g gp)) L (b₀::suite) hp] [] [] pos) (λD σ H=>Be sp dvs (qb8 X G ts D σ) t σ H λv H1=>D.nx (σ.set j (Y v)) H1):=by
 intro pins s σ H D I h;refine wpAny_Try_except (adp (wpAny_Assign_Name (aaK (HN F hr hgf hmf hkp hb hdv ha hxe I h hdb he hpl) (λv s1 hq=>?_) λe' s' hq=>?_) hsw))
 ·obtain⟨w,H1,I1,rw',q1⟩:=hq;exact pH I1 hN hj hy rw' (λs2 I2=>acj (acj ⟨_,H1,I2,q1⟩)) hf
 ·obtain⟨H1,s1,I1,fl⟩:=hq;refine JU hs hfm hex I1 fl λs'' a T C dx H' ea I2 na q L4=>?_;subst ea;obtain⟨C',dx',bm,eC,ed,hC,hin,hts⟩:=q;cases eC;cases ed;exact GZ I2 L4 hC hG hin hbG hg hm hS (hts a na) hd
end
end L2
namespace M
open L2
inductive Ub where
 | ok (o:se)
 | xc (i:Option Int) (S:ac)
noncomputable abbrev MY:=bf->ac->Option Ub
inductive RY where
 | val (d:D) (S:ac)
 | xc (i:Option Int) (S:ac)
def PostX(K:aeH)(C:td)(fl:Str)(μ:Fp)(H:Hp)(S':ac)(i:Option Int)(E:XK):Prop:=∀ dx H' μ',Ext μ H μ' H'->SOk K μ' S' H'->H' dx=L->E (.ref C) (Y dx) (upd H' dx (.xd [(fl,vI i)]))
def PostY(K:aeH)(C:td)(fl:Str)(E:XK)(μ:Fp)(H:Hp)(o:Ub)(D:sM):Prop:=match o with
 | .ok o=>PostS K μ H o D
 | .xc i S'=>PostX K C fl μ H S' i E
inductive tY(K:aeH)(C:td)(fl:Str)(E:XK)(m:MY)(D:sM)(σ:L2.St)(H:Hp):Prop
 | mk (μ:Fp) (S:ac) (env:bf) (o:Ub) (hS:SOk K μ S H) (hE:EOk K μ H σ env) (h:m env S=Y o) (post:PostY K C fl E μ H o D)
def DY(X:Cx)(C:td)(fl:Str)(E:XK)(st:QP)(m:MY):Prop:=PS X st (tY X.K C fl E m)
def Uk(X:Cx)(C:td)(fl:Str)(E:XK)(st:List QP)(m:MY):Prop:=PSs X st (tY X.K C fl E m)
structure XOk(X:Cx)(E:XK):Prop where
 hs:X.stack=X.env::X.outer
 hfm:X.env.frame=Y X.env.locals
 hex:X.ex=[]
 hxe:∀ e' s',aeG 0.3 X.A (leaving X.env e') (λ_ s''=>sg X.prog X.w X.outer X.H₀ X.s₀ E e' s'') (λ_ _=>False) s'->X.xe e' s'
section
variable{X:Cx}{K:aeH}{μ μ':Fp}{H H':Hp}{S S':ac}{C:td}{fl:Str}{E:XK}{Z:sM}{st:QP}{pos:Pos}
theorem PostX.ext(e:Ext μ H μ' H')(p:PostX K C fl μ H S' i E):PostX K C fl μ' H' S' i E:=λdx H2 μ2 e2 s n=>p dx H2 μ2 (e.trans e2) s n
theorem PostY.ext(e:Ext μ H μ' H')(p:PostY K C fl E μ H o Z):PostY K C fl E μ' H' o Z:=by
 cases o with
 | ok o=>exact PostS.ext e p
 | xc i S=>exact PostX.ext e p
def EM(m:MS):MY:=λenv S=>(m env S).bind λo=>Y (.ok o)
theorem LX(h:DS X st m):DY X C fl E st (EM m):=PS.imp h λD σ H z0=>by
 obtain⟨μ,S,env,o,hS,hE,hm,post⟩:=z0;obtain⟨o1,h1,hm⟩:=iq hm;cases hm;exact⟨μ,S,env,o1,hS,hE,h1,post⟩
theorem WE:Uk X C fl E [] (EM bq):=PSs.imp Ma λD σ H z0=>by
 obtain⟨μ,S,env,o,hS,hE,hm,post⟩:=z0;obtain⟨o1,h1,hm⟩:=iq hm;cases hm;exact⟨μ,S,env,o1,hS,hE,h1,post⟩
def nM(a b:MY):MY:=λenv S=>(a env S).bind λo=>match o with | .ok 1.62=>b env' S' | o=>Y o
theorem SH(h1:DY X C fl E st a)(h2:Uk X C fl E rest b):Uk X C fl E (st::rest) (nM a b):=PSs.imp (yc h1 h2) λD σ H z0=>by
 obtain⟨μ,S,env,o,hS,hE,hm,post⟩:=z0;obtain⟨o1,h1,hm⟩:=iq hm;refine⟨μ,S,env,o1,hS,hE,h1,?_⟩
 match o1,hm with
 | .ok 1.62,hm=>exact λσ' H' μ' e s r=>⟨μ',S',env',o,s,r,hm,post.ext e⟩
 | .ok (.rt d S'),hm=>cases hm;exact post
 | .ok (.bk d S'),hm=>cases hm;exact post
 | .ok (.ct d S'),hm=>cases hm;exact post
 | .xc i S',hm=>cases hm;exact post
theorem WD(h1:DY X C fl E st a):Uk X C fl E [st] a:=xl h1
def Nt(t:MT)(a b:MY):MY:=λenv S=>(t env S).bind λp=>if p.1=true then a env p.2 else b env p.2
theorem dy_if{mt:MT}{mb:MY}(hc:DT X c mt)(ha:Uk X C fl E a ma)(hb:Uk X C fl E b mb):DY X C fl E (.If c a b pos) (Nt mt ma mb):=PS.imp (XO hc ha hb) λD σ H z0=>by
 obtain⟨μ,S,env,o,hS,hE,hm,post⟩:=z0;obtain⟨k,S1,h1,hm⟩:=dW hm;refine⟨μ,S,env,k,S1,hS,hE,h1,λH1 μ1 e1 s1=>?_⟩;cases k with
 | true=>rw[aas rfl] at hm ⊢;exact⟨μ1,S1,env,o,s1,hE.mono e1,hm,post.ext e1⟩
 | false=>rw[if_neg aeJ] at hm ⊢;exact⟨μ1,S1,env,o,s1,hE.mono e1,hm,post.ext e1⟩
def ydI:D->Option (Option Int)
 | .non=>Y L
 | .int i=>Y (Y i)
 | _=>L
theorem Ul{d:D}(r:Rep K μ H v d)(h:ydI d=Y i):v=vI i:=by
 cases d<;>first | (cases h;cases r;rfl) | cases h
def tO(m:ME):MY:=λenv S=>(m env S).bind λp=>(ydI p.1).bind λi=>Y (.xc i p.2)
def HU(P:vx)(w:Pn)(K:aeH)(mg:Str->Option ce)(base:Ud)(x:Str)(C:td)(fl:Str):Prop:=∃ f,HX K C f/\KJ P w K mg base 1 C f fl/\mg x=Y (.ref C)
theorem SI(R:HU X.prog X.w X.K X.mg X.base x C fl)(hr:Room 2 X.A)(hg:Gl X x)(he:DE X e m)(hcalm:X.calm=true)(O:XOk X E)
  (hd:(x==("__debug__":Str))=false) (hst:Wj [e] X.env=1.2::Wj [] X.env):DY X C fl E (.Raise (Y (.Call (.Name x np) [e] [] cpos)) L pos) (tO m):=by
 obtain⟨f,R,N,hm⟩:=R;refine PS.imp (Qc (E:=E) R N (λus=>hr.make C us []) hg hm he hcalm O.hs O.hfm O.hex O.hxe hd hst) λD σ H ⟨μ,S,env,o,hS,hE,hm,post⟩=>?_;obtain⟨d,S1,h1,hm⟩:=dW hm;obtain⟨i,h2,hm⟩:=iq hm;cases hm;refine⟨μ,S,env,d,S1,hS,hE,h1,λv H1 μ1 e1 s1 r1 dx n=>?_⟩;rw[Ul r1 h2];exact post dx H1 μ1 e1 s1 n
def pY(g:MG)(body:MY):List D->bf->ac->Option Ub
 | [],env,S=>Y (.ok 1.16)
 | d::ds,env,S=>(g d env S).bind λp=>(body p.1 p.2).bind λo=>match o with
  | .ok 1.97=>pY g body ds e s
  | .ok (.ct e s)=>pY g body ds e s
  | .ok (.bk e s)=>Y (.ok 1.97)
  | .ok 1.96=>Y (.ok 1.96)
  | .xc i s=>Y (.xc i s)
def Gm(mi:MA)(g:MG)(body:MY):MY:=λenv S=>(mi env S).bind λp=>pY g body p.1 env p.2
theorem qbg{mb:MY}(hp:PassesOwn 0.3 X.A X.env X.xe)(hc:X.calm=true)(hi:DI X tg iter mi)(hg:DG X tg g)(hb:Uk X C fl E body mb)
  (hs:∀ x,XM iter X.env x=pure x):DY X C fl E 8.8 (Gm mi g mb):=PS.imp (IN hp hc hi hg hb hs) λD σ H z0=>by
 obtain⟨μ,S,env,o,hS,hE,hm,post⟩:=z0;obtain⟨xs,S1,h1,hm⟩:=dW hm;refine⟨μ,S,env,xs,S1,hS,hE,h1,λJ H1 μ1 e1 s1 it=>?_⟩
 refine⟨λi n σ H=>n=xs.length - i/\i<=xs.length/\YG X.K μ1 H1 (λμ H o=>PostY X.K C fl E μ H o D) (pY g mb (xs.drop i)) σ H,
  ⟨xs.length,by simp,acp _,μ1,S1,env,o,s1.ext,s1,hE.mono e1,by rw[abM];exact hm,post.ext e1⟩,?_⟩
 rintro i n σ' H' ⟨rfl,hi,μ',S',env',o',e',s',r',hl,post'⟩;have iti:=it μ' H' S' e'.toP s' i;by_cases hlt:i<xs.length
 ·refine .inr ⟨(iti.1 xs[i] 1.91).1,YG X.K μ1 H1 (λμ H o=>PostY X.K C fl E μ H o D) (pY g mb (xs.drop (i+1))),
   λσ2 H2 z=>⟨xs.length - (i+1),by omega,rfl,hlt,z⟩,λx H2 y=>?_⟩
  obtain⟨e2,s2,rx⟩:=(iti.1 xs[i] 1.91).2 x H2 y;rw[abq hlt] at hl;obtain⟨env3,S3,h3,hl⟩:=dW hl;obtain⟨o4,h4,hl⟩:=iq hl;refine⟨μ',S',env',xs[i],env3,S3,s2,r'.mono e2,rx,h3,λσ3 H3 μ3 e3 s3 r3=>⟨μ3,S3,env3,o4,s3,r3,h4,?_⟩⟩;have eT:Ext μ1 H1 μ3 H3:=(e'.trans e2).trans e3;have pT:PostY X.K C fl E μ3 H3 o' D:=(post'.ext e2).ext e3
  match o4,hl with
  | .ok (.nx e5 s5),hl=>exact λσ6 H6 μ6 e6 s6 r6=>⟨μ6,s5,e5,o',eT.trans e6,s6,r6,hl,pT.ext e6⟩
  | .ok (.ct e5 s5),hl=>exact λσ6 H6 μ6 e6 s6 r6=>⟨μ6,s5,e5,o',eT.trans e6,s6,r6,hl,pT.ext e6⟩
  | .ok (.bk e5 s5),hl=>cases hl;exact pT
  | .ok (.rt d5 s5),hl=>cases hl;exact pT
  | .xc i5 s5,hl=>cases hl;exact pT
 ·have e:i=xs.length:=by omega
  subst e;refine .inl ⟨iti.2 (aao _),?_⟩;rw[acx] at hl;cases hl;exact post' σ' H' μ' s'.ext s' r'
end
def spY(K:aeH)(C:td)(fl:Str)(n:Nat)(fy:List D->ac->Option RY):Sp:=λvs H Q E=>∃ μ S ds r,SOk K μ S H/\Reps K μ H vs ds/\ds.length=n/\fy ds S=Y r/\match r with | .val d S'=>Post K μ H S' d Q | .xc i S'=>PostX K C fl μ H S' i E
structure FnY(P:vx)(w:Pn)(K:aeH)(mg:Str->Option ce)(base:Ud)(k:Nat)(x:Str)(n:Nat)(fy:List D->ac->Option RY)(C:td)(fl:Str):Prop where
 ex:∃ (a:td) (fd:FuncData) (ps:List Str),ps.length=n/\FnOk P w K mg base (sg P w) k a fd ps (spY K C fl n fy)/\mg x=Y (.ref a)/\W.keepIn K (.ref a)=true/\Binds K fd ps []
theorem FnY.up{K:aeH}{k k':Nat}(F:FnY P w K mg base k x n fy C fl)(h:k<=k':=by decide):FnY P w K mg base k' x n fy C fl:=by
 obtain⟨a,fd,ps,h1,h2,h3⟩:=F.ex;exact⟨a,fd,ps,h1,h2.mono h,h3⟩
def Fu(N:List Str)(m:MY)(n:Nat):List D->ac->Option RY:=λds S=>if ds.length=n then(m 1.92 S).bind λo=>match o with | .ok (.rt d S')=>Y (.val d S') | .ok (.nx _ S')=>Y (.val .non S') | .xc i S'=>Y (.xc i S') | _=>L else L
theorem xok{K:aeH}{s:gV}:XOk (wX (sg P w) P w K mg base N q sc a cdv A outer s H E) E:=
 ⟨rfl,rfl,rfl,λe s' h=>aaK h (λu u z=>z) λu u z=>z.elim⟩
theorem qaU{K:aeH}{k:Nat}{st:QP}
  (F:bP K mg x st) (Sc:aP N ps (ax st)) (hb:sN x st ps)
  (hbody:∀ (a:td) (cdv:ce) (A:RQ) (outer:List PySem.Env) (s:gV) (H:Hp) (E:XK),Room k (A.deeper (envOfC x (ax st) s.heap.objs.size a cdv)) ->
   Uk (wX (sg P w) P w K mg base N x (ax st) a cdv A outer s H E) C fl E (aK st) m) :
  FnY P w K mg base (k+1) x ps.length (Fu N m ps.length) C fl:=by
 obtain⟨a,fd,F,hmg⟩:=F.ex;have hbd:=F.binds hb;refine⟨a,fd,ps,rfl,?_,hmg,F.kp,hbd⟩;obtain⟨oc,od,kV,doc,pm,an,cdv,ct,osl,rfl,lk,hcd⟩:=F.ex;refine RP lk hcd Sc (λvs H Q E ⟨μ,S,ds,r,hS,hr,hn,_⟩=>by rw[hr.length,hn]) λA outer s H vs Q E hr ⟨μ,S,ds,r,hS,hrp,hn,hf,post⟩=>⟨_,hbody a cdv A outer s H E hr,?_⟩
 have hEnv:EOk K μ H (L2.start N vs) 1.92:=by unfold L2.start aX;rw[hrp.length];exact EOk.start hrp
 unfold Fu at hf;rw[aas hn] at hf;obtain⟨o,h1,hf⟩:=iq hf
 match o,hf with
 | .ok (.rt d S'),hf=>cases hf;exact⟨μ,S,_,_,hS,hEnv,h1,post⟩
 | .ok (.nx e S'),hf=>cases hf;exact⟨μ,S,_,_,hS,hEnv,h1,λσ' H' μ' e s' z=>post .non H' μ' e s' .non⟩
 | .xc i S',hf=>cases hf;exact⟨μ,S,_,_,hS,hEnv,h1,post⟩
def HW(K:aeH)(mg:Str->Option ce)(g:Str)(C:td):Prop:=∃ G bm bmG,mg g=Y (.ref G)/\zQ K C bm/\zQ K G bmG/\(Value.ref C::bm).contains (.ref G)=true/\bmG.contains (.type "BaseException")=true
end M
namespace M
open L2
def Gn(n:Nat)(fy:List D->ac->Option RY)(ms:MA)(j:Nat)(b:Bool):MS:=λenv S=>(ms env S).bind λp=>if p.1.length=n then(fy p.1 p.2).bind λr=>match r with
 | .val d S'=>Y (.nx (env.set j (Y d)) S')
 | .xc _ S'=>Y (.rt (.bl b) S') else L
section
variable{X:Cx}{K:aeH}{μ μ':Fp}{H H':Hp}{S S':ac}{C:td}{fl:Str}
theorem WI{k:Nat}{e:tx}{es:List tx}{j:Nat}{pa:Pos}(F:FnY X.prog X.w X.K X.mg X.base k f n fy C fl)(hr:Room k X.A)(hgf:Gl X f)(ha:DA X (e::es) ms)
  (hxe:∀ v s',X.xe v s'->False) (hG:HW X.K X.mg g C) (hg:Gl X g) (hN:X.N.Nodup) (hj:X.N[j]?=Y y) (hy:X.env.scope.names.lookup y=Y .local)
  (hs:X.stack=X.env::X.outer) (hfm:X.env.frame=Y X.env.locals) (hex:X.ex=[])
  (hdb:(f==("__debug__":Str))=false) (hd:(g==("__debug__":Str))=false)
  (he:Wj (e::es) X.env=1.2::Wj es X.env) (hpl:(backTo cpos 2.1).any (·.1)=false)
  (hsw:swapsWith (.Call (.Name f p) (e::es) [] cpos) 1.28 pa.line X.env=pure false) :
  DS X (.Try [.Assign [.Name y py] (.Call (.Name f p) (e::es) [] cpos) pa] [.ExceptHandler (Y (.Name g gp)) L [.Return (Y (.Constant 2.01 jb pb)) pr] hp] [] [] pos) (Gn n fy ms j b):=by
 obtain⟨a,fd,ps,hn,F,hm,hkp,hb⟩:=F.ex;obtain⟨G,bm,bmG,hmg,hC,hGG,hin,hbG⟩:=hG;intro pins s σ H D I h;refine MQ F hr hgf hm hkp hb .nil ha hxe hGG hbG hg hmg hN hj (.inl hy) (.inr hy) (λv=>show PSs (X.suite v λz z=>False) _ (YZ X.K (bu (mC (.bl b)))) from M.LZ (M.SR (X:=X.suite v λz z=>False) Yv)) hs hfm hex hdb hd he hpl hsw pins s σ H D I ?_;obtain⟨μ,S,env,o,hS,hE,hm,post⟩:=h;obtain⟨xs,S1,h1,hm⟩:=dW hm;dsimp only at hm;split at hm
 ·rename_i hx;obtain⟨r,h2,hm⟩:=iq hm;refine⟨μ,S,env,xs,S1,hS,hE,h1,λvs H1 μ1 e1 s1 r1=>?_⟩;rw[aaJ];refine⟨μ1,S1,xs,r,s1,r1,hx,h2,?_⟩;cases r with
  | val d S2=>cases hm;exact λv H2 μ2 e2 s2 r2=>post _ H2 μ2 2.04 s2 ((hE.mono 2.04).set r2 j)
  | xc q S2=>
   cases hm;refine λdx H2 μ2 e2 s2 nx=>⟨C,dx,bm,rfl,rfl,hC,hin,λb' nb=>?_⟩
   obtain⟨e3,s3⟩:=s2.laid (o:=.xd [(fl,vI q)]) nx;obtain⟨e4,s4⟩:=s3.laid (o:=.ext (Hz b' C dx)) nb;have eT:=((e1.trans e2).trans e3).trans e4;exact⟨μ2,S2,env,.rt (.bl b) S2,s4,hE.mono eT,rfl,λv H' μ' e s r=>post v H' μ' (eT.trans e) s r⟩
 ·cases hm
end
end M
namespace HT
open PySem PySem.Spec PyProof.Rows Builtin
section
variable{prog:vx}{w:Pn}{A:RQ}{E:ce->gV->Prop}{s:gV}
theorem Cc{it t:td}(hne:t≠it):∀ (n i:Nat) (s:gV) (Q:List ce->gV->Prop),s.heap.IsListIter it t i->s.heap.IsList t items->i+n<=items.size ->
  (∀ h':Ud,h'.IsListIter it t (i+n)->Heap.SameBut it s.heap h'->h'.IsList t items->Q ((items.toList.drop i).take n) { s with heap:=h' })->aeG 1.4 A (draw 8.0 n) Q E s
 | 0=>λi s Q hit hl z hQ=>by
  show aeG _ _ (pure []) Q E s;exact aat (by simpa using hQ s.heap hit (Heap.SameBut.refl ..) hl)
 | n+1=>λi s Q hit ht hle hQ=>by
  have hlt:i<items.size:=by omega
  show aeG _ _ (pyNext 8.0 >>= _) Q E s;refine aab (adU hit ht (x:=items[i]) (by simp[hlt]) λh₁ hit₁ hs₁=>?_)
  have ht₁:h₁.IsList t items:=by
   obtain⟨o,ho,r⟩:=ht;exact⟨o,hs₁.extBut t o hne ho,r⟩
  refine aab (abd (Cc hne n (i+1) _ _ hit₁ ht₁ 0.0 λh₂ hit₂ hs₂ ht₂=>aat ?_));have hd:items.toList.drop i=items[i]::items.toList.drop (i+1):=by simp[abq,hlt]
  have:=hQ h₂ (by rw[show i+(n+1)=i+1+n by omega];exact hit₂) (hs₁.trans hs₂) ht₂;rw[hd,List.take_succ_cons] at this;exact this
theorem uE{x1}(hh:A.handled=L)(ht:s.heap.IsList t items)
  (hn:(assignEach elts env).length=items.size) (hstar:(assignEach elts env).findIdx? (·.1)=L)
  (h:∀ h',Heap.ExtBut s.heap.objs.size s.heap h'->aeG 1.4 A (assignInOrder ((assignEach elts env).map (·.2)) items.toList) Q E { s with heap:=h' }) :
  aeG 1.4 A (assign (.Tuple elts x1 pos) env (.ref t)) Q E s:=by
 have hlt:t≠s.heap.objs.size:=by obtain⟨o,ho,z⟩:=ht;exact aaI (aaq ho)
 rw[assign_Tuple];refine aab (abC ?_);unfold unpack;rw[hn,hstar];refine aab (abd ?_);unfold unpackItems;refine aab ?_;unfold notIterableAtAll;refine aab (wpAny_specialOf ht.typeIs slot_list_iter.lookup ?_);refine aat ?_;simp only[aaQ,abP];refine aab (abd (aco ht ?_))
 have ht0:(s.heap.push { cls:=.type "list_iterator",data:=.fields #[.ref t,.int 0 0] }).IsList t items:=by
  obtain⟨o,ho,r⟩:=ht;exact⟨o,aag _ ho,r⟩
 refine aab (abd (Cc hlt items.size 0 _ _ ⟨_,aaz _ rfl,rfl,rfl⟩ ht0 0.0 λh₁ hit₁ hs₁ ht₁=>?_))
 have hall:List.take items.size (List.drop 0 items.toList)=items.toList:=by
  rw[abM];exact abN 0.4
 rw[hall];rw[if_neg 0.4];refine aab (abd (aeb hh hit₁ ht₁ 0.4 λh₂ he₂=>?_));simp only[Option.isSome_none,aaQ,abP];exact aat (h h₂ λb o hb e=>he₂ b o hb (hs₁.extBut b o hb (aag _ e)))
end
end HT
namespace L2
def gLst(K:aeH)(n:Nat)(t:Ui):TG:=λv σ H Q=>∃ a xs,v=.ref a/\rZ K H a xs/\xs.length=n/\t xs σ H Q
theorem Zx{X:Cx}{k:Nat}{n:Nat}(hc:X.calm=true)(h:PGs X es t)
  (hn:(assignEach es X.env).length=n:=by rfl) (hst:(assignEach es X.env).findIdx? (·.1)=L:=by rfl):PG X 1.19 (gLst X.K n t):=by
 intro pins s σ H v u Q I r hw;obtain⟨a,xs,e1,hq,hl,hw⟩:=hw;subst e1;cases r;obtain⟨its,rv,ht,hz⟩:=I.list hq;refine HT.uE 8.3 ht.isList (by simp[hn,<- hl,rv.length]) hst λh' hx=>?_;have I1:Inv X pins σ H { s with heap:=h' }:=I.kept (t':=s.toks) λb o e=>hx b o (aaI (aaq e)) e;exact h pins _ σ H xs _ Q I1 (by simpa using rv) hw
end L2
namespace M
open L2
def nU(n:Nat)(gs:uH):MG:=λd env S=>match d with | .lst xs=>if xs.length=n then gs xs env S else L | d=>bo n gs d env S
theorem WV{X:Cx}{k n:Nat}(hc:X.calm=true)(h:YI X es gs)(hn:(assignEach es X.env).length=n:=by rfl)(hst:(assignEach es X.env).findIdx? (·.1)=L:=by rfl):DG X 1.19 (nU n gs):=
 λpins s σ H v u Q I r z0=>by
  obtain⟨μ,S,env,d,env',S',hS,hE,hr,hm,post⟩:=z0;cases d with
  | lst xs=>
   simp only[nU] at hm;split at hm
   ·rename_i hl;obtain⟨a,vs,rfl,q,z,r2⟩:=hr.sqL;exact Zx hc h hn hst pins s σ H _ u Q I r ⟨a,vs,rfl,.inl (.inl q),by rw[r2.length];exact hl,μ,S,env,xs,env',S',hS,hE,r2,hm,post⟩
   ·cases hm
  | _=>exact Kw hc h hn hst pins s σ H v u Q I r ⟨μ,S,env,_,env',S',hS,hE,hr,hm,post⟩
end M
namespace M
open L2
noncomputable abbrev MB:=bf->ac->Option (List D×bf×ac)
end M
namespace M
open L2
section
variable{X:Cx}{K:aeH}{μ:Fp}{H:Hp}{S:ac}
theorem rj(h:(match o with | .Call (.Name id _) [] [] _=>id != ("super":Str) | .Call _ _ _ _=>false | _=>true)=true):attributeBase o name env w=w:=by
 unfold attributeBase;split
 ·rename_i id _ _;have h':(id != ("super":Str))=true:=h;rw[h'];rfl
 ·rfl
end
end M
namespace M
open L2
section
variable{X:Cx}
theorem To:DE X (.Dict [] [] pos) (eM []):=PE.imp Fx λσ H Q z0=>by
 obtain⟨μ,S,env,d,S',hS,hE,hm,post⟩:=z0;cases hm;intro p hp;obtain⟨cs,fb⟩:=μ;have s2:=hS.more (o:=.dK []) hp;obtain⟨eF,sF,hF⟩:=Ext.shutR hp (hS.notMem hp).2 s2.ext s2 KR.nil;rw[show upd (upd H p (.dK [])) p (.dK [])=upd H p (.dK []) from funext λb=>by unfold upd;split<;>rfl] at eF sF;exact post _ _ _ eF sF (.ref (by rw[<- hS.len];simp))
end
end M
set_option hygiene false
local macro_rules|`($c:char)=>do let q:=Lean.quote (c.getChar.toNat%48);if c.getChar.toNat<96 then `(MI.af $q) else `(MI.aj $q)
local macro_rules|`($c:scientific)=>if c.getScientific.2.1 then Lean.Macro.throwUnsupported else `(MI.mC (.int $(Lean.quote c.getScientific.1)))
local macro_rules|`(!$s:str)=>`(MI.mC (.str $s))
local macro_rules|`(tactic|simp![$l,*])=>`(tactic|simp only[ob,ah,ai,bJ,oj,bQ,bR,be,ay,aF,aw,av,ar,aq,ao,ba,az,aJ,aQ,aE,aA,eD,aR,aN,fo,aO,bv,bA,bB,bX,bp,aU,bL,bO,bz,bC,$l,*])
set_option hygiene true
namespace MI
open L2 M
@[irreducible] noncomputable def mC(d:D):ME:=M.mC d
theorem yL{d:D}:mC d=M.mC d:=by unfold mC;rfl
@[irreducible] noncomputable def af(i:Nat):ME:=M.af i
theorem Lm:af i=M.af i:=by unfold af;rfl
@[irreducible] noncomputable def aB(f:ac->D->D->Option D)(a b:ME):ME:=M.aB f a b
theorem nh:aB f a b=M.aB f a b:=by unfold aB;rfl
@[irreducible] noncomputable def aI(m:ME):MT:=M.aI m
theorem yH:aI m=M.aI m:=by unfold aI;rfl
@[irreducible] noncomputable def dL(f g:ac->D->D->Option D)(a b c:ME):ME:=M.dL f g a b c
theorem vb:dL f g a b c=M.dL f g a b c:=by unfold dL;rfl
@[irreducible] noncomputable def dA(m:ME):MT:=M.dA m
theorem DH:dA m=M.dA m:=by unfold dA;rfl
@[irreducible] noncomputable def eg(a b:MT):MT:=M.eg a b
theorem yM:eg a b=M.eg a b:=by unfold eg;rfl
@[irreducible] noncomputable def fI(a b:MT):MT:=M.fI a b
theorem DJ:fI a b=M.fI a b:=by unfold fI;rfl
@[irreducible] noncomputable def cS(a:MT):MT:=M.cS a
theorem Gs:cS a=M.cS a:=by unfold cS;rfl
@[irreducible] noncomputable def eh(a b:ME):ME:=M.QS a b
theorem Lz:eh a b=M.QS a b:=by unfold eh;rfl
@[irreducible] noncomputable def wQ(a b:ME):ME:=M.ZY a b
theorem QK:wQ a b=M.ZY a b:=by unfold wQ;rfl
@[irreducible] noncomputable def jf(a:ME):ME:=M.QM a
theorem Gr:jf a=M.QM a:=by unfold jf;rfl
@[irreducible] noncomputable def qa(t:MT)(a b:ME):ME:=M.qa t a b
theorem QO:qa t a b=M.qa t a b:=by unfold qa;rfl
@[irreducible] noncomputable def ak:MA:=M.ak 
theorem DK  : ak  = M.ak  := by unfold ak;rfl
@[irreducible] noncomputable def aa(a:ME)(r:MA):MA:=M.aa a r
theorem GE:aa a r=M.aa a r:=by unfold aa;rfl
@[irreducible] noncomputable def bb(ms:MA):ME:=M.bb ms
theorem Ln:bb ms=M.bb ms:=by unfold bb;rfl
@[irreducible] noncomputable def eu(ms:MA):ME:=M.eu ms
theorem Ls:eu ms=M.eu ms:=by unfold eu;rfl
@[irreducible] noncomputable def gb(ms:MA):ME:=M.gb ms
theorem Gv:gb ms=M.gb ms:=by unfold gb;rfl
@[irreducible] noncomputable def AH(f:ac->D->Option D)(a:ME):ME:=M.AH f a
theorem QJ:AH f a=M.AH f a:=by unfold AH;rfl
@[irreducible] noncomputable def bD:MO:=M.bD 
theorem BA  : bD  = M.bD  := by unfold bD;rfl
@[irreducible] noncomputable def bS(m:ME):MO:=M.bS m
theorem Gp:bS m=M.bS m:=by unfold bS;rfl
@[irreducible] noncomputable def bw(a:ME)(lo hi:MO):ME:=M.bw a lo hi
theorem Bz{lo:MO}:bw a lo hi=M.bw a lo hi:=by unfold bw;rfl
@[irreducible] noncomputable def bG(f:List D->ac->Option (D×ac))(ms:MA):ME:=M.bG f ms
theorem iz:bG f ms=M.bG f ms:=by unfold bG;rfl
@[irreducible] noncomputable def iw(T:String)(m:ME):ME:=M.iw T m
theorem Lu:iw T m=M.iw T m:=by unfold iw;rfl
@[irreducible] noncomputable def au(n:Nat)(f:List D->ac->Option (D×ac))(ms:MA):ME:=M.au n f ms
theorem vc:au n f ms=M.au n f ms:=by unfold au;rfl
@[irreducible] noncomputable def bq:MS:=M.bq 
theorem pZ  : bq  = M.bq  := by unfold bq;rfl
@[irreducible] noncomputable def aM(a b:MS):MS:=M.aM a b
theorem Lo:aM a b=M.aM a b:=by unfold aM;rfl
@[irreducible] noncomputable def bu(m:ME):MS:=M.bu m
theorem Lp:bu m=M.bu m:=by unfold bu;rfl
@[irreducible] noncomputable def gd(m:ME):MS:=M.gd m
theorem Gz:gd m=M.gd m:=by unfold gd;rfl
@[irreducible] noncomputable def cr(t:MT)(a b:MS):MS:=M.cr t a b
theorem Lv:cr t a b=M.cr t a b:=by unfold cr;rfl
@[irreducible] noncomputable def aj(i:Nat):MG:=M.aj i
theorem qU:aj i=M.aj i:=by unfold aj;rfl
@[irreducible] noncomputable def aZ:uH:=M.aZ 
theorem Hi  : aZ  = M.aZ  := by unfold aZ;rfl
@[irreducible] noncomputable def ag(g:MG)(gs:uH):uH:=M.ag g gs
theorem BU:ag g gs=M.ag g gs:=by unfold ag;rfl
@[irreducible] noncomputable def bo(n:Nat)(gs:uH):MG:=M.bo n gs
theorem nV:bo n gs=M.bo n gs:=by unfold bo;rfl
@[irreducible] noncomputable def il(o i:ME):MG:=M.il o i
theorem Hh:il o i=M.il o i:=by unfold il;rfl
@[irreducible] noncomputable def mj(f:MF)(o:ME)(ms:MA):ME:=M.mj f o ms
theorem BB:mj f o ms=M.mj f o ms:=by unfold mj;rfl
@[irreducible] noncomputable def aV(m:ME)(g:MG):MS:=M.aV m g
theorem kD:aV m g=M.aV m g:=by unfold aV;rfl
@[irreducible] noncomputable def cB(ms:MA):MA:=M.cB ms
theorem sv:cB ms=M.cB ms:=by unfold cB;rfl
@[irreducible] noncomputable def mQ(mi:MA)(g:MG)(body:MS):MS:=M.mQ mi g body
theorem Lw:mQ mi g body=M.mQ mi g body:=by unfold mQ;rfl
@[irreducible] noncomputable def bZ(mi:MA)(g:MG)(t:MT)(e:ME)(cap:List 5.9):ME:=M.bZ mi g t e cap
theorem yK:bZ mi g t e cap=M.bZ mi g t e cap:=by unfold bZ;rfl
@[irreducible] noncomputable def di(m:ME):MA:=M.di m
theorem xy:di m=M.di m:=by unfold di;rfl
@[irreducible] noncomputable def bK:MT:=M.bK 
theorem Go  : bK  = M.bK  := by unfold bK;rfl
@[irreducible] noncomputable def gi(f:MF)(o:ME)(ms:MA):ME:=M.gi f o ms
theorem Gu:gi f o ms=M.gi f o ms:=by unfold gi;rfl
@[irreducible] noncomputable def gk(ms:MA):MA:=M.gk ms
theorem Gy:gk ms=M.gk ms:=by unfold gk;rfl
@[irreducible] noncomputable def nN(i j:Nat)(ms:MA):MS:=M.nN i j ms
theorem Lq:nN i j ms=M.nN i j ms:=by unfold nN;rfl
@[irreducible] noncomputable def mn(o:ME)(ms:MA):ME:=M.mn o ms
theorem Ly:mn o ms=M.mn o ms:=by unfold mn;rfl
@[irreducible] noncomputable def ik(ms:List (ME×ME)):ME:=M.ik ms
theorem GB:ik ms=M.ik ms:=by unfold ik;rfl
@[irreducible] noncomputable def eM(ms:List (ME×ME)):ME:=M.eM ms
theorem uY:eM ms=M.eM ms:=by unfold eM;rfl
@[irreducible] noncomputable def eY(f:MF)(o:ME)(ms:MA):ME:=M.eY f o ms
theorem BC:eY f o ms=M.eY f o ms:=by unfold eY;rfl
@[irreducible] noncomputable def gc(m:ME)(g:MG)(body:MS):MS:=M.gc m g body
theorem Gx:gc m g body=M.gc m g body:=by unfold gc;rfl
@[irreducible] noncomputable def fV(ms:MA):ME:=M.fV ms
theorem BD:fV ms=M.fV ms:=by unfold fV;rfl
@[irreducible] noncomputable def fU(t:MT)(body:MS):MS:=M.fU t body
theorem Bx:fU t body=M.fU t body:=by unfold fU;rfl
@[irreducible] noncomputable def eL(l:List (cj×D))(a:ME):ME:=M.eL l a
theorem By:eL l a=M.eL l a:=by unfold eL;rfl
@[irreducible] noncomputable def dZ(mi:MA)(g:MG)(t:MT)(mi2:MA)(g2:MG)(t2:MT)(e:ME)(cap:List 5.9):ME:=M.dZ mi g t mi2 g2 t2 e cap
theorem uZ:dZ mi g t mi2 g2 t2 e cap=M.dZ mi g t mi2 g2 t2 e cap:=by unfold dZ;rfl
@[irreducible] noncomputable def kK(l:List (cj×Nat×(List D->ac->Option (D×ac))))(i:Nat)(mi:ME)(ms:MA):MS:=M.kK l i mi ms
theorem GA:kK l i mi ms=M.kK l i mi ms:=by unfold kK;rfl
@[irreducible] noncomputable def nU(n:Nat)(gs:uH):MG:=M.nU n gs
theorem Hg:nU n gs=M.nU n gs:=by unfold nU;rfl
theorem Jz:au 0 f ak=M.au 0 f M.ak:=by rw[vc,DK]
theorem Jt:aI (aB f a b)=M.aI (M.aB f a b):=by rw[yH,nh]
theorem Ju:aI (dL f g a b c)=M.aI (M.dL f g a b c):=by rw[yH,vb]
theorem sx:aV m (aj i)=M.aV m (M.aj i):=by rw[kD,qU]
theorem GH:aV (bZ mi g t e cap) (aj i)=M.aV (M.bZ mi g t e cap) (M.aj i):=by rw[kD,qU,yK]
theorem DM:aV (dZ mi g t mi2 g2 t2 e cap) (aj i)=M.aV (M.dZ mi g t mi2 g2 t2 e cap) (M.aj i):=by rw[kD,qU,uZ]
section
variable{X:Cx}{e:tx}{es:List tx}{s:QP}{ss:List QP}
theorem cG{m m':ME}(h:m=m')(d:DE X e m'):DE X e m:=by rw[h];exact d
theorem HM{m m':MT}(h:m=m')(d:DT X e m'):DT X e m:=by rw[h];exact d
theorem Mf{m m':MT}(h:m=m')(d:DW X e m'):DW X e m:=by rw[h];exact d
theorem YB{m m':MA}(h:m=m')(d:DA X es m'):DA X es m:=by rw[h];exact d
theorem YA{m m':MO}(h:m=m')(d:DO X o m'):DO X o m:=by rw[h];exact d
theorem Cn{m m':MG}(h:m=m')(d:DG X e m'):DG X e m:=by rw[h];exact d
theorem TH{m m':uH}(h:m=m')(d:YI X es m'):YI X es m:=by rw[h];exact d
theorem Mg{m m':MA}(h:m=m')(d:DI X tg e m'):DI X tg e m:=by rw[h];exact d
theorem TF{m m':MA}(h:m=m')(d:YH X tg e m'):YH X tg e m:=by rw[h];exact d
theorem qbG{m m':MT}(h:m=m')(d:OT X es m'):OT X es m:=by rw[h];exact d
theorem lC{m m':MS}(h:m=m')(d:DS X s m'):DS X s m:=by rw[h];exact d
theorem Ky{m m':MS}(h:m=m')(d:AU X ss m'):AU X ss m:=by rw[h];exact d
end
inductive GI where
 | fn (n:Nat) (f:List D->ac->Option (D×ac))
 | con (d:D)
 | blt
 | tab (l:List (cj×D))
 | ftab (l:List (cj×Nat×(List D->ac->Option (D×ac))))
 | thr (f:Str) (n:Nat) (fy:List D->ac->Option RY) (C:td) (fl:Str)
 | hnd (C:td)
 | rse (C:td) (fl:Str)
structure CI where
 N:List Str
 sc:Scope
 all:Bool
 gs:List 0.8
 mt:List Nat
 nx:Bool
def GOk(X:Cx)(k:Nat)(x:Str):GI->Prop
 | .fn n f=>Fn X.prog X.w X.K X.mg X.base k x n f
 | .con d=>GC X.K X.mg x d
 | .blt=>X.mg x=L
 | .tab l=>zO X.w X.K X.mg x l
 | .ftab l=>FTab X.prog X.w X.K X.mg X.base k x l
 | .thr f n fy C fl=>FnY X.prog X.w X.K X.mg X.base k f n fy C fl
 | .hnd C=>HW X.K X.mg x C
 | .rse C fl=>2<=k/\HU X.prog X.w X.K X.mg X.base x C fl
structure NX(X:Cx):Prop where
 xe:X.xe=λ_ _=>False
 hs:X.stack=X.env::X.outer
 hfm:X.env.frame=Y X.env.locals
 hex:X.ex=[]
structure jK(k:Nat)(c:CI)(X:Cx):Prop where
 N:X.N=c.N
 nd:c.N.Nodup
 sc:X.env.scope=c.sc
 fk:c.sc.kind=.function
 fn:c.all=true->∀ x,X.fn x=true
 calm:X.calm=true
 room:Room k X.A
 xe:PassesOwn 0.3 X.A X.env X.xe
 xf:c.nx=true->NX X
 gs:∀ p∈c.gs,GOk X k p.1 p.2
def kJ:ME:=λz z=>L
def AI:MT:=λz z=>L
def im:MS:=λz z=>L
def tP:MA:=λz z=>L
def RH:MG:=λz z z=>L
section
variable{X:Cx}{k:Nat}{c:CI}{e:tx}{pos:Pos}
theorem cM:DE X e kJ:=λ_ _ _ _ _ _ ⟨_,_,_,_,_,_,_,h,_⟩=>by cases h
theorem uw:DT X e AI:=λ_ _ _ _ _ _ ⟨_,_,_,_,_,_,_,h,_⟩=>by cases h
theorem gz{s:QP}:DS X s im:=λ_ _ _ _ _ _ ⟨_,_,_,_,_,_,h,_⟩=>by cases h
theorem HD{s:QP}:DS X s (aV kJ g):=by
 rw[show aV kJ g=im from by rw[kD];rfl];exact gz
theorem da_no:DA X es tP:=λ_ _ _ _ _ _ _ ⟨_,_,_,_,_,_,_,h,_⟩=>by cases h
theorem zD:DI X tg e tP:=λ_ _ _ _ _ _ ⟨_,_,_,_,_,_,_,h,_⟩=>by cases h
theorem Cg:DG X e RH:=λ_ _ _ _ _ _ _ _ _ ⟨_,_,_,_,_,_,_,_,_,h,_⟩=>by cases h
def qe(x:Str):List Str->Option Nat
 | []=>L
 | y::r=>if x==y then Y 0 else(qe x r).map (· + 1)
theorem dI:∀ {l:List Str} {i:Nat},qe x l=Y i->l[i]?=Y x
 | y::r,i,h=>by
  unfold qe at h;split at h
  ·rename_i e;cases h;simp at e;simp[e]
  ·cases q:qe x r with
   | none=>rw[q] at h;cases h
   | some j=>rw[q] at h;cases h;simpa using dI q
def ge(x:Str):Bool:=!(x==("__debug__":Str))&&!(x==("__classdict__":Str))&&!(x==("__name__":Str))
theorem cQ(h:ge x=true):(x==("__debug__":Str))=false:=by
 unfold ge at h;rw[aad,aad] at h;simpa only[Bool.not_eq_true'] using h.1.1
theorem FH(h:ge x=true):(x==("__classdict__":Str))=false:=by
 unfold ge at h;rw[aad,aad] at h;simpa only[Bool.not_eq_true'] using h.1.2
theorem iu(h:ge x=true):x≠"__name__":=by
 unfold ge at h;rw[aad,aad] at h;have:=h.2;rw[Bool.not_eq_true'] at this;intro z;rw[z] at this;simp at this
def Ue(c:CI)(x:Str):Option GI:=match c.sc.names.lookup x with | some .globalImplicit=>if ge x then c.gs.lookup x else L | _=>L
theorem jr(C:jK k c X)(h:Ue c x=Y g):Gl X x/\ge x=true/\GOk X k x g:=by
 unfold Ue at h;split at h
 ·rename_i e;split at h
  ·rename_i o;refine⟨?_,o,C.gs _ (aby h)⟩;show X.env.scope.names.lookup x=_;rw[C.sc,e]
  ·cases h
 ·cases h
def Ke(c:CI)(x:Str):ME:=match c.sc.names.lookup x with
 | some .globalImplicit=>match Ue c x with | some (.con d)=>mC d | _=>kJ
 | some .local=>match qe x c.N with | some i=>if ge x then af i else kJ | none=>kJ
 | some .cell=>match qe x c.N with | some i=>if ge x then af i else kJ | none=>kJ
 | some .free=>match qe x c.N with | some i=>if ge x then af i else kJ | none=>kJ
 | _=>kJ
theorem sI(C:jK k c X)(hv:Xz c.sc x):DE X 6.6 (match qe x c.N with | some i=>if ge x then af i else kJ | none=>kJ):=by
 split
 ·rename_i i e;split
  ·rename_i o;exact cG Lm <| M.qbp (by rw[C.N];exact dI e) (by rw[C.sc];exact hv) (cQ o) (FH o)
  ·exact cM
 ·exact cM
theorem NW(C:jK k c X)(x:Str):DE X 6.6 (Ke c x):=by
 unfold Ke;split
 ·split
  ·rename_i d e;obtain⟨g,o,G⟩:=jr C e;exact cG yL <| M.Xa G g (cQ o)
  ·exact cM
 ·rename_i e;exact sI C (.inl e)
 ·rename_i e;exact sI C (.inr (.inl e))
 ·rename_i e;exact sI C (.inr (.inr e))
 ·exact cM
def LV:Const->ME
 | .int i=>mC (.int i)
 | .bool b=>mC (.bl b)
 | .none=>mC .non
 | .str x=>mC (.str x)
 | _=>kJ
theorem Kh(v:Const):DE X (.Constant v j pos) (LV v):=by
 cases v<;>first | exact cG yL <| M.qbw | exact cG yL <| M.Yv | exact cG yL <| M.qbt | exact cG yL <| M.qbr | exact cM
def Su(z y:Bool)(op:Operator)(a b:ME):ME:=match op with
 | .Add=>aB aH a b
 | .Sub=>aB pz a b
 | .Mult=>aB dg a b
 | .Mod=>aB kR a b
 | .FloorDiv=>aB NT a b
 | .Pow=>aB AL a b
 | _=>kJ
theorem Ss{mb:ME}(ha:DE X a ma)(hb:DE X b mb):DE X 2.55 (Su z y op ma mb):=by
 cases op<;>first | exact cM | skip
 ·exact cG nh <| M.Ch Vr ha hb
 ·exact cG nh <| M.Ch ZM ha hb
 ·exact cG nh <| M.Ch Vq ha hb
 ·exact cG nh <| M.Ch ZP ha hb
 ·exact cG nh <| M.Ch ZN ha hb
 ·exact cG nh <| M.Ch ZQ ha hb
def evUn(op:UnaryOp)(a:ME):ME:=match op with
 | .Not=>jf a
 | .USub=>AH JW a
 | _=>kJ
theorem Ww(ha:DE X a ma):DE X 2.53 (evUn op ma):=by
 cases op<;>first | exact cM | skip
 ·exact cG Gr <| M.WX ha
 ·exact cG QJ <| M.de_un Up ha
def cmpF:CmpOp->Option (ac->D->D->Option D)
 | .Eq=>Y cJ
 | .NotEq=>Y jx
 | .Lt=>Y Uf
 | .LtE=>Y Ug
 | .Gt=>Y Uh
 | .GtE=>Y fGe
 | .In=>Y nv
 | .NotIn=>Y vn
 | .Is=>Y AM
 | .IsNot=>Y vq
theorem Xi(r:Room k X.A)(h:cmpF op=Y f):OpR X (ZZ op) 1.87:=by
 cases op<;>cases h
 ·exact op_Eq r.units
 ·exact op_Ne r.units
 ·exact op_Lt
 ·exact op_Le
 ·exact op_Gt
 ·exact op_Ge
 ·exact op_Is
 ·exact Qu
 ·exact op_In r.units
 ·exact Qt r.units
def wz(z y:Bool)(op:CmpOp):Option (ac->D->D->Option D):=cmpF op
theorem on(r:Room k X.A)(h:wz z y op=Y f):OpR X (ZZ op) 1.87:=by
 unfold wz at h;exact Xi r h
def jU:tx->Bool
 | .Set _ _ _=>false
 | _=>true
theorem lE(h:jU e=true):behindInMarks op e=false:=by cases e<;>first | rfl | cases h
theorem gf(h:jU e=true)(x:ce):XM e X.env x=pure x:=by cases e<;>first | rfl | cases h
def Sr(c:CI)(E:CI->tx->ME)(a:tx)(ops:List CmpOp)(bs:List tx):ME:=match ops,bs with
 | [op],[b]=>if jU b then(match wz 8.6 8.5 op with | some f=>aB f (E c a) (E c b) | none=>kJ) else kJ
 | [op,op'],[b,d]=>if jU d then(match wz 8.6 8.5 op,wz 8.6 8.5 op' with | some f,Y g=>dL f g (E c a) (E c b) (E c d) | _,_=>kJ) else kJ
 | _,_=>kJ
def Ki(c:CI)(E:CI->tx->ME)(a:tx)(ops:List CmpOp)(bs:List tx):MT:=match ops,bs with
 | [op],[b]=>if jU b then(match wz 8.6 8.5 op with | some f=>aI (aB f (E c a) (E c b)) | none=>AI) else AI
 | [op,op'],[b,d]=>if jU d then(match wz 8.6 8.5 op,wz 8.6 8.5 op' with | some f,Y g=>aI (dL f g (E c a) (E c b) (E c d)) | _,_=>AI) else AI
 | _,_=>AI
section
variable{E:CI->tx->ME}{T:CI->tx->MT}
theorem Sq(C:jK k c X)(hE:∀ e,DE X e (E c e)){bs:List tx}:DE X (.Compare a ops bs pos) (Sr c E a ops bs):=by
 unfold Sr;split
 ·split
  ·rename_i hm;split
   ·rename_i f h;exact cG nh <| M.qby (on C.room h) (hE _) (hE _) (lE hm)
   ·exact cM
  ·exact cM
 ·split
  ·rename_i hm;split
   ·rename_i f g h1 h2;exact cG vb <| M.Tr (on C.room h1) (on C.room h2) (hE _) (hE _) (hE _) (lE hm)
   ·exact cM
  ·exact cM
 ·exact cM
theorem Ob(C:jK k c X)(hE:∀ e,DE X e (E c e)){bs:List tx}:DT X (.Compare a ops bs pos) (Ki c E a ops bs):=by
 unfold Ki;split
 ·split
  ·rename_i hm;split
   ·rename_i f h;exact HM Jt <| M.qbi (on C.room h) (hE _) (hE _) (lE hm)
   ·exact uw
  ·exact uw
 ·split
  ·rename_i hm;split
   ·rename_i f g h1 h2;exact HM Ju <| M.SM (on C.room h1) (on C.room h2) (hE _) (hE _) (hE _) (lE hm)
   ·exact uw
  ·exact uw
 ·exact uw
def Hn(f:ME->ME->ME):List ME->ME
 | []=>kJ
 | [m]=>m
 | m::r=>f m (Hn f r)
def zo(f:MT->MT->MT):List MT->MT
 | []=>AI
 | [m]=>m
 | m::r=>f m (zo f r)
theorem BX{E:tx->ME}(hE:∀ e,DE X e (E e)):∀ vs:List tx,DE X 2.26 (Hn eh 2.27)
 | []=>cM
 | [e]=>Tk (hE e)
 | e::e'::r=>cG Lz <| M.Xf (hE e) (BX hE (e'::r))
theorem Hm{E:tx->ME}(hE:∀ e,DE X e (E e)):∀ vs:List tx,DE X 2.45 (Hn wQ 2.27)
 | []=>cM
 | [e]=>Tk (hE e)
 | e::e'::r=>cG QK <| M.qbs (hE e) (Hm hE (e'::r))
theorem NN{E:tx->MT}(hE:∀ e,DT X e (E e)):∀ vs:List tx,DT X 2.26 (zo eg 2.27)
 | []=>uw
 | [e]=>WH (LY (hE e))
 | e::e'::r=>WH (Mf yM <| M.SK (hE e) (foldT_andW hE (e'::r) 0.4))
where foldT_andW {E:tx->MT} (hE:∀ e,DT X e (E e)):∀ vs:List tx,vs≠[]->DW X 2.26 (zo eg 2.27)
 | [],h=>absurd rfl h
 | [e],_=>LY (hE e)
 | e::e'::r,_=>Mf yM <| M.SK (hE e) (foldT_andW hE (e'::r) 0.4)
theorem RJ{E:tx->MT}(hE:∀ e,DT X e (E e)):∀ vs:List tx,DT X 2.45 (zo fI 2.27)
 | []=>uw
 | [e]=>WH (SJ (hE e))
 | e::e'::r=>WH (Mf DJ <| M.Yt (hE e) (foldT_orW hE (e'::r) 0.4))
where foldT_orW {E:tx->MT} (hE:∀ e,DT X e (E e)):∀ vs:List tx,vs≠[]->DW X 2.45 (zo fI 2.27)
 | [],h=>absurd rfl h
 | [e],_=>SJ (hE e)
 | e::e'::r,_=>Mf DJ <| M.Yt (hE e) (foldT_orW hE (e'::r) 0.4)
def cW:tx->Bool
 | .Starred _ _=>false
 | _=>true
theorem cH{es:List tx}(h:cW e=true):Wj (e::es) X.env=1.2::Wj es X.env:=by cases e<;>first | rfl | cases h
theorem gI:∀ {es:List tx},es.all cW=true->(backTo pos 2.1).any (·.1)=false
 | [],_=>rfl
 | e::es,h=>by
  rw[abe,aad] at h;rw[cH h.1];show(false||(backTo pos 2.1).any (·.1))=false;rw[gI h.2];rfl
def AQ(E:tx->ME):List tx->MA
 | []=>ak
 | e::r=>if cW e then aa (E e) (AQ E r) else tP
theorem gy{E:tx->ME}(hE:∀ e,DE X e (E e)):∀ es:List tx,DA X es (AQ E es)
 | []=>YB DK <| M.qbA
 | e::r=>by
  unfold AQ;split
  ·rename_i h;exact YB GE <| M.Xh (hE e) (gy hE r) (cH h)
  ·exact da_no
def evO(E:tx->ME):Option tx->MO
 | none=>bD
 | some e=>bS (E e)
theorem Sk{E:tx->ME}(hE:∀ e,DE X e (E e)):∀ o:Option tx,DO X o (evO E o)
 | none=>YA BA <| M.WR
 | some e=>YA Gp <| M.WQ (hE e)
def EW(c:CI):tx->Option (List (cj×D))
 | .Name x _=>match Ue c x with | some (.tab l)=>Y l | _=>L
 | _=>L
theorem Ij(C:jK k c X)(h:EW c a=Y l):∃ x p,a=.Name x p/\Gl X x/\ge x=true/\zO X.w X.K X.mg x l:=by
 unfold EW at h;split at h
 ·split at h
  ·rename_i e;cases h;obtain⟨g,o,G⟩:=jr C e;exact⟨_,_,rfl,g,o,G⟩
  ·cases h
 ·cases h
def Yo(c:CI)(E:tx->ME)(a i:tx):ME:=match i with
 | .Slice lo hi st _=>match st with | none=>bw (E a) (evO E lo) (evO E hi) | some st=>(match lo,hi with | none,L=>kJ | _,_=>kJ)
 | i=>match EW c a with | some l=>eL l (E i) | none=>aB aD (E a) (E i)
theorem NV(C:jK k c X){E:tx->ME}(hE:∀ e,DE X e (E e))(a i:tx)(hs:rp i:=by intro z z;rfl):DE X (.Subscript a i pos) (match EW c a with | some l=>eL l (E i) | none=>aB aD (E a) (E i)):=by
 cases ht:EW c a with
 | none=>
  dsimp only;exact cG nh <| M.qbv (by have:=C.room.units;omega) (hE a) (hE _) hs
 | some l=>
  obtain⟨x,p,rfl,g,o,G⟩:=Ij C ht;exact cG By (M.Th G g (cQ o) (hE _) hs)
theorem Si(C:jK k c X){E:tx->ME}(hE:∀ e,DE X e (E e))(a i:tx):DE X (.Subscript a i pos) (Yo c E a i):=by
 cases i with
 | Slice lo hi st p=>
  cases st with
  | none=>
   show DE X _ (bw (E a) (evO E lo) (evO E hi));exact cG Bz <| M.Tj (hE a) (Sk hE lo) (Sk hE hi)
  | some st=>
   cases lo with
   | none=>
    cases hi with
    | none=>
     show DE X _ kJ;exact cM
    | some _=>exact cM
   | some _=>exact cM
 | _=>exact NV C hE a _
def oN:tx->Option Str
 | .Name x _=>Y x
 | _=>L
theorem gh(h:oN e=Y x):∃ p,e=.Name x p:=by cases e<;>cases h;exact⟨_,rfl⟩
def oW:tx->Option (Str×List tx)
 | .Call f es [] _=>(oN f).map λx=>(x,es)
 | _=>L
theorem gA{x:Str}{es:List tx}(h:oW e=Y (x,es)):∃ p p2,e=.Call 7.2 es [] p2:=by
 cases e with
 | Call f es' ks p2=>
  cases ks with
  | nil=>
   obtain⟨y,h1,h2⟩:=adW.mp h;cases h2;obtain⟨p,rfl⟩:=gh h1;exact⟨p,p2,rfl⟩
  | cons _ _=>cases h
 | _=>cases h
def qg(c:CI)(x:Str):Bool:=match Ue c x with | some .blt=>true | _=>false
theorem nQ(C:jK k c X)(h:qg c x=true):X.mg x=L/\Gl X x/\ge x=true:=by
 unfold qg at h;split at h
 ·rename_i e;obtain⟨a,b,d⟩:=jr C e;exact⟨d,a,b⟩
 ·cases h
def Iu(c:CI)(es:List tx):Option tx:=match es with
 | [e1]=>match oW e1 with
  | some (y,[a])=>if y=="set"&&qg c y&&cW a then Y a else L
  | _=>L
 | _=>L
theorem Fd(h:Iu c es=Y a):∃ p p2,es=[.Call (.Name "set" p) [a] [] p2]/\qg c "set" = true/\cW a=true:=by
 unfold Iu at h;split at h
 ·split at h
  ·rename_i hc;split at h
   ·rename_i hb;cases h;rw[aad,aad] at hb;obtain⟨p,p2,rfl⟩:=gA hc;have z:=hb.1.1;rw[beq_iff_eq] at z;subst z;exact⟨p,p2,rfl,hb.1.2,hb.2⟩
   ·cases h
  ·cases h
 ·cases h
def xY(c:CI)(es:List tx):Option tx:=match es with
 | [e1]=>match oW e1 with
  | some (y,[a])=>if y=="range"&&qg c y&&cW a then Y a else L
  | _=>L
 | _=>L
theorem Ah(h:xY c es=Y a):∃ p p2,es=[.Call (.Name "range" p) [a] [] p2]/\qg c "range" = true/\cW a=true:=by
 unfold xY at h;split at h
 ·split at h
  ·rename_i hc;split at h
   ·rename_i hb;cases h;rw[aad,aad] at hb;obtain⟨p,p2,rfl⟩:=gA hc;have z:=hb.1.1;rw[beq_iff_eq] at z;subst z;exact⟨p,p2,rfl,hb.1.2,hb.2⟩
   ·cases h
  ·cases h
 ·cases h
def bltG(z y:Bool)(x:Str):Option (List D->ac->Option (D×ac)):=
 if x=="str" then Y (aS ur) else L
def qbL(z y n g h:Bool)(x:Str):Option (List D->ac->Option (D×ac)):=
 if x=="len" then Y (aS fJ) else if x=="int" then Y (aS oh) else if x=="max" then Y (aS qq) else if x=="min" then Y (aS LM)
 else if x=="list" then Y 1.83 else if x=="tuple" then Y 3.2 else if x=="all" then Y (aS sH) else if x=="any" then Y (aS Ka) else bltG z y x
set_option maxHeartbeats 800000 in
theorem Xp{es:List tx}(C:jK k c X)(h:qbL zz yy nn gg hh x=Y f)(hm:X.mg x=L)(hg:Gl X x)(o:ge x=true)(hs:(e::es).all cW=true)(ha:DA X (e::es) ms) :
  DE X (.Call 7.2 (e::es) [] pos) (bG f ms):=by
 rw[abe,aad] at hs;have q1:=cH (X:=X) (es:=es) hs.1;have q2:=gI (X:=X) (pos:=pos) hs.2;unfold qbL at h;split at h
 ·rename_i z;cases h;rw[beq_iff_eq] at z;subst z;exact cG iz <| M.qy TK hm boot_len ha hg (iu o) (cQ o) q1 q2
 split at h
 ·rename_i z;cases h;rw[beq_iff_eq] at z;subst z;exact cG iz <| M.qZ TL hm boot_int ha hg (iu o) (cQ o) q1 q2
 split at h
 ·rename_i z;cases h;rw[beq_iff_eq] at z;subst z;exact cG iz <| M.qy (OF C.calm) hm boot_max ha hg (iu o) (cQ o) q1 q2
 split at h
 ·rename_i z;cases h;rw[beq_iff_eq] at z;subst z;exact cG iz <| M.qy (OE C.calm) hm boot_min ha hg (iu o) (cQ o) q1 q2
 split at h
 ·rename_i z;cases h;rw[beq_iff_eq] at z;subst z;exact cG iz <| M.qZ OH hm boot_list ha hg (iu o) (cQ o) q1 q2
 split at h
 ·rename_i z;cases h;rw[beq_iff_eq] at z;subst z;exact cG iz <| M.qZ KB hm boot_tuple ha hg (iu o) (cQ o) q1 q2
 split at h
 ·rename_i z;cases h;rw[beq_iff_eq] at z;subst z;exact cG iz <| M.qy (TN C.calm) hm boot_all ha hg (iu o) (cQ o) q1 q2
 split at h
 ·rename_i z;cases h;rw[beq_iff_eq] at z;subst z;exact cG iz <| M.qy (TM C.calm) hm boot_any ha hg (iu o) (cQ o) q1 q2
 unfold bltG at h;split at h
 ·rename_i z;cases h;rw[beq_iff_eq] at z;subst z;exact cG iz <| M.qZ TJ hm boot_str ha hg (iu o) (cQ o) q1 q2
 cases h
def YT(x:Str):Option String:=if x=="int" then Y "int" else if x=="bool" then Y "bool" else if x=="str" then Y "str" else if x=="tuple" then Y "tuple" else if x=="list" then Y "list" else if x=="dict" then Y "dict" else L
theorem KP{T:String}(h:YT x=Y T):bootBuiltins x=Y 1.95/\(T = "int"\/T = "bool"\/T = "str"\/T = "tuple"\/T = "list"\/T = "dict"):=by
 unfold YT at h;split at h
 ·rename_i z;cases h;rw[beq_iff_eq] at z;subst z;exact⟨boot_int,by simp⟩
 split at h
 ·rename_i z;cases h;rw[beq_iff_eq] at z;subst z;exact⟨boot_bool,by simp⟩
 split at h
 ·rename_i z;cases h;rw[beq_iff_eq] at z;subst z;exact⟨boot_str,by simp⟩
 split at h
 ·rename_i z;cases h;rw[beq_iff_eq] at z;subst z;exact⟨boot_tuple,by simp⟩
 split at h
 ·rename_i z;cases h;rw[beq_iff_eq] at z;subst z;exact⟨boot_list,by simp⟩
 split at h
 ·rename_i z;cases h;rw[beq_iff_eq] at z;subst z;exact⟨boot_dict,by simp⟩
 cases h
def Yp(c:CI)(E:tx->ME):List tx->ME
 | [a,t]=>match oN t with
  | some y=>match Ue c y,YT y with | some .blt,Y T=>if cW a then iw T (E a) else kJ | _,_=>kJ
  | none=>kJ
 | _=>kJ
def Eo(c:CI)(E:tx->ME)(x:Str)(es:List tx):ME:=match Ue c x with
 | some (.fn n f)=>match es with
  | []=>if n==0 then au 0 f ak else kJ
  | e::r=>if (e::r).all cW then au n f (AQ E (e::r)) else kJ
 | some .blt=>if x=="isinstance" then Yp c E es else match (if x=="len" then Iu c es else L) with
  | some a=>kJ
  | none=>match (if x=="list" then xY c es else L) with
  | some a=>fV (AQ E [a])
  | none=>match qbL (c.mt.contains 400000) (c.mt.contains 950000) (c.mt.contains 960000) (c.mt.contains 993000) (c.mt.contains 995000) x,es with
   | some f,e::r=>if (e::r).all cW then bG f (AQ E (e::r)) else kJ
   | _,_=>kJ
 | _=>kJ
theorem Oc(C:jK k c X){E:tx->ME}(hE:∀ e,DE X e (E e)):DE X (.Call 7.2 es [] pos) (Eo c E x es):=by
 unfold Eo;split
 ·rename_i n f hg;obtain⟨g,o,G⟩:=jr C hg;split
  ·split
   ·rename_i hn;have:n=0:=by simpa using hn
    subst this;exact cG Jz <| M.Ts G C.room g (cQ o)
   ·exact cM
  ·split
   ·rename_i hs;have hs':=hs;rw[abe,aad] at hs;exact cG vc <| M.Xe G C.room 1.23 g (cQ o) (cH hs.1) (gI hs.2)
   ·exact cM
 ·rename_i hg;obtain⟨g,o,G⟩:=jr C hg;split
  ·rename_i z;rw[beq_iff_eq] at z;subst z;unfold Yp;split
   ·split
    ·rename_i y hy;obtain⟨p2,rfl⟩:=gh hy;split
     ·rename_i T h1 h2;obtain⟨g',o',G'⟩:=jr C h1;split
      ·rename_i hs;exact cG Lu <| M.Oo G G' (KP h2).1 (hE _) (KP h2).2 g g' (iu o') (cQ o') (cH hs) rfl rfl
      ·exact cM
     ·exact cM
    ·exact cM
   ·exact cM
  ·split
   ·rename_i a ha;split at ha
    ·rename_i z;rw[beq_iff_eq] at z;subst z;obtain⟨p3,p4,rfl,hb,hs⟩:=Fd ha;obtain⟨m2,g2,o2⟩:=nQ C hb;exact cM
    ·cases ha
   ·split
    ·rename_i a ha;split at ha
     ·rename_i z;rw[beq_iff_eq] at z;subst z;obtain⟨p3,p4,rfl,hb,hs⟩:=Ah ha;obtain⟨m2,g2,o2⟩:=nQ C hb;exact cG BD (M.Tn C.calm G m2 g g2 1.23 (cH hs))
     ·cases ha
    ·split
     ·rename_i _ f e r hf;split
      ·rename_i hs;exact Xp C (by assumption) G g o hs 1.23
      ·exact cM
     ·exact cM
 ·exact cM
def KD:tx->Option (tx×Str×Pos)
 | .Attribute o nm ap=>Y (o,nm,ap)
 | _=>L
theorem HR{o:tx}{nm:Str}{ap:Pos}(h:KD e=Y (o,nm,ap)):e=.Attribute o nm ap:=by cases e<;>cases h;rfl
def QC(x:Str):Option MF:=if x=="append" then Y eQ else if x=="count" then Y qW else if x=="index" then Y qt else L
theorem QB(C:jK k c X)(h:QC x=Y f):∃ id,Slot "list" x id/\typeOf 6.1=pure (.type "method_descriptor")/\MtR X id (PR X.K f):=by
 unfold QC at h;split at h
 ·rename_i z;cases h;rw[beq_iff_eq] at z;subst z;exact⟨_,aeA,F.type_list_append,Ni⟩
 split at h
 ·rename_i z;cases h;rw[beq_iff_eq] at z;subst z;exact⟨_,adl,F.type_list_count,FN C.room.units⟩
 split at h
 ·rename_i z;cases h;rw[beq_iff_eq] at z;subst z;exact⟨_,F.slot_list_index,F.type_list_index,QA C.room.units⟩
 cases h
def Je(x:Str):Option MF:=if x=="get" then Y zx else if x=="update" then Y zr else L
theorem Nj(C:jK k c X)(h:Je x=Y f):∃ id,Slot "dict" x id/\typeOf 6.1=pure (.type "method_descriptor")/\MtR X id (PR X.K f):=by
 unfold Je at h;split at h
 ·rename_i z;cases h;rw[beq_iff_eq] at z;subst z;exact⟨_,adC,F.type_dict_get,VA (by have:=C.room.units;omega)⟩
 split at h
 ·rename_i z;cases h;rw[beq_iff_eq] at z;subst z;exact⟨_,aeB,F.type_dict_update,Vz⟩
 cases h
theorem Fa:∀ {es:List tx},es.all cW=true->(backTo pos 2.1).all (λx=>!x.1)=true
 | [],_=>rfl
 | e::es,h=>by
  rw[abe,aad] at h;rw[cH h.1];show(true&&(backTo pos 2.1).all (λx=>!x.1))=true;rw[Fa h.2];rfl
def Zu(o:tx):Bool:=match o with | .Call (.Name id _) [] [] _=>id != ("super":Str) | .Call _ _ _ _=>false | _=>true
def Em(z y:Bool)(E:tx->ME)(o:tx)(nm:Str)(ap cp:Pos)(es:List tx):ME:=match Zu o,es with
 | true,e::r=>if (e::r).all cW&&(decide ((e::r).length<30)&&ap.endLine==cp.line) then
   (if nm=="count" then mn (E o) (AQ E (e::r)) else if nm=="index"&&z then mj uu (E o) (AQ E (e::r)) else match Je nm with | some f=>eY f (E o) (AQ E (e::r)) | none=>match QC nm with | some f=>gi f (E o) (AQ E (e::r)) | none=>kJ) else kJ
 | true,[]=>kJ
 | _,_=>kJ
theorem NY(C:jK k c X){E:tx->ME}(hE:∀ e,DE X e (E e)):DE X (.Call (.Attribute o nm ap) es [] pos) (Em z y E o nm ap pos es):=by
 unfold Em;split
 ·rename_i e r hx;split
  ·rename_i h;rw[aad,aad] at h;have hs:=h.1;rw[abe,aad] at hs
   have few:((backTo pos (Wj (e::r) X.env)).all (λx=>!x.1)&&(backToKw pos 6.0).all (λx=>x.1.isSome)&&decide ((e::r).length+([]:List Keyword).length+(if ([]:List Keyword).isEmpty then 0 else 1)<30))=true:=by
    rw[Fa h.1];show(true&&decide ((e::r).length+0+0<30))=true;exact h.2.1
   split
   ·rename_i hc;rw[beq_iff_eq] at hc;subst hc;exact cG Ly (M.qbx C.room.units (hE _) 1.23 (rj hx) few h.2.2 (cH hs.1) (gI hs.2))
   split
   ·rename_i hc;rw[aad,beq_iff_eq] at hc;obtain⟨hc,w⟩:=hc;subst hc;exact cG BB (M.WZ C.room.units (hE _) 1.23 (rj hx) few h.2.2 (cH hs.1) (gI hs.2))
   ·split
    ·rename_i f hf;obtain⟨id,h1,h2,h3⟩:=Nj C hf;exact cG BC (M.Tl h1 h2 h3 (hE _) 1.23 (rj hx) few h.2.2 (cH hs.1) (gI hs.2))
    ·split
     ·rename_i f hf;obtain⟨id,h1,h2,h3⟩:=QB C hf;exact cG Gu (M.Mc h1 h2 h3 (hE _) 1.23 (rj hx) few h.2.2 (cH hs.1) (gI hs.2))
     ·exact cM
  ·exact cM
 ·rename_i hx;exact cM
 ·exact cM
def FI:tx->Bool
 | .Slice _ _ _ _=>false
 | _=>true
def Kf(G:tx->MG):List tx->uH
 | []=>aZ
 | e::r=>ag (if cW e then G e else RH) (Kf G r)
def wW(c:CI)(x:Str):MG:=match c.sc.names.lookup x,qe x c.N with
 | some .local,Y i=>aj i
 | some .cell,Y i=>if c.all then aj i else RH
 | _,_=>RH
def Sn(c:CI)(E:tx->ME):tx->MG
 | .Name x _=>wW c x
 | .Subscript o i _=>if FI i then(il (E o) (E i)) else RH
 | _=>RH
def qbd(c:CI)(G1 G:tx->MG)(es:List tx):MG:=if es.all cW then(if c.mt.contains 975000 then nU es.length (Kf G es) else bo es.length (Kf G es)) else RH
def OR(c:CI)(E:tx->ME):tx->MG
 | .Tuple es _ _=>qbd c (Sn c E) (λe=>match e with | .Tuple es _ _=>if es.all cW then bo es.length (Kf (Sn c E) es) else RH | e=>Sn c E e) es
 | e=>Sn c E e
theorem Wz(C:jK k c X)(x:Str):DG X 6.6 (wW c x):=by
 unfold wW;split
 ·rename_i h1 h2;exact Cn qU <| M.Mb (by rw[C.N];exact C.nd) (by rw[C.N];exact dI h2) (by rw[C.sc];exact .inl h1) (.inr (by rw[C.sc];exact h1))
 ·rename_i h1 h2;split
  ·rename_i ha;exact Cn qU <| M.Mb (by rw[C.N];exact C.nd) (by rw[C.N];exact dI h2) (by rw[C.sc];exact .inr h1) (.inl (C.fn ha x))
  ·exact Cg
 ·exact Cg
theorem WA(C:jK k c X){E:tx->ME}(hE:∀ e,DE X e (E e))(e:tx):DG X e (Sn c E e):=by
 cases e with
 | Name x p=>exact Wz C x
 | Subscript o i p=>
  show DG X _ (if FI i then(il (E o) (E i)) else RH);split
  ·rename_i h;refine Cn Hh (M.qbm (hE o) (hE i) ?_);cases i<;>first | (intro z;rfl) | cases h
  ·exact Cg
 | _=>exact Cg
theorem vC{es:List tx}(h:cW e=true):assignEach (e::es) X.env=(false,assign e X.env)::assignEach es X.env:=by cases e<;>first | rfl | cases h
theorem oZ:∀ {es:List tx},es.all cW=true->(assignEach es X.env).length=es.length/\(assignEach es X.env).findIdx? (·.1)=L
 | [],_=>⟨rfl,rfl⟩
 | e::es,h=>by
  rw[abe,aad] at h;rw[vC h.1];obtain⟨a,b⟩:=oZ h.2;exact⟨by simp[a],by simp[abR,b]⟩
theorem xE{G:tx->MG}(hG:∀ e,DG X e (G e)):∀ es:List tx,es.all cW=true->YI X es (Kf G es)
 | []=>λz=>TH Hi <| M.WU
 | e::r=>λh=>by
  rw[abe,aad] at h;unfold Kf;rw[aas h.1];exact TH BU <| M.Td (hG e) (xE hG r h.2) (by rw[vC h.1];rfl)
theorem Wy(C:jK k c X){G:tx->MG}(hG:∀ e,DG X e (G e))(es:List tx)(j:Nat):DG X (.Tuple es j pos) (if es.all cW then bo es.length (Kf G es) else RH):=by
 split
 ·rename_i h;exact Cn nV <| M.Kw C.calm (xE hG es h) (oZ h).1 (oZ h).2
 ·exact Cg
theorem Sm(C:jK k c X){G1 G:tx->MG}(hG1:∀ e,DG X e (G1 e))(hG:∀ e,DG X e (G e))(es:List tx)(j:Nat):DG X (.Tuple es j pos) (qbd c G1 G es):=by
 unfold qbd;split
 ·rename_i h;split
  ·exact Cn Hg <| M.WV C.calm (xE hG es h) (oZ h).1 (oZ h).2
  ·exact Cn nV <| M.Kw C.calm (xE hG es h) (oZ h).1 (oZ h).2
 ·exact Cg
theorem mz(C:jK k c X){E:tx->ME}(hE:∀ e,DE X e (E e))(e:tx):DG X e (OR c E e):=by
 have h1:=WA C hE;cases e with
 | Tuple es j p=>
  refine Sm C h1 (λe=>?_) es j;cases e with
  | Tuple es j p=>exact Wy C h1 es j
  | _=>exact h1 _
 | _=>exact h1 _
def evI(c:CI)(E:tx->ME)(tg it:tx):MA:=match oW it with
 | some (x,es)=>if x=="enumerate"&&qg c x then(match tg,es with
   | .Tuple _ _ _,[a]=>if cW a then gk (AQ E [a]) else tP
   | _,_=>tP) else if x=="zip"&&qg c x then(match tg,es with
   | .Tuple _ _ tp,[a,b]=>if cW a&&cW b then(tP) else tP
   | _,_=>tP) else if x=="range"&&qg c x then(match es with
   | [a]=>if cW a then cB (AQ E [a]) else tP
   | _=>tP) else di (E it)
 | none=>di (E it)
theorem vw(C:jK k c X){E:tx->ME}(hE:∀ e,DE X e (E e)):DI X tg it (evI c E tg it):=by
 unfold evI;split
 ·rename_i x es he;obtain⟨p,p2,rfl⟩:=gA he;split
  ·rename_i hx;rw[aad] at hx;obtain⟨m,g,o⟩:=nQ C hx.2;have z:=hx.1;rw[beq_iff_eq] at z;subst z;split
   ·split
    ·rename_i h;exact Mg Gy (M.WT m 1.23 g (cH h))
    ·exact zD
   ·exact zD
  split
  ·rename_i hx;rw[aad] at hx;obtain⟨m,g,o⟩:=nQ C hx.2;have z:=hx.1;rw[beq_iff_eq] at z;subst z;split
   ·split
    ·rename_i h;rw[aad] at h;exact zD
    ·exact zD
   ·exact zD
  split
  ·rename_i hx;rw[aad] at hx;obtain⟨m,g,o⟩:=nQ C hx.2;have z:=hx.1;rw[beq_iff_eq] at z;subst z;split
   ·split
    ·rename_i h;exact Mg sv <| M.Om m 1.23 g (cH h)
    ·exact zD
   ·exact zD
  ·exact Mg xy <| M.Kv (hE _)
 ·exact Mg xy <| M.Kv (hE _)
def Ry(c:CI)(it:tx):Bool:=match oW it with | some (x,_)=>(x=="enumerate"||x=="zip"||x=="range")&&qg c x | none=>false
def pI(scope sc:Scope):Scope:={ scope with names:=scope.names.map λx=>match x with | (n,k)=>if (k==NameKind.free&&sc.kind==.function&&sc.names.lookup n==Y .cell)=true then(n,.cell) else(n,k) }
def HQ(scope:Scope):List Str:=(scope.names.filter λx=>x.2==.local&&!(x.1==(".0":Str))).map (·.1)++(scope.names.filter λx=>x.2==.free).map (·.1)
def zL(c:CI)(scope:Scope):List 5.9:=(scope.names.filter λx=>x.2==.local&&!(x.1==(".0":Str))).map (λz=>L)++(scope.names.filter λx=>x.2==.free).map (λx=>qe x.1 c.N)
def Xq(c:CI)(scope:Scope):Bool:=
 scope.kind==.function&&(scope.names.all λx=>x.2 != .cell)&&(scope.names.all λx=>x.2 != .local||scope.names.lookup x.1==Y .local)
&&(scope.names.all λx=>x.2 != .free||c.sc.names.lookup x.1==Y .cell||c.sc.names.lookup x.1==Y .free)
&&AS c.N 2.31 (λy=>c.sc.names.lookup y) (λy=>(pI scope c.sc).names.lookup y) 2.12 2.31&&decide (HQ scope).Nodup
def uD(c:CI)(scope:Scope):CI:=⟨HQ scope,pI scope c.sc,false,c.gs,c.mt,false⟩
theorem xH(C:jK k c X)(h:Xq c scope=true):BlockOk X 2.31 scope 2.12/\∀ A s H fp,jK k 6.7 (oE X 2.31 scope A s H fp):=by
 unfold Xq at h;simp only[aad,aaV,beq_iff_eq] at h;obtain⟨⟨⟨⟨⟨h1,h2⟩,h3⟩,h4⟩,h5⟩,h6⟩:=h;refine⟨blk h6 h1 h2 h3 ?_ ?_,λA s H fp=>⟨rfl,h6,?_,h1,3.9,C.calm,C.room,ady,3.9,C.gs⟩⟩
 ·show(scope.names.all λx=>x.2 != .free||X.env.scope.names.lookup x.1==Y .cell||X.env.scope.names.lookup x.1==Y .free)=true;rw[C.sc];exact h4
 ·show AS X.N 2.31 (λy=>X.env.scope.names.lookup y) (λy=>(pI scope X.env.scope).names.lookup y) 2.12 2.31=true;rw[C.sc,C.N];exact h5
 ·show pI scope X.env.scope=_;rw[C.sc];rfl
def Wx(T:tx->MT):List tx->MT
 | []=>bK
 | [e]=>T e
 | _=>AI
theorem qX{T:tx->MT}(hT:∀ e,DT X e (T e)):∀ es:List tx,OT X es (Wx T es)
 | []=>qbG Go <| M.SL
 | [e]=>WF (hT e)
 | _::_::_=>λ_ _ _ _ _ _ ⟨_,_,_,_,_,_,_,h,_⟩=>by cases h
def qbb(c:CI)(E:tx->ME)(it:tx):MA:=match oW it with
 | some (x,es)=>if x=="range"&&qg c x then(match es with
   | [a]=>if cW a then cB (AQ E [a]) else tP
   | _=>tP) else tP
 | none=>di (E it)
theorem LU(C:jK k c X){E:tx->ME}(hE:∀ e,DE X e (E e)):YH X tg it (qbb c E it):=by
 have no:YH X tg it tP:=λw w w w w w h=>by obtain⟨w,w,w,w,w,w,w,h,w⟩:=h;cases h
 unfold qbb;split
 ·rename_i x es he;obtain⟨p,p2,rfl⟩:=gA he;split
  ·rename_i hx;rw[aad] at hx;obtain⟨m,g,o⟩:=nQ C hx.2;have z:=hx.1;rw[beq_iff_eq] at z;subst z;split
   ·split
    ·rename_i h;exact TF sv (M.Ku m 1.23 g (cH h))
    ·exact no
   ·exact no
  ·exact no
 ·exact TF xy (M.WS (hE _))
theorem tw{e:tx}(h:jU e=true)(env:Env)(x:ce):XM e env x=pure x:=by cases e<;>first | rfl | cases h
def qv(c:CI)(E:CI->tx->ME)(T:CI->tx->MT)(elt:tx)(gens:List Comprehension)(scope:Scope)(line:Nat):ME:=match gens with
 | [⟨tg,it,ifs,a⟩]=>if a==0&&jU it&&Xq c scope then if c.mt.contains (line+100000) then kJ else bZ 1.30 (OR 6.7 (E 6.7) tg) (Wx (T 6.7) ifs) (E 6.7 elt) 2.12 else kJ
 | [⟨tg,it,ifs,a⟩,⟨tg2,it2,ifs2,a2⟩]=>if a==0&&a2==0&&jU it&&jU it2&&Xq c scope then dZ 1.30 (OR 6.7 (E 6.7) tg) (Wx (T 6.7) ifs) (qbb 6.7 (E 6.7) it2) (OR 6.7 (E 6.7) tg2) (Wx (T 6.7) ifs2) (E 6.7 elt) 2.12 else kJ
 | _=>kJ
theorem Ca(C:jK k c X)(hE:∀ c X,jK k c X->∀ e,DE X e (E c e))(hT:∀ c X,jK k c X->∀ e,DT X e (T c e)):DE X (.ListComp elt gens scope pos) (qv c E T elt gens scope line):=by
 unfold qv;split
 ·rename_i tg it ifs a;split
  ·rename_i h;simp only[aad,beq_iff_eq] at h;obtain⟨⟨h0,h1⟩,h2⟩:=h;subst h0;obtain⟨B,C'⟩:=xH C h2;split
   ·exact cM
   ·exact cG yK <| M.Xd C.calm B 1.86 (λA s H fp=>mz 2.3 (hE _ _ 2.3) tg) (λA s H fp=>qX (hT _ _ 2.3) ifs) (λA s H fp=>hE _ _ 2.3 elt) (gf h1)
  ·exact cM
 ·rename_i tg it ifs a tg2 it2 ifs2 a2;split
  ·rename_i h;simp only[aad,beq_iff_eq] at h;obtain⟨⟨⟨⟨h0,h0'⟩,h1⟩,h1'⟩,h2⟩:=h;subst h0 h0';obtain⟨B,C'⟩:=xH C h2;exact cG uZ <| M.Tq C.calm B 1.86 (λA s H fp=>mz 2.3 (hE _ _ 2.3) tg) (λA s H fp=>qX (hT _ _ 2.3) ifs) (λA s H fp=>LU 2.3 (hE _ _ 2.3)) (λA s H fp=>mz 2.3 (hE _ _ 2.3) tg2) (λA s H fp=>qX (hT _ _ 2.3) ifs2) (λA s H fp=>hE _ _ 2.3 elt) (gf h1) (tw h1')
  ·exact cM
 ·exact cM
def qba(E:tx->ME):List 1.32->List tx->Option (List (ME×ME))
 | [],[]=>Y []
 | some k::ks,v::vs=>(qba E ks vs).bind λr=>Y ((E k,E v)::r)
 | _,_=>L
theorem LR{E:tx->ME}(hE:∀ e,DE X e (E e)):∀ {ks:List 1.32} {vs:List tx} {ms:List (ME×ME)},qba E ks vs=Y ms->DPs X pos ks vs ms/\ks.all (·.isSome)=true/\ks.length=vs.length
 | [],[],ms,h=>by cases h;exact⟨WO,rfl,rfl⟩
 | some k::ks,v::vs,ms,h=>by
  obtain⟨r,h1,h2⟩:=M.iq h;cases h2;obtain⟨a,b,d⟩:=LR hE h1;exact⟨SX (hE k) (hE v) a,by rw[abe,b];rfl,by rw[aam,aam,d]⟩
 | [],_::_,_,h=>by cases h
 | none::_,_,_,h=>by cases h
 | some _::_,[],_,h=>by cases h
def Kg(c:CI)(E:tx->ME)(ks:List 1.32)(vs:List tx)(line:Nat):ME:=match ks with
 | []=>if vs.isEmpty then(if c.mt.contains line then eM [] else mC (.dct [] [])) else kJ
 | k::r=>if (k::r).length<=15 then(match qba E (k::r) vs with | some ms=>if c.mt.contains line then eM ms else ik ms | none=>kJ) else kJ
theorem Oa{E:tx->ME}(C:jK k c X)(hE:∀ e,DE X e (E e))(ks:List 1.32)(vs:List tx)(line:Nat):DE X (.Dict ks vs pos) (Kg c E ks vs line):=by
 unfold Kg;split
 ·split
  ·rename_i h;have:vs=[]:=by simpa using h
   subst this;split
   ·exact cG uY M.To
   ·exact cG yL <| M.Xb
  ·exact cM
 ·rename_i k r;split
  ·rename_i hl;split
   ·rename_i ms h;obtain⟨a,b,d⟩:=LR (pos:=pos) hE h;split
    ·exact cG uY (M.Tp a b d 0.4 hl)
    ·exact cG GB (M.Xc a b d 0.4 hl)
   ·exact cM
  ·exact cM
def Sl(E:tx->ME):List tx->ME
 | []=>kJ
 | _=>kJ
theorem NZ{E:tx->ME}(hE:∀ e,DE X e (E e)):∀ es:List tx,DE X (.JoinedStr es pos) (Sl E es)
 | []=>cM
 | _::_=>cM
def Yq(E:tx->ME)(v:tx)(cv:Int)(f:Option tx):ME:=match cv,f with
 | _,_=>kJ
theorem So{E:tx->ME}(hE:∀ e,DE X e (E e)):DE X (.FormattedValue v cv f pos) (Yq E v cv f):=by
 exact cM
def XH(E:CI->tx->ME)(T:CI->tx->MT)(c:CI):tx->ME
 | .Constant v _ _=>LV v
 | .Name x _=>Ke c x
 | .BinOp a op b p=>Su (c.mt.contains (p.line+200000)) (c.mt.contains (p.line+210000)) op (E c a) (E c b)
 | .UnaryOp op a _=>evUn op (E c a)
 | .Compare a ops bs _=>Sr c E a ops bs
 | .BoolOp op vs _=>match op with | .And=>Hn eh (vs.map (E c)) | .Or=>Hn wQ (vs.map (E c))
 | .IfExp t a b _=>qa (T c t) (E c a) (E c b)
 | .Tuple es _ _=>bb 2.05
 | .List es pos=>if c.mt.contains pos.line then gb 2.05 else eu 2.05
 | .Dict ks vs pos=>Kg c (E c) ks vs pos.line
 | .Subscript a i _=>Yo c (E c) a i
 | .Call f es ks p=>match oN f,KD f,ks with | some x,_,[]=>Eo c (E c) x es | none,Y (o,nm,ap),[]=>Em (c.mt.contains 500000) (c.mt.contains 999000) (E c) o nm ap p es | _,_,_=>kJ
 | .ListComp elt gens scope p=>qv c E T elt gens scope p.line
 | .JoinedStr es _=>Sl (E c) es
 | .FormattedValue v cv f _=>Yq (E c) v cv f
 | _=>kJ
def XF(E:CI->tx->ME)(T:CI->tx->MT)(c:CI):tx->MT
 | .UnaryOp op a p=>match op with | .Not=>cS (T c a) | op=>dA (E c (.UnaryOp op a p))
 | .BoolOp op vs _=>match op with | .And=>zo eg (vs.map (T c)) | .Or=>zo fI (vs.map (T c))
 | .Compare a ops bs _=>Ki c E a ops bs
 | .IfExp _ _ _ _=>AI
 | e=>dA (E c e)
theorem Pt(hE:∀ c X,jK k c X->∀ e,DE X e (E c e))(hT:∀ c X,jK k c X->∀ e,DT X e (T c e))(C:jK k c X)(e:tx):DE X e (XH E T c e):=by
 have h1:=hE c X C;have h2:=hT c X C;cases e with
 | Constant v j p=>exact Kh v
 | Name x p=>exact NW C x
 | BinOp a op b p=>
  show DE X _ (Su (c.mt.contains (p.line+200000)) (c.mt.contains (p.line+210000)) op (E c a) (E c b));exact Ss (z:=c.mt.contains (p.line+200000)) (y:=c.mt.contains (p.line+210000)) (h1 a) (h1 b)
 | UnaryOp op a p=>exact Ww (h1 a)
 | Compare a ops bs p=>exact Sq C h1
 | BoolOp op vs p=>cases op with | And=>exact BX h1 vs | Or=>exact Hm h1 vs
 | IfExp t a b p=>exact cG QO <| M.de_if (h2 t) (h1 a) (h1 b)
 | Tuple es j p=>exact cG Ln <| M.qbq (gy h1 es)
 | List es p=>
  show DE X _ (if c.mt.contains p.line then gb 2.05 else eu 2.05);split
  ·exact cG Gv <| M.WY (gy h1 es)
  ·exact cG Ls <| M.qbu (gy h1 es)
 | Dict ks vs p=>exact Oa C h1 ks vs p.line
 | Subscript a i p=>exact Si C h1 a i
 | Call f es ks p=>
  show DE X _ (match oN f,KD f,ks with | some x,_,[]=>Eo c (E c) x es | none,Y (o,nm,ap),[]=>Em (c.mt.contains 500000) (c.mt.contains 999000) (E c) o nm ap p es | _,_,_=>kJ);split
  ·rename_i x h;obtain⟨p2,rfl⟩:=gh h;exact Oc C h1
  ·rename_i o nm ap _ ha;have:=HR ha;subst this;exact NY C h1
  ·exact cM
 | ListComp elt gens scope p=>exact Ca C hE hT
 | JoinedStr es p=>exact NZ h1 es
 | FormattedValue v cv f p=>exact So h1
 | _=>exact cM
theorem Pr(hE:∀ c X,jK k c X->∀ e,DE X e (E c e))(hT:∀ c X,jK k c X->∀ e,DT X e (T c e))(C:jK k c X)(e:tx):DT X e (XF E T c e):=by
 have h1:=hE c X C;have h2:=hT c X C;cases e with
 | UnaryOp op a p=>cases op<;>first | exact HM Gs <| M.qbh (h2 a) | exact HM DH <| M.HA (h1 _)
 | BoolOp op vs p=>cases op with | And=>exact NN h2 vs | Or=>exact RJ h2 vs
 | Compare a ops bs p=>exact Ob C h1
 | IfExp t a b p=>exact uw
 | _=>exact HM DH <| M.HA (h1 _)
def ev:Nat->(CI->tx->ME)×(CI->tx->MT)
 | 0=>(λz z=>kJ,λz z=>AI)
 | n+1=>(XH (ev n).1 (ev n).2,XF (ev n).1 (ev n).2)
theorem rT:∀ n:Nat,(∀ c X,jK k c X->∀ e,DE X e ((ev n).1 c e))/\(∀ c X,jK k c X->∀ e,DT X e ((ev n).2 c e))
 | 0=>⟨λz z z z=>cM,λz z z z=>uw⟩
 | n+1=>⟨λz z C e=>Pt (rT n).1 (rT n).2 C e,λz z C e=>Pr (rT n).1 (rT n).2 C e⟩
def oM:tx->Bool
 | .ListComp _ _ _ _=>false
 | .SetComp _ _ _ _=>false
 | .DictComp _ _ _ _ _=>false
 | _=>true
theorem kz(h:oM e=true):swapsWith e t l X.env=pure false:=by cases e<;>first | rfl | cases h
def tX:tx->Bool
 | .Tuple _ _ _=>true
 | .List _ _=>true
 | _=>false
theorem IY(h:tX t=false\/tX e=false):swappedStores [t] e X.env=pure L:=by
 rcases h with h | h
 ·cases t<;>first | rfl | cases h
 ·cases t<;>first | rfl | (cases e<;>first | rfl | cases h)
def Sz(c:CI)(E:CI->tx->ME)(T:CI->tx->MT)(x:Str)(px:Pos)(e:tx):MS:=match e with
 | .ListComp elt gens scope p=>if c.all&&(c.sc.names.lookup x==Y .local&&px.line==p.line&&!(scope.names.any λy=>y.1==x&&(y.2==.local||y.2==.cell))) then aV 9.5 (wW c x) else if c.all&&c.sc.names.lookup x==Y .cell then aV 9.5 (wW c x) else im
 | e=>if oM e then aV (E c e) (wW c x) else im
def Ur:tx->Option (tx×tx)
 | .Tuple [a,b] _ _=>Y (a,b)
 | _=>L
theorem Bb{a b:tx}(h:Ur t=Y (a,b)):∃ k p,t=.Tuple [a,b] k p:=by
 unfold Ur at h;split at h
 ·cases h;exact⟨_,_,rfl⟩
 ·cases h
def nmP:tx->Option (Str×Pos)
 | .Name x p=>Y (x,p)
 | _=>L
theorem FM{e:tx}{x:Str}{p:Pos}(h:nmP e=Y (x,p)):e=.Name x p:=by cases e<;>cases h;rfl
def par2(t:tx):Option (Str×Pos×Str×Pos):=(Ur t).bind λq=>(nmP q.1).bind λx=>(nmP q.2).bind λy=>Y (x.1,x.2,y.1,y.2)
theorem MX{x y:Str}{px py:Pos}(h:par2 t=Y (x,px,y,py)):∃ k p,t=.Tuple [.Name x px,.Name y py] k p:=by
 obtain⟨a,b,h1,h⟩:=M.dW h;obtain⟨x,h2,h⟩:=M.iq h;obtain⟨y,h3,h⟩:=M.iq h;cases h;cases FM h2;cases FM h3;exact Bb h1
theorem Im{k:Nat}{a b:tx}(h:(X.env.kindOf x==Y NameKind.local&&X.env.kindOf y==Y NameKind.local)=false):swappedStores [.Tuple [.Name x px,.Name y py] k p] (.Tuple [a,b] k2 p2) X.env=pure L:=by
 unfold swappedStores;simp only;split
 ·rfl
 split
 ·rfl
 rw[aas];generalize hg:List.filterMap _ [Expr.Name x px,Expr.Name y py]=L4
 have hL:L4.length<=1:=by
  rw[<- hg,aaT,aaT];cases hx:(X.env.kindOf x==Y NameKind.local) with
  | false=>simp only[hx,abc,aaQ,abP];split<;>simp
  | true=>
   have hy:(X.env.kindOf y==Y NameKind.local)=false:=by rw[hx,abn] at h;exact h
   simp only[hy,abc,aaQ,abP];split<;>simp
 have h2:(L4.length != [Expr.Name x px,Expr.Name y py].length)=true:=by
  rw[bne_iff_ne];show L4.length≠2;omega
 rw[h2];rfl
def Lh(c:CI)(x y:Str):Bool:=!(c.sc.names.lookup x==Y .local&&c.sc.names.lookup y==Y .local)
def LS(c:CI)(E:CI->tx->ME)(t e:tx):Option MS:=match par2 t,Ur e with
 | some (x,px,y,py),Y (a,b)=>if Lh c x y then Y (aV (E c e) (OR c (E c) t)) else match qe x c.N,qe y c.N with
  | some i,Y j=>if (c.all&&c.sc.names.lookup x==Y .local&&c.sc.names.lookup y==Y .local&&!(x==y)&&py.line==px.line&&yg a&&yg b&&!(foldedForSure 8 a&&foldedForSure 8 b)&&!(constantsAlone 8 a&&constantsAlone 8 b)&&!(i==j))=true then Y (nN i j (AQ (E c) [a,b])) else L
  | _,_=>L
 | _,_=>L
theorem Sj(C:jK k c X){E:CI->tx->ME}(hE:∀ e,DE X e (E c e))(h:LS c E t e=Y m):DS X 2.56 m:=by
 unfold LS at h;split at h
 ·rename_i x px y py a b h1 h2;obtain⟨k1,p1,rfl⟩:=MX h1;obtain⟨k2,p2,rfl⟩:=Bb h2;split at h
  ·rename_i hn;cases h;refine lC kD <| M.SV (hE _) (mz C hE _) rfl (Im ?_) rfl
   unfold Lh at hn;rw[Bool.not_eq_true'] at hn;show(X.env.scope.names.lookup x==Y NameKind.local&&X.env.scope.names.lookup y==Y NameKind.local)=false;rw[C.sc];exact hn
  split at h
  ·rename_i i j hi hj;split at h
   ·rename_i hc;cases h;simp only[aad,beq_iff_eq,Bool.not_eq_true'] at hc;obtain⟨⟨⟨⟨⟨⟨⟨⟨⟨_,hx⟩,hy⟩,hne⟩,hl⟩,ha⟩,hb⟩,hf⟩,hcn⟩,hij⟩:=hc;have hx':X.env.scope.names.lookup x=Y .local:=by rw[C.sc];exact hx
    have hy':X.env.scope.names.lookup y=Y .local:=by rw[C.sc];exact hy
    have hbk:X.env.blockKind=.function:=by unfold Env.blockKind;rw[C.sc,C.fk];rfl
    exact lC Lq (M.qbk C.calm (by rw[C.N];exact C.nd) (by rw[C.N];exact dI hi) (by rw[C.N];exact dI hj) (by simpa using hij) hx' hy' 1.23 (Pl hbk hx' hy' hne (by simpa using hl) ha hb hf hcn))
   ·cases h
  ·cases h
 ·cases h
def SA(c:CI)(E:CI->tx->ME)(T:CI->tx->MT)(t e:tx):MS:=match t with
 | .Name x px=>Sz c E T x px e
 | t=>match LS c E t e with
 | some m=>m
 | none=>if (oM e||tX t)&&cW t&&(!tX t||!tX e) then aV (E c e) (OR c (E c) t) else im
theorem tR{s:QP}:DS X s (aV m RH):=λz z z z z z z0=>by
 obtain⟨z,z,z,z,z,z,h,z⟩:=z0;rw[kD] at h;obtain⟨z,z,h⟩:=M.iq h;cases h
theorem Od(C:jK k c X)(hE:∀ c X,jK k c X->∀ e,DE X e (E c e))(hT:∀ c X,jK k c X->∀ e,DT X e (T c e)):DS X (.Assign [.Name x px] e pos) (Sz c E T x px e):=by
 have h1:=hE c X C
 have gen:∀ e,oM e=true->DS X (.Assign [.Name x px] e pos) (aV (E c e) (wW c x)):=λe hn=>by
  unfold wW;split
  ·rename_i h1' h2;exact lC sx <| M.Kk (by rw[C.N];exact C.nd) (by rw[C.N];exact dI h2) (by rw[C.sc];exact .inl h1') (h1 e) (kz hn) (.inr (by rw[C.sc];exact h1'))
  ·rename_i h1' h2;split
   ·rename_i ha;exact lC sx <| M.Kk (by rw[C.N];exact C.nd) (by rw[C.N];exact dI h2) (by rw[C.sc];exact .inr h1') (h1 e) (kz hn) (.inl (C.fn ha x))
   ·exact tR
  ·exact tR
 cases e with
 | ListComp elt gens scope p=>
  show DS X _ (if c.all&&(c.sc.names.lookup x==Y .local&&px.line==p.line&&!(scope.names.any λy=>y.1==x&&(y.2==.local||y.2==.cell))) then aV 9.5 (wW c x) else if c.all&&c.sc.names.lookup x==Y .cell then aV 9.5 (wW c x) else im);split
  ·rename_i hw;rw[aad] at hw;have hw1:=hw.2;simp only[aad,beq_iff_eq] at hw1;have hl:=hw1.1.1;unfold wW;rw[hl];cases hi:qe x c.N with
   | none=>exact tR
   | some i=>
    have sw:(pure (X.env.blockKind==.function&&X.env.scope.names.lookup x==Y .local&&px.line==p.line&&!(scope.names.any λy=>y.1==x&&(y.2==.local||y.2==.cell))):Sem Bool)=pure true:=by
     have hb:X.env.blockKind=.function:=by unfold Env.blockKind;rw[C.sc,C.fk];rfl
     rw[hb,C.sc];have:=hw.2;simp only[Bool.and_assoc] at this ⊢;rw[this];rfl
    unfold qv;split
    ·rename_i tg it ifs a;split
     ·rename_i h;simp only[aad,beq_iff_eq] at h;obtain⟨⟨h0,h1'⟩,h2⟩:=h;subst h0;obtain⟨B,C'⟩:=xH C h2;split
      ·exact HD
      ·exact lC GH <| M.Kj (by rw[C.N];exact C.nd) (by rw[C.N];exact dI hi) (by rw[C.sc];exact .inl hl) C.calm B 1.86 (λA s H fp=>mz 2.3 (hE _ _ 2.3) tg) (λA s H fp=>qX (hT _ _ 2.3) ifs) (λA s H fp=>hE _ _ 2.3 elt) sw (gf h1') (.inr (by rw[C.sc];exact hl))
     ·intro w w w w w w ⟨_,_,_,_,_,_,h,_⟩;rw[kD] at h;obtain⟨w,z,h⟩:=M.iq h;cases z
    ·rename_i tg it ifs a tg2 it2 ifs2 a2;split
     ·rename_i h;simp only[aad,beq_iff_eq] at h;obtain⟨⟨⟨⟨h0,h0'⟩,h1'⟩,h1''⟩,h2⟩:=h;subst h0 h0';obtain⟨B,C'⟩:=xH C h2;exact lC DM <| M.HB (by rw[C.N];exact C.nd) (by rw[C.N];exact dI hi) (by rw[C.sc];exact .inl hl) C.calm B 1.86 (λA s H fp=>mz 2.3 (hE _ _ 2.3) tg) (λA s H fp=>qX (hT _ _ 2.3) ifs) (λA s H fp=>LU 2.3 (hE _ _ 2.3)) (λA s H fp=>mz 2.3 (hE _ _ 2.3) tg2) (λA s H fp=>qX (hT _ _ 2.3) ifs2) (λA s H fp=>hE _ _ 2.3 elt) sw (gf h1') (tw h1'') (.inr (by rw[C.sc];exact hl))
     ·intro w w w w w w ⟨_,_,_,_,_,_,h,_⟩;rw[kD] at h;obtain⟨w,z,h⟩:=M.iq h;cases z
    ·exact HD
  ·split
   ·rename_i hw;rw[aad,beq_iff_eq] at hw;unfold wW;rw[hw.2];cases hi:qe x c.N with
    | none=>exact tR
    | some i=>
     dsimp only;rw[aas hw.1];refine lC sx <| M.Kk (by rw[C.N];exact C.nd) (by rw[C.N];exact dI hi) (by rw[C.sc];exact .inr hw.2) (Ca C hE hT) ?_ (.inl (C.fn hw.1 x))
     show(pure (X.env.blockKind==.function&&X.env.scope.names.lookup x==Y .local&&px.line==p.line&&!(scope.names.any λy=>y.1==x&&(y.2==.local||y.2==.cell))):Sem Bool)=pure false;rw[C.sc,hw.2];have:((Y NameKind.cell:Option NameKind)==Y .local)=false:=by decide
     rw[this,abt];rfl
   ·exact gz
 | SetComp _ _ _ _=>exact gz
 | DictComp _ _ _ _ _=>exact gz
 | _=>exact gen _ rfl
theorem GV(h:tX t=true):swapsWith e (Y t) l X.env=pure false:=by cases t<;>first | (cases h;done) | (cases e<;>rfl)
theorem Sy(C:jK k c X)(hE:∀ c X,jK k c X->∀ e,DE X e (E c e))(hT:∀ c X,jK k c X->∀ e,DT X e (T c e)){t:tx}:DS X 2.56 (SA c E T t e):=by
 have gen:∀ t,DS X 2.56 (match LS c E t e with | some m=>m | none=>if (oM e||tX t)&&cW t&&(!tX t||!tX e) then aV (E c e) (OR c (E c) t) else im):=λt=>by
  split
  ·rename_i h;exact Sj C (hE _ _ C) h
  split
  ·rename_i h;simp only[aad,acE,Bool.not_eq_true'] at h;refine lC kD <| M.SV (hE _ _ C e) (mz C (hE _ _ C) t) (h.1.1.elim kz GV) (IY h.2) ?_
   rw[vC h.1.2];rfl
  ·exact gz
 cases t with
 | Name x px=>exact Od C hE hT
 | _=>exact gen _
def zU:List MS->MS
 | []=>bq
 | [m]=>m
 | m::r=>aM m (zU r)
theorem oG{F:QP->MS}(h:∀ s,DS X s (F s)):∀ ss:List QP,AU X ss (zU (ss.map F))
 | []=>Ky pZ <| M.Ma
 | [s]=>LZ (h s)
 | s::s'::r=>Ky Lo <| M.SO (h s) (oG h (s'::r))
def JN:tx->Bool
 | .Constant (.str _) _ _=>true
 | _=>false
def Sx(c:CI)(E:tx->ME)(op:Operator)(e:tx):tx->MS
 | .Name x _=>match op,c.sc.names.lookup x,qe x c.N with
  | .Add,Y .local,Y i=>im
  | .Add,Y .cell,Y i=>if c.all then im else im
  | _,_,_=>im
 | _=>im
theorem Sw{E:tx->ME}(C:jK k c X)(hE:∀ e,DE X e (E e))(e:tx)(t:tx):DS X (.AugAssign t op e pos) (Sx c E op e t):=by
 unfold Sx;split
 ·split
  ·rename_i h1 h2;exact gz
  ·rename_i h1 h2;split
   ·rename_i ha;exact gz
   ·exact gz
  ·exact gz
 ·exact gz
def TW:QP->Option (tx×tx)
 | .Assign ts v _=>ts.head?.bind λt=>if ts.length=1 then Y (t,v) else L
 | _=>L
theorem zN{s:QP}{t v:tx}(h:TW s=Y (t,v)):∃ p,s=.Assign [t] v p:=by
 cases s<;>try cases h
 rename_i ts v' p;obtain⟨t',h1,h⟩:=M.iq h;split at h
 ·rename_i hl;cases h;cases ts with
  | nil=>cases hl
  | cons a r=>
   cases r with
   | nil=>cases h1;exact⟨_,rfl⟩
   | cons b r=>simp at hl
 ·cases h
def qbD:tx->Option Bool
 | .Constant 2.01 _ _=>Y b
 | _=>L
theorem Ov{e:tx}(q:qbD e=Y b):∃ j p,e=.Constant 2.01 j p:=by
 unfold qbD at q;split at q
 ·cases q;exact⟨_,_,rfl⟩
 ·cases q
def Zm:QP->Option Bool
 | .Return (Y e) _=>qbD e
 | _=>L
theorem MJ{s:QP}(q:Zm s=Y b):∃ j p1 p2,s=.Return (Y (.Constant 2.01 j p1)) p2:=by
 unfold Zm at q;split at q
 ·obtain⟨j,p,rfl⟩:=Ov q;exact⟨_,_,_,rfl⟩
 ·cases q
def IJ(h:ExceptHandler):Option (tx×Bool):=match h with
 | .ExceptHandler (Y g) L [s] _=>(Zm s).bind λb=>Y (g,b)
 | _=>L
theorem Fv{g:tx}{b:Bool}(q:IJ h=Y (g,b)):∃ j p1 p2 p3,h=.ExceptHandler (Y g) L [.Return (Y (.Constant 2.01 j p1)) p2] p3:=by
 unfold IJ at q;split at q
 ·obtain⟨b',h,q⟩:=M.iq q;obtain⟨j,p1,p2,rfl⟩:=MJ h;cases q;exact⟨_,_,_,_,rfl⟩
 ·cases q
def Ii(b:List QP)(h:List ExceptHandler):Option (Str×tx×List tx×Str×Bool×Str):=match b,h with
 | [s],[k]=>(TW s).bind λz=>(oN z.1).bind λv=>(oW z.2).bind λp=>(IJ k).bind λm=>(oN m.1).bind λg=>match p.2 with
  | e::es=>Y (p.1,e,es,g,m.2,v)
  | []=>L
 | _,_=>L
theorem ET{f g v:Str}{e:tx}{es:List tx}{x:Bool}(q:Ii b h=Y (f,e,es,g,x,v)):∃ p0 p1 p2 p3 p4 j p5 p6 p7,b=[.Assign [.Name v p0] (.Call (.Name f p1) (e::es) [] p2) p3]/\h=[.ExceptHandler (Y (.Name g p4)) L [.Return (Y (.Constant (.bool x) j p5)) p6] p7]:=by
 unfold Ii at q;split at q
 ·obtain⟨t0,v0,h1,q1⟩:=M.dW q;obtain⟨v',h9,q9⟩:=M.iq q1;obtain⟨f',es',h2,q2⟩:=M.dW q9;obtain⟨g',b',h3,q3⟩:=M.dW q2;obtain⟨g2,h5,q5⟩:=M.iq q3;clear q q1 q2 q3 q9;obtain⟨p1,rfl⟩:=zN h1;obtain⟨p0,rfl⟩:=gh h9;obtain⟨p2,p3,rfl⟩:=gA h2;obtain⟨j,p4,p5,p7,rfl⟩:=Fv h3;obtain⟨p6,rfl⟩:=gh h5;cases es' with
  | nil=>cases q5
  | cons a r=>cases q5;exact⟨_,_,_,_,_,_,_,_,_,rfl,rfl⟩
 ·cases q
def Ut(c:CI)(E:tx->ME)(b:List QP)(h:List ExceptHandler):Option MS:=match Ii b h with
 | some (f,e,es,g,x,v)=>match c.gs.lookup ("try": Str),Ue c g,qe v c.N with
  | some (.thr f' n fy C fl),Y (.hnd C'),Y l=>if f'=f/\C'=C/\c.sc.names.lookup f=Y .globalImplicit/\ge f=true/\(e::es).all cW=true/\c.sc.names.lookup v=Y .local then Y (Gn n fy (AQ E (e::es)) l x) else L
  | _,_,_=>L
 | none=>L
theorem Us{E:tx->ME}(C:jK k c X)(hE:∀ e,DE X e (E e))(hx:c.nx=true)(q:Ut c E b h=Y m):DS X (.Try b h [] [] pos) m:=by
 have Z:=C.xf hx;unfold Ut at q;split at q
 ·rename_i f e es g x v ht;obtain⟨p0,p1,p2,p3,p4,j,p5,p6,p7,rfl,rfl⟩:=ET ht;split at q
  ·rename_i f' n fy A fl A' l hl hg hv;obtain⟨gg,o,G⟩:=jr C hg;split at q
   ·rename_i z;obtain⟨rfl,rfl,z1,z2,z6,z7⟩:=z;cases q;rw[abe,aad] at z6;exact M.WI (C.gs _ (aby hl)) C.room (by show X.env.scope.names.lookup f'=_;rw[C.sc];exact z1) 1.23 (λv s' w=>by rw[Z.xe] at w;exact w) G gg (by rw[C.N];exact C.nd) (by rw[C.N];exact dI hv) (by rw[C.sc];exact z7) Z.hs Z.hfm Z.hex (cQ z2) (cQ o) (cH z6.1) (gI z6.2) rfl
   ·cases q
  ·cases q
 ·cases q
def XG(E:CI->tx->ME)(T:CI->tx->MT)(F:CI->QP->MS)(c:CI):QP->MS
 | .Return o _=>match o with | some e=>bu (E c e) | none=>λz S=>Y (.rt .non S)
 | .Pass _=>bq
 | .Break _=>λenv S=>Y (.bk env S)
 | .Continue _=>λenv S=>Y (.ct env S)
 | .Expr e _=>if JN e then bq else if oM e then gd (E c e) else im
 | .If t a b _=>cr (T c t) (zU (a.map (F c))) (zU (b.map (F c)))
 | .Assign ts e _=>match ts with | [t]=>SA c E T t e | _=>im
 | .AugAssign t op e _=>Sx c (E c) op e t
 | .Try body hs els fin _=>match hs,els,fin with | _::_,[],[]=>if c.nx then(match Ut c (E c) body hs with | some m=>m | none=>im) else im | _,_,_=>im
 | .While tst body els _=>match els with | []=>fU (T c tst) 1.12 | _=>im
 | .For tg it body els _=>match els with | []=>if jU it then(if Ry c it then mQ 1.30 1.71 1.12 else gc (E c it) 1.71 1.12) else im | _=>im
 | _=>im
theorem Ps{F:CI->QP->MS}(hE:∀ c X,jK k c X->∀ e,DE X e (E c e))(hT:∀ c X,jK k c X->∀ e,DT X e (T c e))(hF:∀ c X,jK k c X->∀ e,DS X e (F c e))(C:jK k c X)(s:QP):DS X s (XG E T F c s):=by
 have h1:=hE c X C;have h2:=hT c X C;have h3:=hF c X C;cases s with
 | Return o p=>cases o with | none=>exact WJ | some e=>exact lC Lp <| M.SR (h1 e)
 | Pass p=>exact lC pZ <| M.WK
 | Break p=>exact SU
 | Continue p=>exact HC
 | Expr e p=>
  show DS X _ (if JN e then bq else if oM e then gd (E c e) else im);split
  ·rename_i h;unfold JN at h;split at h
   ·exact lC pZ <| M.qbl
   ·cases h
  ·split
   ·rename_i h;exact lC Gz <| M.WN (h1 e) (kz h)
   ·exact gz
 | If t a b p=>exact lC Lv <| M.ds_if (h2 t) (oG h3 a) (oG h3 b)
 | Assign ts e p=>
  show DS X _ (match ts with | [t]=>SA c E T t e | _=>im);split
  ·exact Sy C hE hT
  ·exact gz
 | AugAssign t op e p=>exact Sw C h1 e t
 | Try body hs els fin p=>
  show DS X _ (match hs,els,fin with | _::_,[],[]=>if c.nx then(match Ut c (E c) body hs with | some m=>m | none=>im) else im | _,_,_=>im);split
  ·split
   ·rename_i hx;split
    ·rename_i m hm;exact Us C h1 hx hm
    ·exact gz
   ·exact gz
  ·exact gz
 | While tst body els p=>
  cases els with
  | nil=>exact lC Bx <| M.SQ C.xe (h2 tst) (oG h3 body)
  | cons _ _=>exact gz
 | For tg it body els p=>
  cases els with
  | nil=>
   show DS X _ (if jU it then(if Ry c it then mQ 1.30 1.71 1.12 else gc (E c it) 1.71 1.12) else im);split
   ·rename_i h;split
    ·exact lC Lw <| M.SS C.xe C.calm (vw C h1) (mz C h1 tg) (oG h3 body) (gf h)
    ·exact lC Gx <| M.WM C.xe C.calm (h1 it) (mz C h1 tg) (oG h3 body) (gf h)
   ·exact gz
  | cons _ _=>exact gz
 | _=>exact gz
def evS(n:Nat):Nat->CI->QP->MS
 | 0=>λz z=>im
 | m+1=>XG (ev n).1 (ev n).2 (evS n m)
theorem Kd(n:Nat):∀ m:Nat,∀ c X,jK k c X->∀ s,DS X s (evS n m c s)
 | 0=>λz z z z=>gz
 | m+1=>λz z C s=>Ps (rT n).1 (rT n).2 (Kd n m) C s
def Pm:tx->Option (tx×tx)
 | .Subscript o q _=>Y (o,q)
 | _=>L
theorem xQ{e o q:tx}(h:Pm e=Y (o,q)):∃ p,e=.Subscript o q p:=by cases e<;>cases h;exact⟨_,rfl⟩
def XJ:QP->Option tx
 | .Return v _=>v
 | _=>L
theorem II{s:QP}{e:tx}(h:XJ s=Y e):∃ p,s=.Return (Y e) p:=by cases s<;>cases h;exact⟨_,rfl⟩
def dAsg(s:QP):Option (Str×Str×tx):=(TW s).bind λa=>(oN a.1).bind λb=>(Pm a.2).bind λq=>(oN q.1).bind λx=>(Pm q.2).bind λz=>Y (b,x,q.2)
theorem Ot{s:QP}{b x:Str}{ix:tx}(h:dAsg s=Y (b,x,ix)):rp ix/\∃ pb pt ps pa,s=.Assign [.Name b pb] (.Subscript (.Name x pt) ix ps) pa:=by
 obtain⟨t,v,h1,h⟩:=M.dW h;obtain⟨b,h2,h⟩:=M.iq h;obtain⟨o,i,h3,h⟩:=M.dW h;obtain⟨x,h4,h⟩:=M.iq h;obtain⟨o2,i2,h5,h⟩:=M.dW h;cases h;obtain⟨pa,rfl⟩:=zN h1;obtain⟨pb,rfl⟩:=gh h2;obtain⟨ps,rfl⟩:=xQ h3;obtain⟨pt,rfl⟩:=gh h4;obtain⟨p,rfl⟩:=xQ h5;exact⟨by intro z z;rfl,_,_,_,_,rfl⟩
def dRet(s:QP):Option (Str×tx×List tx):=(XJ s).bind λv=>(oW v).bind λp=>p.2.head?.bind λe=>Y (p.1,e,p.2.tail)
theorem Os{s:QP}{b:Str}{e:tx}{es:List tx}(h:dRet s=Y (b,e,es)):∃ p pc pr,s=.Return (Y (.Call (.Name b p) (e::es) [] pc)) pr:=by
 obtain⟨v,h1,h⟩:=M.iq h;obtain⟨b,l,h2,h⟩:=M.dW h;obtain⟨e,h3,h⟩:=M.iq h;cases h;obtain⟨pr,rfl⟩:=II h1;obtain⟨p,pc,rfl⟩:=gA h2;cases l<;>cases h3;exact⟨_,_,_,rfl⟩
def Yu(c:CI)(b x:Str)(ix:tx)(e:tx)(es:List tx):Option MS:=match qe b c.N,Ue c x with
 | some i,Y (.ftab l)=>if ge b&&c.sc.names.lookup b==Y .local&&(e::es).all cW then Y (kK l i ((ev 40).1 c ix) (AQ ((ev 40).1 c) (e::es))) else L
 | _,_=>L
def Ex(c:CI):List QP->Option MS
 | [s,t]=>match dAsg s,dRet t with
  | some (b,x,ix),Y (b',e,es)=>if b'==b then Yu c b x ix e es else L
  | _,_=>L
 | _=>L
theorem Ol(C:jK k c X)(h:Ex c body=Y m):AU X body m:=by
 unfold Ex at h;split at h
 ·rename_i s t;split at h
  ·rename_i b x ix b' e es h1 h2;obtain⟨hs,pb,pt,ps,pa,rfl⟩:=Ot h1;obtain⟨p,pc,pr,rfl⟩:=Os h2;split at h
   ·rename_i hb;rw[beq_iff_eq] at hb;subst hb;unfold Yu at h;split at h
    ·rename_i i l hi hg;obtain⟨g,o,G⟩:=jr C hg;split at h
     ·rename_i hc;simp only[aad,beq_iff_eq] at hc;obtain⟨⟨o1,h3⟩,h4⟩:=hc;cases h;rw[abe,aad] at h4
      exact Ky GA <| M.SN G g (cQ o) ((rT 40).1 _ _ C ix) hs C.room (gy ((rT 40).1 _ _ C) _) (by rw[C.N];exact C.nd) (by rw[C.N];exact dI hi) (by rw[C.sc];exact .inl h3) (by rw[C.sc];exact .inl h3) (.inr (by rw[C.sc];exact h3)) (cQ o1) (FH o1)
       (by rw[C.N];exact(aaa.mp (dI hi)).1) (cH h4.1) (gI h4.2)
     ·cases h
    ·cases h
   ·cases h
  ·cases h
 ·cases h
def gH(c:CI)(body:List QP):MS:=match Ex c body with
 | some m=>m
 | none=>zU (body.map (evS 40 20 c))
theorem Sv(C:jK k c X)(body:List QP):AU X body (gH c body):=by
 unfold gH;cases h:Ex c body with
 | some m=>exact Ol C h
 | none=>exact oG (Kd 40 20 c X C) body
end
end
def ir(N:List Str)(st:QP)(gs:List 0.8)(mt:List Nat):CI:=⟨N,ax st,true,gs,mt,true⟩
def GK(P:vx)(w:Pn)(K:aeH)(mg:Str->Option ce)(base:Ud)(k:Nat)(p:Str×GI):Prop:=match p.2 with
 | .fn n f=>Fn P w K mg base k p.1 n f
 | .con d=>GC K mg p.1 d
 | .blt=>mg p.1=L
 | .tab l=>zO w K mg p.1 l
 | .ftab l=>FTab P w K mg base k p.1 l
 | .thr f n fy C fl=>FnY P w K mg base k f n fy C fl
 | .hnd C=>HW K mg p.1 C
 | .rse C fl=>2<=k/\HU P w K mg base p.1 C fl
theorem Tf{K:aeH}{k:Nat}{st:QP}{gs:List 0.8}{mt:List Nat}
  (F:bP K mg x st) (Sc:aP N ps (ax st)) (hb:sN x st ps) (hg:∀ p∈gs,GK P w K mg base k p) :
  Fn P w K mg base (k+1) x ps.length (aT N 1.61 ps.length):=
 qbn F Sc hb λa cdv A outer s H E hr=>Sv (k:=k) ⟨rfl,Sc.nd,rfl,Sc.kind,λz z=>rfl,rfl,hr,ady,λz=>⟨rfl,rfl,rfl,rfl⟩,λp hp=>by
  have:=hg p hp;obtain⟨x,g⟩:=p
  cases g<;>exact this⟩ _
section
variable{k:Nat}{c:CI}{X:Cx}{A:td}{fl:Str}{E':XK}{pos:Pos}
def Mr:List MY->MY
 | []=>EM bq
 | [m]=>m
 | m::r=>nM m (Mr r)
theorem sU{F:QP->MY}(h:∀ s,DY X A fl E' s (F s)):∀ ss:List QP,Uk X A fl E' ss (Mr (ss.map F))
 | []=>by show Uk X A fl E' [] (EM bq);rw[pZ];exact WE
 | [s]=>WD (h s)
 | s::s'::r=>SH (h s) (sU h (s'::r))
def IL(A:td)(fl:Str)(c:CI)(E:tx->ME)(ex:tx):Option MY:=match oW ex with
 | some (x,[a])=>match Ue c x with
  | some (.rse C f)=>if C=A/\f=fl/\cW a=true then Y (tO (E a)) else L
  | _=>L
 | _=>L
theorem MM{E:tx->ME}(C:jK k c X)(O:XOk X E')(hE:∀ e,DE X e (E e))(h:IL A fl c E ex=Y m):DY X A fl E' (.Raise (Y ex) L pos) m:=by
 unfold IL at h;split at h
 ·rename_i x a hc;obtain⟨p,p2,rfl⟩:=gA hc;split at h
  ·rename_i C' f hg;obtain⟨g,o,h2,R⟩:=jr C hg;split at h
   ·rename_i z;obtain⟨rfl,rfl,z⟩:=z;cases h;exact SI R (C.room.mono h2) g (hE a) C.calm O (cQ o) (cH z)
   ·cases h
  ·cases h
 ·cases h
def Pq(A:td)(fl:Str)(E:CI->tx->ME)(T:CI->tx->MT)(F:CI->QP->MS)(Y0:CI->QP->MY)(c:CI):QP->MY
 | .Raise (Y ex) L _=>match IL A fl c (E c) ex with | some m=>m | none=>EM im
 | .If t a b _=>Nt (T c t) (Mr (a.map (Y0 c))) (Mr (b.map (Y0 c)))
 | .For tg it body [] _=>if jU it&&Ry c it then Gm 1.30 1.71 (Mr (body.map (Y0 c))) else EM im
 | s=>EM (F c s)
theorem Pp{E:CI->tx->ME}{T:CI->tx->MT}{F:CI->QP->MS}{Y0:CI->QP->MY}(hE:∀ c X,jK k c X->∀ e,DE X e (E c e))(hT:∀ c X,jK k c X->∀ e,DT X e (T c e))(hF:∀ c X,jK k c X->∀ e,DS X e (F c e))(hY:∀ c X,jK k c X->XOk X E'->∀ s,DY X A fl E' s (Y0 c s))(C:jK k c X)(O:XOk X E')(s:QP):DY X A fl E' s (Pq A fl E T F Y0 c s):=by
 have h1:=hE c X C;have h4:=hY c X C O;unfold Pq;split
 ·split
  ·rename_i h;exact MM C O h1 h
  ·exact LX gz
 ·exact dy_if (hT c X C _) (sU h4 _) (sU h4 _)
 ·split
  ·rename_i h;rw[aad] at h;exact qbg C.xe C.calm (vw C h1) (mz C h1 _) (sU h4 _) (gf h.1)
  ·exact LX gz
 ·exact LX (hF c X C _)
def evY(A:td)(fl:Str)(n:Nat):Nat->CI->QP->MY
 | 0=>λz z=>EM im
 | m+1=>Pq A fl (ev n).1 (ev n).2 (evS n m) (evY A fl n m)
theorem Sh(n:Nat):∀ m:Nat,∀ c X,jK k c X->XOk X E'->∀ s,DY X A fl E' s (evY A fl n m c s)
 | 0=>λz z z z z=>LX gz
 | m+1=>λz z C O s=>Pp (rT n).1 (rT n).2 (Kd n m) (Sh n m) C O s
def Wv(A:td)(fl:Str)(c:CI)(body:List QP):MY:=Mr (body.map (evY A fl 40 20 c))
end
def cOfY(N:List Str)(st:QP)(gs:List 0.8)(mt:List Nat):CI:=⟨N,ax st,true,gs,mt,false⟩
theorem YW{K:aeH}{k:Nat}{st:QP}{gs:List 0.8}{mt:List Nat}
  (F:bP K mg x st) (Sc:aP N ps (ax st)) (hb:sN x st ps) (hg:∀ p∈gs,GK P w K mg base k p) :
  FnY P w K mg base (k+1) x ps.length (Fu N (Wv C fl (cOfY N st gs mt) (aK st)) ps.length) C fl:=
 qaU F Sc hb λa cdv A outer s H E hr=>sU (Sh 40 20 _ _ (k:=k) ⟨rfl,Sc.nd,rfl,Sc.kind,λq q=>rfl,rfl,hr,PassesOwn.leaving,(λz=>by cases z),λp hp=>by
  have:=hg p hp;obtain⟨x,g⟩:=p
  cases g<;>exact this⟩ xok) _
def GKs(P:vx)(w:Pn)(K:aeH)(mg:Str->Option ce)(base:Ud)(k:Nat):List 0.8->Prop
 | []=>True
 | p::r=>GK P w K mg base k p/\GKs P w K mg base k r
theorem GKs.mem{K:aeH}{k:Nat}:∀ {gs:List 0.8},GKs P w K mg base k gs->∀ p∈gs,GK P w K mg base k p
 | q::r,h,p,hp=>by
  rcases aaG.mp hp with rfl | hp
  ·exact h.1
  ·exact GKs.mem h.2 p hp
theorem qa5{K:aeH}{k:Nat}{st:QP}{mt:List Nat}(F:bP K mg "law" st)(hfa:mg "law" = Y (.ref fa))(Sc:aP N ["_law_script"] (ax st))
  (hbt:∀ (kV doc pm:ce) (an:Option td) (cdv ct v:ce),bindArgs (W.fnOf "law" "law" (iL st) (aK st) (ax st) .none kV doc pm an cdv ct) ⟨[v],[]⟩=pure [(("_law_script":Str),v)])
  (hg:∀ base,GKs P w K mg base k gs) :
  ∃ fd:FuncData,(∀ (s:gV) (v:ce),BindsTo s fd ⟨[v],[]⟩ [("_law_script",v)])/\∀ base:Ud,K.In base->base.Ns Zn mg->FnOk P w K mg base HY (k+1) fa fd ["_law_script"] (Px K 1 (aT N 1.61 1)):=
 qa4 F hfa Sc hbt λbase a cdv A outer s H E hr=>Sv (k:=k) ⟨rfl,Sc.nd,rfl,Sc.kind,λz z=>rfl,rfl,hr,ady,λz=>⟨rfl,rfl,rfl,rfl⟩,λp hp=>by
  have:=GKs.mem (hg base) p hp;obtain⟨x,g⟩:=p
  cases g<;>exact this⟩ _
section
variable{P:List ce->Prop}
theorem iN(h:P []):∀ us:List ce,us.length=0->P us:=λus e=>by rw[abv e];exact h
theorem cA{n:Nat}(h:∀ a,∀ us:List ce,us.length=n->P (a::us)):∀ us:List ce,us.length=n+1->P us:=λus e=>by
 cases us with
 | nil=>cases e
 | cons a us=>exact h a us (Nat.succ.inj e)
end
section
variable{P:vx}{w:Pn}{K:aeH}{mg:Str->Option ce}{base:Ud}{k:Nat}{x:Str}{st:QP}{N ps:List Str}{gs:List (Str×GI)}{mt:List Nat}
theorem GK.up{k':Nat}(h:k<=k'):∀ {p:Str×GI},GK P w K mg base k p->GK P w K mg base k' p
 | (_,.fn _ _),g=>Fn.up g h
 | (_,.con _),g=>g
 | (_,.blt),g=>g
 | (_,.tab _),g=>g
 | (_,.ftab _),g=>FTab.up g h
 | (_,.thr _ _ _ _ _),g=>FnY.up g h
 | (_,.hnd _),g=>g
 | (_,.rse _ _),g=>⟨aaF g.1 h,g.2⟩
end
def kE(P:Params)(x:Str)(t:Nat)(v:ce):DictEntry:=⟨PyData.keyHash P x,.str x t,v⟩
def kC(x:Str)(t l n a b:Nat)(u v:ce)(c d:Nat):Obj:=⟨.type "code",L,.fields #[.str x t,.str x (t+1),.str "/claim/cut.py" (t+2),.int l 0,.int n 0,.int 0 0,.int 0 0,.int 3 0,.ref a,.bool true,.int 181 0,.ref b,.none,u,v,.ref c,.int d 0,.int l 0,.str "/claim/cut.py" (d+1)],#[]⟩
def kF(x:Str)(st:QP)(m:Str)(t c:Nat):Obj:=⟨.type "function",L,.func (W.fnOf x x (iL st) (aK st) (ax st) .none .none .none (.str m t) L (.ref c) .none),#[]⟩
theorem cV{K:aeH}(X:K.In h)(G:h.Ns Zn mg){st:QP}(m:Str)(f t c:Nat)(e:(W.nsIn K Zn x,K.lookup f,W.codeIn K (.ref c) x,W.keepIn K (.ref f))=(Y (Y (.ref f)),Y (kF x st m t c),true,true)):bP K mg x st:=by
 have e1:=congrArg (·.1) e;have e2:=congrArg (·.2.1) e;have e3:=congrArg (·.2.2.1) e;have e4:=congrArg (·.2.2.2) e;exact⟨_,_,qaO (st:=st) (show K.lookup f=Y ⟨.type "function",L,.func (W.fnOf x x (iL st) (aK st) (ax st) .none .none .none (.str m t) L (.ref c) .none),#[]⟩ from e2) e3 e4,ace X G e1⟩
theorem bg{K:aeH}{k:Nat}{st:QP}{mt:List Nat}
  (F:bP K mg x st) (Sc:aP N ps (ax st)) (hb:sN x st ps) (hg:GKs P w K mg base k gs):Fn P w K mg base (k+1) x ps.length (aT N 1.61 ps.length):=Tf F Sc hb (GKs.mem hg)
theorem ji{m:MS}(h:gH c b=m):aT N (gH c b) n=aT N m n:=by rw[h]
def kX(x:Str)(C N:Nat)(bs bm sub:List ce)(a t u:Nat):Obj:=excClassObj x x C N bs bm true [] sub false L L (Y (.ref a)) L (Y (.str x t)) (Y (.str x u)) (Y 1.37) "ValueError.__new__"
def kI(q:Str)(st:QP)(m:Str)(t c:Nat):Obj:=⟨.type "function",L,.func (W.fnOf "__init__" q (iL st) (aK st) (ax st) .none .none .none (.str m t) L (.ref c) .none),#[]⟩
def Xj(s:QP):QP:=match s with
 | .ClassDef _ _ _ (d::_) _ _ _ _ _ _ _=>d
 | s=>s
def strB(es:Array DictEntry):Bool:=es.toList.all λe=>match e.key with | .str _ _=>true | _=>false
theorem Uy(h:strB es=true):StrKeys es:=λe he=>by
 have:=aan.mp h e (by simpa using he);split at this
 ·exact⟨_,_,by assumption⟩
 ·cases this
def nsX(K:aeH)(N:td)(y:Str):Option 1.04:=match K.lookup N with
 | some ⟨_,_,.dict es _,_⟩=>if strB es=true then Y ((es.toList.find? (·.key.isStr y)).map (·.val)) else L
 | _=>L
theorem Qx{K:aeH}(h:nsX K N y=Y v):∃ m:Str->Option ce,m y=v/\∀ h:Ud,K.In h->h.Ns N m:=by
 unfold nsX at h;split at h
 ·rename_i c d es n sl q;split at h
  ·rename_i hs;cases h;exact⟨nsFind es,by unfold nsFind findBy;rw[<- Array.find?_toList],λh X=>⟨_,es,n,X _ _ q,rfl,Uy hs,λz=>rfl⟩⟩
  ·cases h
 ·cases h
theorem isK{K:aeH}{bs sub:List ce}(e:K.lookup C=Y (kX x C N bs bm sub a t u)):zQ K C bm:=⟨_,_,_,_,_,_,_,_,_,_,_,_,_,_,_,_,λh X=>X _ _ e⟩
section
variable{w:Pn}{K:aeH}{h:Ud}{mg:Str->Option ce}
theorem rseK(X:K.In h)(G:h.Ns Zn mg){q:Str}{st:QP}(md:Str)(C N Gd NG f c t aC tC uC aG tG uG:Nat)(subC subG:List ce)
  (hb:aK st=[.Assign [.Attribute (.Name a p1) fl p2] (.Name b p3) p4]) (Sc:aP [a,b] [a,b] (ax st))
  (bd:∀ us:List ce,us.length=2->bindArgs (W.fnOf "__init__" q (iL st) (aK st) (ax st) .none .none .none (.str md t) L (.ref c) .none) ⟨us,[]⟩=pure ([a,b].zip us))
  (a1:(a==("__debug__":Str))=false) (a2:(a==("__classdict__":Str))=false) (b1:(b==("__debug__":Str))=false) (b2:(b==("__classdict__":Str))=false)
  (e:(W.nsIn K Zn x,K.lookup C,K.lookup Gd,nsX K N "__init__",nsX K NG "__init__",K.lookup f,W.codeIn K (.ref c) q) =
   (Y (Y (.ref C)),Y (kX x C N [.ref Gd] (.ref Gd::HT.pE) subC aC tC uC),Y (kX g Gd NG [.type "ValueError"] HT.pE subG aG tG uG),Y (Y (.ref f)),Y L,Y (kI q st md t c),true))
  (ec:(W.findIn K (.ref C) "__setattr__",HT.xo K C,W.takerIn K C fl,W.hasDictIn K C)=(Y (Y (.builtin "object.__setattr__")),true,Y L,true)) :
  ∀ P base,HU P w K mg base x C fl:=λP base=>by
 have e1:=congrArg (·.1) e;have e2:=congrArg (·.2.1) e;have e3:=congrArg (·.2.2.1) e;obtain⟨mN,hm,hN⟩:=Qx (congrArg (·.2.2.2.1) e);obtain⟨mG,hg,hG⟩:=Qx (congrArg (·.2.2.2.2.1) e);have e6:=congrArg (·.2.2.2.2.2.1) e;have e7:=congrArg (·.2.2.2.2.2.2) e;dsimp only at e1 e2 e3 e6 e7;have cc:zR K C fl:=⟨congrArg (·.1) ec,congrArg (·.2.1) ec,congrArg (·.2.2.1) ec,congrArg (·.2.2.2) ec⟩
 refine⟨f,⟨_,_,N,_,_,_,_,_,_,_,_,_,_,_,_,_,_,mN,HT.pE,"ValueError",_,hm,F.excBase_ValueError,(show(Value.ref Gd::HT.pE).contains (.type "BaseException")=true from rfl),λh X=>⟨X _ _ e2,hN h X,.own (X _ _ e3) (hG h X) hg .base,_,X _ _ e6,rfl⟩⟩,?_,ace X G e1⟩
 have F:=Wa (P:=P) (w:=w) (K:=K) (mg:=mg) (base:=base) (k:=0) (C:=C) (f:=f) (fl:=fl) (name:="__init__") (qual:=q) (a:=a) (b:=b) (params:=iL st) (scope:=ax st) (p1:=p1) (p2:=p2) (p3:=p3) (pos:=p4) (dV:=.none) (kV:=.none) (doc:=.none) (pm:=.str md t) (cdv:=.ref c) (ct:=.none) (an:=L)
  (by rw[<- hb];exact e6) e7 Sc a1 a2 b1 b2
 rw[<- hb] at F;exact VZ F (Binds.all bd) rfl cc
theorem hndK(X:K.In h)(G:h.Ns Zn mg)(C N Gd NG aC tC uC aG tG uG:Nat)(bs bm bsG bmG subC subG:List ce)
  (e:(W.nsIn K Zn g,K.lookup C,K.lookup Gd,(Value.ref C::bm).contains (.ref Gd),bmG.contains (.type "BaseException"))=(Y (Y (.ref Gd)),Y (kX x C N bs bm subC aC tC uC),Y (kX g Gd NG bsG bmG subG aG tG uG),true,true)):HW K mg g C:=
 ⟨Gd,bm,bmG,ace X G (congrArg (·.1) e),isK (congrArg (·.2.1) e),isK (congrArg (·.2.2.1) e),congrArg (·.2.2.2.1) e,congrArg (·.2.2.2.2) e⟩
end
theorem meY{m:MY}(h:Wv A fl c b=m):Fu N (Wv A fl c b) n=Fu N m n:=by rw[h]
section
variable{env e:bf}{S S':ac}{x y d:D}{f g:ac->D->D->Option D}{a b c:ME}{ms:MA}{t u:MT}{k l:Bool}{p q:MS}{tg:MG}
@[simp high] theorem ob{α β:Type}{a:α}{f:α->Option β}:(Y a).bind f=f a:=id rfl
@[simp high] theorem obn{α β:Type}{f:α->Option β}:(L:Option α).bind f=L:=id rfl
@[simp high] theorem oj{α:Type}{a:Option α}:(Y a).join=a:=rfl
@[simp high] theorem bJ{α:Type}{a:α}{l:List α}:(a::l)[0]?=Y a:=rfl
@[simp high] theorem bQ{α:Type}{a b:α}{l:List α}:(a::b::l)[1]?=Y b:=rfl
@[simp high] theorem bR{α:Type}{a:α}{l:List α}{i:Nat}:(a::l)[i+1]?=l[i]?:=rfl
@[simp high] theorem eD{α:Type}{a b:α}{l:List α}:(a::l).set 0 b=b::l:=rfl
@[simp high] theorem fo{α:Type}{a b:α}{l:List α}{i:Nat}:(a::l).set (i+1) b=a::l.set i b:=rfl
def AK(S:ac)(z:D):Option (D×ac):=Y (z,S)
@[simp] theorem ah:AK S d=Y (d,S):=rfl
@[simp] theorem be:mC d env S=Y (d,S):=by rw[yL];rfl
@[simp] theorem ai:af i env S=(env[i]?).join.bind (AK S):=by rw[Lm];rfl
def qaj(f:ac->D->D->Option D)(x:D)(q:D×ac):Option (D×ac):=(f q.2 x q.1).bind (AK q.2)
def kOp1(f:ac->D->D->Option D)(b:ME)(env:bf)(q:D×ac):Option (D×ac):=(b env q.2).bind (qaj f q.1)
@[simp] theorem aw:kOp1 f b env (x,S)=(b env S).bind (qaj f x):=id rfl
@[simp] theorem av:qaj f x (y,S)=(f S x y).bind (AK S):=id rfl
@[simp] theorem aF:aB f a b env S=(a env S).bind (kOp1 f b env):=by rw[nh];rfl
def XW(q:D×ac):Option (Bool×ac):=match q.1 with | .bl k=>Y (k,q.2) | _=>L
@[simp] theorem aN:XW (.bl k,S)=Y (k,S):=id rfl
@[simp] theorem aO:aI a env S=(a env S).bind XW:=by rw[yH];rfl
def qaz(g:ac->D->D->Option D)(y:D)(q:D×ac):Option (D×ac):=(g q.2 y q.1).bind (AK q.2)
def Rr(g:ac->D->D->Option D)(c:ME)(env:bf)(y:D)(S:ac)(z:D):Option (D×ac):=match z with
 | .bl true=>(c env S).bind (qaz g y)
 | .bl false=>Y 2.5
 | _=>L
def VT(f g:ac->D->D->Option D)(c:ME)(env:bf)(x:D)(q:D×ac):Option (D×ac):=(f q.2 x q.1).bind (Rr g c env q.1 q.2)
def qaA(f g:ac->D->D->Option D)(b c:ME)(env:bf)(q:D×ac):Option (D×ac):=(b env q.2).bind (VT f g c env q.1)
@[simp] theorem kCh1_s:qaA f g b c env (x,S)=(b env S).bind (VT f g c env x):=id rfl
@[simp] theorem kCh2_s:VT f g c env x (y,S)=(f S x y).bind (Rr g c env y S):=id rfl
@[simp] theorem kChz_t:Rr g c env y S 4.3=(c env S).bind (qaz g y):=id rfl
@[simp] theorem kChz_f:Rr g c env y S 1.6=Y 2.5:=id rfl
@[simp] theorem kCh3_s:qaz g y (x,S)=(g S y x).bind (AK S):=id rfl
@[simp] theorem mChain_s:dL f g a b c env S=(a env S).bind (qaA f g b c env):=by
 rw[vb];unfold M.dL qaA VT Rr
 congr 1
def GN(q:D×ac):Option (Bool×ac):=(xO q.2 q.1).bind λk=>Y (k,q.2)
@[simp] theorem cC:GN (.bl k,S)=Y (k,S):=id rfl
@[simp] theorem kTru_n:GN (.non,S)=Y 1.89:=id rfl
@[simp] theorem kTru_i:GN (.int i,S)=Y (i != 0,S):=id rfl
@[simp] theorem kTru_t:GN 1.74=Y (!xs.isEmpty,S):=id rfl
@[simp] theorem qab:GN 1.34=Y (!xs.isEmpty,S):=id rfl
@[simp] theorem cw:dA a env S=(a env S).bind GN:=by rw[DH];rfl
def Ru(u:MT)(env:bf)(q:Bool×ac):Option (Bool×ac):=if q.1=true then u env q.2 else Y (false,q.2)
def qai(u:MT)(env:bf)(q:Bool×ac):Option (Bool×ac):=if q.1=true then Y (true,q.2) else u env q.2
def XZ(q:Bool×ac):Option (Bool×ac):=Y (!q.1,q.2)
@[simp] theorem oU:Ru u env (true,S)=u env S:=id rfl
@[simp] theorem Ec:Ru u env 1.89=Y 1.89:=id rfl
@[simp] theorem ls:qai u env (true,S)=Y (true,S):=id rfl
@[simp] theorem fX:qai u env 1.89=u env S:=id rfl
@[simp] theorem cy:XZ (k,S)=Y (!k,S):=id rfl
@[simp] theorem qO:eg t u env S=(t env S).bind (Ru u env):=by rw[yM];rfl
@[simp] theorem dY:fI t u env S=(t env S).bind (qai u env):=by rw[DJ];rfl
@[simp] theorem cx:cS t env S=(t env S).bind XZ:=by rw[Gs];rfl
@[simp] theorem eO:bK env S=Y (true,S):=by rw[Go];rfl
def VU(b:ME)(env:bf)(q:D×ac):Option (D×ac):=(xO q.2 q.1).bind λk=>if k=true then b env q.2 else Y (q.1,q.2)
def XY(b:ME)(env:bf)(q:D×ac):Option (D×ac):=(xO q.2 q.1).bind λk=>if k=true then Y (q.1,q.2) else b env q.2
@[simp] theorem kj:VU b env 2.9=b env S:=id rfl
@[simp] theorem nq:VU b env 2.5=Y 2.5:=id rfl
@[simp] theorem LB:XY b env 2.9=Y 2.9:=id rfl
@[simp] theorem Rj:XY b env 2.5=b env S:=id rfl
@[simp] theorem ez:eh a b env S=(a env S).bind (VU b env):=by rw[Lz];rfl
@[simp] theorem Gq:wQ a b env S=(a env S).bind (XY b env):=by rw[QK];rfl
def GP(q:D×ac):Option (D×ac):=(xO q.2 q.1).bind λk=>Y (.bl (!k),q.2)
@[simp] theorem VN:GP 1.34=Y (.bl (!!xs.isEmpty),S):=id rfl
@[simp] theorem kNotV_t:GP 1.74=Y (.bl (!!xs.isEmpty),S):=id rfl
@[simp] theorem kOr_c{d:D}{ds:List D}:XY b env (.lst (d::ds),S)=Y (.lst (d::ds),S):=id rfl
@[simp] theorem kOr_e:XY b env (.lst [],S)=b env S:=id rfl
@[simp] theorem kNotV_s:GP (.bl k,S)=Y (.bl (!k),S):=id rfl
@[simp] theorem Lr:jf a env S=(a env S).bind GP:=by rw[Gr];rfl
def kIf(a b:ME)(env:bf)(q:Bool×ac):Option (D×ac):=if q.1=true then a env q.2 else b env q.2
@[simp] theorem BG:kIf a b env (true,S)=a env S:=id rfl
@[simp] theorem LC:kIf a b env 1.89=b env S:=id rfl
@[simp] theorem ph:qa t a b env S=(t env S).bind (kIf a b env):=by rw[QO];rfl
@[simp] theorem ay:ak env S=Y ([],S):=by rw[DK];rfl
def JH(x:D)(q:List D×ac):Option (List D×ac):=Y (x::q.1,q.2)
def Rq(ms:MA)(env:bf)(q:D×ac):Option (List D×ac):=(ms env q.2).bind (JH q.1)
@[simp] theorem ao{xs:List D}:JH x (xs,S)=Y (x::xs,S):=id rfl
@[simp] theorem aq:Rq ms env (x,S)=(ms env S).bind (JH x):=id rfl
@[simp] theorem ar:aa a ms env S=(a env S).bind (Rq ms env):=by rw[GE];rfl
def cI(q:List D×ac):Option (D×ac):=if q.1.length<=UJ then Y (.tup q.1,q.2) else L
def pq(q:List D×ac):Option (D×ac):=if q.1.length<=UJ then Y 1.85 else L
def vT(q:List D×ac):Option (D×ac):=if q.1.length<=UJ then Y (.ref q.2.length,q.2++[.lst q.1]) else L
theorem sz{n:Nat}(h:n<=1000):n<=UJ:=aaF h 0.1
theorem aY{xs:List D}(h:xs.length<=1000):cI (xs,S)=Y 1.74:=aas (sz h)
theorem eI{xs:List D}(h:xs.length<=1000):pq (xs,S)=Y 1.34:=aas (sz h)
theorem nP{xs:List D}(h:xs.length<=1000):vT (xs,S)=Y (.ref S.length,S++[.lst xs]):=aas (sz h)
def ga:∀ S (x y:D),cI ([x,y],S)=Y (.tup [x,y],S):=λS x y=>aY 0.4
def io:∀ S (x y:D),pq ([x,y],S)=Y (.lst [x,y],S):=λS x y=>eI 0.4
def wy:∀ S (x:D),cI ([x],S)=Y (.tup [x],S):=λS x=>aY 0.4
def KT:∀ S (x:D),pq ([x],S)=Y (.lst [x],S):=λS x=>eI 0.4
def Lx:∀ S (x y z w:D),cI ([x,y,z,w],S)=Y (.tup [x,y,z,w],S):=λS x y z w=>aY 0.4
def Mn:∀ S (x y z u:D),cI ([x,y,z,u],S)=Y (.tup [x,y,z,u],S):=λS x y z u=>aY 0.4
@[simp] theorem bv:bb ms env S=(ms env S).bind cI:=by rw[Ln];rfl
@[simp] theorem jo:eu ms env S=(ms env S).bind pq:=by rw[Ls];rfl
@[simp] theorem tQ:gb ms env S=(ms env S).bind vT:=by rw[Gv];rfl
def Yc(f:List D->ac->Option (D×ac))(q:List D×ac):Option (D×ac):=f q.1 q.2
@[simp] theorem bU{f:List D->ac->Option (D×ac)}{xs:List D}:Yc f (xs,S)=f xs S:=id rfl
@[simp] theorem bT{f:List D->ac->Option (D×ac)}:bG f ms env S=(ms env S).bind (Yc f):=by rw[iz];rfl
def qd(n:Nat)(f:List D->ac->Option (D×ac))(q:List D×ac):Option (D×ac):=if q.1.length=n then f q.1 q.2 else L
@[simp] theorem kCallN_0{f:List D->ac->Option (D×ac)}:qd 0 f ([],S)=f [] S:=id rfl
@[simp] theorem jq{f:List D->ac->Option (D×ac)}:qd 1 f ([x],S)=f [x] S:=id rfl
@[simp] theorem aU{f:List D->ac->Option (D×ac)}:qd 2 f ([x,y],S)=f [x,y] S:=id rfl
@[simp] theorem bV{f:List D->ac->Option (D×ac)}{z:D}:qd 3 f ([x,y,z],S)=f [x,y,z] S:=id rfl
@[simp] theorem kCallN_4{f:List D->ac->Option (D×ac)}{z w:D}:qd 4 f ([x,y,z,w],S)=f [x,y,z,w] S:=id rfl
@[simp] theorem aA{n:Nat}{f:List D->ac->Option (D×ac)}:au n f ms env S=(ms env S).bind (qd n f):=by rw[vc];rfl
def kIsI(T:String)(q:D×ac):Option (D×ac):=(og T q.2 q.1).bind (AK q.2)
@[simp] theorem gq:kIsI T (x,S)=(og T S x).bind (AK S):=id rfl
@[simp] theorem gj:iw T a env S=(a env S).bind (kIsI T):=by rw[Lu];rfl
def kUn(f:ac->D->Option D)(q:D×ac):Option (D×ac):=(f q.2 q.1).bind (AK q.2)
@[simp] theorem XV{f:ac->D->Option D}:kUn f (x,S)=(f S x).bind (AK S):=id rfl
@[simp] theorem XS{f:ac->D->Option D}:AH f a env S=(a env S).bind (kUn f):=by rw[QJ];rfl
@[simp] theorem da:bD env S=Y (L,S):=by rw[BA];rfl
def XX(q:D×ac):Option (Option Int×ac):=match q.1 with | .int i=>Y (Y i,q.2) | _=>L
@[simp] theorem dQ:XX (.int i,S)=Y (Y i,S):=id rfl
@[simp] theorem dP:bS a env S=(a env S).bind XX:=by rw[Gp];rfl
def eZ(x:D)(l:Option Int)(q:Option Int×ac):Option (D×ac):=match x with
 | .tup xs=>Y (.tup (iC xs l q.1),q.2)
 | .lst xs=>Y 1.99
 | .rol xs=>Y 1.99
 | .ref r=>match q.2[r]? with | some 2.2=>Y 1.99 | _=>L
 | _=>L
theorem Rh{r:Nat}{l h:Option Int}(hr:S[r]?=Y 2.2):eZ (.ref r) l (h,S)=Y 2.44:=by
 show(match S[r]? with | some 2.2=>Y (D.lst (iC xs l h),S) | _=>L)=_;rw[hr]
def qad(hi:MO)(env:bf)(x:D)(q:Option Int×ac):Option (D×ac):=(hi env q.2).bind (eZ x q.1)
def kSl1(lo hi:MO)(env:bf)(q:D×ac):Option (D×ac):=(lo env q.2).bind (qad hi env q.1)
@[simp] theorem fC{lo:MO}:kSl1 lo hi env (x,S)=(lo env S).bind (qad hi env x):=id rfl
@[simp] theorem fB{l:Option Int}:qad hi env x (l,S)=(hi env S).bind (eZ x l):=id rfl
@[simp] theorem nk{l h:Option Int}:eZ 5.2 l (h,S)=Y (.tup (iC xs l h),S):=id rfl
@[simp] theorem JE{l h:Option Int}:eZ 2.2 l (h,S)=Y 2.44:=id rfl
@[simp] theorem kSl3_r{l h:Option Int}:eZ (.rol xs) l (h,S)=Y 2.44:=id rfl
@[simp] theorem cR{lo:MO}:bw a lo hi env S=(a env S).bind (kSl1 lo hi env):=by rw[Bz];rfl
@[simp] theorem bz:bq env S=Y 1.16:=by rw[pZ];rfl
def Ri(q:MS):se->Option se
 | .nx e S=>q e S
 | .rt d S=>Y 1.76
 | .bk e S=>Y (.bk e S)
 | .ct e S=>Y (.ct e S)
@[simp] theorem aE:Ri q 1.98=q e S:=id rfl
@[simp] theorem bC:Ri q 1.76=Y 1.76:=id rfl
@[simp] theorem kSeq_bk:Ri q (.bk e S)=Y (.bk e S):=id rfl
@[simp] theorem kSeq_ct:Ri q (.ct e S)=Y (.ct e S):=id rfl
@[simp] theorem aQ:aM p q env S=(p env S).bind (Ri q):=by rw[Lo];unfold M.aM;congr 1;funext o;cases o<;>rfl
def kRt(q:D×ac):Option se:=Y (.rt q.1 q.2)
@[simp] theorem ba:kRt (d,S)=Y 1.76:=id rfl
@[simp] theorem aJ:bu a env S=(a env S).bind kRt:=by rw[Lp];rfl
def Ya(env:bf)(q:D×ac):Option se:=Y (.nx env q.2)
@[simp] theorem qQ:Ya env (d,S)=Y 1.16:=id rfl
@[simp] theorem qN:gd a env S=(a env S).bind (Ya env):=by rw[Gz];rfl
def qal(p q:MS)(env:bf)(r:Bool×ac):Option se:=if r.1=true then p env r.2 else q env r.2
@[simp] theorem bL:qal p q env (true,S)=p env S:=id rfl
@[simp] theorem bO:qal p q env 1.89=q env S:=id rfl
@[simp] theorem bp:cr t p q env S=(t env S).bind (qal p q env):=by rw[Lv];rfl
def kNx(q:bf×ac):Option se:=Y (.nx q.1 q.2)
@[simp] theorem bX:kNx (e,S)=Y 1.98:=id rfl
def kAsg(tg:MG)(env:bf)(q:D×ac):Option se:=(tg q.1 env q.2).bind kNx
@[simp] theorem bB:kAsg tg env (d,S)=(tg d env S).bind kNx:=id rfl
@[simp] theorem bA:aV a tg env S=(a env S).bind (kAsg tg env):=by rw[kD];rfl
@[simp] theorem aR:aj i d env S=Y (env.set i (Y d),S):=by rw[qU];rfl
@[simp] theorem bY:aZ [] env S=Y (env,S):=by rw[Hi];rfl
def kGs(gs:uH)(r:List D)(q:bf×ac):Option (bf×ac):=gs r q.1 q.2
@[simp] theorem cU:kGs gs r (e,S)=gs r e S:=id rfl
@[simp] theorem bH{r:List D}:ag tg gs (d::r) env S=(tg d env S).bind (kGs gs r):=by rw[BU];rfl
@[simp] theorem cL:bo 2 gs 1.50 env S=gs [x,y] env S:=by rw[nV];rfl
@[simp] theorem qT{z:D}:bo 3 gs 1.46 env S=gs [x,y,z] env S:=by rw[nV];rfl
@[simp] theorem mV{z w:D}:bo 4 gs 2.10 env S=gs [x,y,z,w] env S:=by rw[nV];rfl
def GO(env:bf)(d:D)(r:Nat)(k:Int)(S:ac):Option (bf×ac):=match S[r]? with
 | some 2.2=>(JJ xs.length k).bind λj=>Y (env,S.set r 2.52)
 | _=>L
def LA(env:bf)(d o:D)(q:D×ac):Option (bf×ac):=match o,q.1 with
 | .ref r,.int k=>GO env d r k q.2
 | _,_=>L
def Rg(i:ME)(env:bf)(d:D)(q:D×ac):Option (bf×ac):=(i env q.2).bind (LA env d q.1)
@[simp] theorem kSub1_s:Rg a env d (x,S)=(a env S).bind (LA env d x):=id rfl
@[simp] theorem kSub2_s:LA env d (.ref r) (.int i,S)=GO env d r i S:=id rfl
theorem yQ{r:Nat}(h:S[r]?=Y 2.2)(hj:JJ xs.length i=Y j):GO env d r i S=Y (env,S.set r 2.52):=by
 unfold GO;rw[h];show(JJ xs.length i).bind _=_;rw[hj];rfl
@[simp] theorem gSubD_s:il a b d env S=(a env S).bind (Rg b env d):=by
 rw[Hh];unfold M.il Rg LA GO;congr 1
def kFor(tg:MG)(p:MS)(env:bf)(q:List D×ac):Option se:=cO tg p q.1 env q.2
@[simp] theorem Ea{xs:List D}:kFor tg p env (xs,S)=cO tg p xs env S:=id rfl
@[simp] theorem DL:mQ ms tg p env S=(ms env S).bind (kFor tg p env):=by rw[Lw];rfl
def NA(tg:MG)(p:MS)(xs:List D):se->Option se
 | .nx e s=>cO tg p xs e s
 | .ct e s=>cO tg p xs e s
 | .bk e s=>Y 1.97
 | .rt d s=>Y 1.96
def kLp1(tg:MG)(p:MS)(xs:List D)(q:bf×ac):Option se:=(p q.1 q.2).bind (NA tg p xs)
@[simp] theorem oS:kLp1 tg p xs (e,S)=(p e S).bind (NA tg p xs):=id rfl
@[simp] theorem mU:NA tg p xs 1.98=cO tg p xs e S:=id rfl
@[simp] theorem kLp2_ct:NA tg p xs (.ct e S)=cO tg p xs e S:=id rfl
@[simp] theorem kLp2_bk:NA tg p xs (.bk e S)=Y 1.98:=id rfl
@[simp] theorem tV:NA tg p xs 1.76=Y 1.76:=id rfl
@[simp] theorem uX:cO tg p [] env S=Y 1.16:=id rfl
theorem fz{xs:List D}:cO tg p (d::xs) env S=(tg d env S).bind (kLp1 tg p xs):=by
 show(tg d env S).bind _=_
 first | rfl | (congr 1;funext q;show(p q.1 q.2).bind _=(p q.1 q.2).bind _;congr 1;funext o;cases o<;>rfl)
def GR(q:D×ac):Option (List D×ac):=match q.1 with | .lst xs=>Y (xs,q.2) | .rol xs=>Y (xs,q.2) | .tup xs=>Y (xs,q.2) | _=>L
@[simp] theorem sB:GR 1.34=Y (xs,S):=id rfl
@[simp] theorem kItS_r:GR (.rol xs,S)=Y (xs,S):=id rfl
@[simp] theorem vj:GR 1.74=Y (xs,S):=id rfl
@[simp] theorem db:di a env S=(a env S).bind GR:=by rw[xy];rfl
def OP(q:List D×ac):Option (List D×ac):=match q.1 with | [.int j]=>if -(2^62)<=j/\j<2^62 then Y (dw 0 j.toNat,q.2) else L | _=>L
theorem vi{j:Int}(h:-1000000<=j)(h':j<=1000000):OP ([.int j],S)=Y (dw 0 j.toNat,S):=aas ⟨by omega,by omega⟩
@[simp] theorem hJ:cB ms env S=(ms env S).bind OP:=by rw[sv];rfl
def JI(q:List D×ac):Option (D×ac):=Y 1.85
def jp(g:MG)(t:MT)(e:ME)(cap:List 5.9)(env:bf)(q:List D×ac):Option (D×ac):=if q.1.length<=UJ then(dF g t e q.1 1.80 q.2).bind JI else L
theorem ej{xs:List D}(h:xs.length<=1000):jp tg t a cap env (xs,S)=(dF tg t a xs 1.80 S).bind JI:=aas (sz h)
@[simp] theorem eo{xs:List D}:JI (xs,S)=Y 1.34:=id rfl
@[simp] theorem ci:bZ ms tg t a cap env S=(ms env S).bind (jp tg t a cap env):=by rw[yK];rfl
def qax(x:D)(q:List D×ac):Option (List D×ac):=Y (x::q.1,q.2)
def qay(g:MG)(t:MT)(e:ME)(xs:List D)(env:bf)(q:D×ac):Option (List D×ac):=(dF g t e xs env q.2).bind (qax q.1)
def VS(g:MG)(t:MT)(e:ME)(xs:List D)(env:bf)(q:Bool×ac):Option (List D×ac):=if q.1=true then(e env q.2).bind (qay g t e xs env) else dF g t e xs env q.2
def kCl1(g:MG)(t:MT)(e:ME)(xs:List D)(q:bf×ac):Option (List D×ac):=(t q.1 q.2).bind (VS g t e xs q.1)
@[simp] theorem kh:kCl1 tg t a xs (e,S)=(t e S).bind (VS tg t a xs e):=id rfl
@[simp] theorem kg:VS tg t a xs e (true,S)=(a e S).bind (qay tg t a xs e):=id rfl
@[simp] theorem yX:VS tg t a xs e 1.89=dF tg t a xs e S:=id rfl
@[simp] theorem kf:qay tg t a xs e (d,S)=(dF tg t a xs e S).bind (qax d):=id rfl
@[simp] theorem jZ{xs:List D}:qax d (xs,S)=Y (d::xs,S):=id rfl
@[simp] theorem fA:dF tg t a [] env S=Y ([],S):=id rfl
theorem cT{xs:List D}:dF tg t a (d::xs) env S=(tg d env S).bind (kCl1 tg t a xs):=id rfl
def qaC(x:D)(q:List D×bf×ac):Option (List D×bf×ac):=Y (x::q.1,q.2)
def qaE(g:MG)(t:MT)(e:ME)(xs:List D)(env:bf)(q:D×ac):Option (List D×bf×ac):=(lq g t e xs env q.2).bind (qaC q.1)
def qaG(g:MG)(t:MT)(e:ME)(xs:List D)(env:bf)(q:Bool×ac):Option (List D×bf×ac):=if q.1=true then(e env q.2).bind (qaE g t e xs env) else lq g t e xs env q.2
def kCe1(g:MG)(t:MT)(e:ME)(xs:List D)(q:bf×ac):Option (List D×bf×ac):=(t q.1 q.2).bind (qaG g t e xs q.1)
theorem qaH:kCe1 tg t a xs (e,S)=(t e S).bind (qaG tg t a xs e):=id rfl
theorem qaF:qaG tg t a xs e (true,S)=(a e S).bind (qaE tg t a xs e):=id rfl
theorem qaD:qaE tg t a xs e (d,S)=(lq tg t a xs e S).bind (qaC d):=id rfl
theorem qaB{xs:List D}:qaC d (xs,e,S)=Y (d::xs,e,S):=id rfl
theorem Jy:lq tg t a [] env S=Y ([],env,S):=id rfl
theorem GG{xs:List D}:lq tg t a (d::xs) env S=(tg d env S).bind (kCe1 tg t a xs):=id rfl
def qao(r:List D)(z:List D×ac):Option (List D×ac):=Y (r++z.1,z.2)
def qaq(g:MG)(t:MT)(mi:MA)(g2:MG)(t2:MT)(e:ME)(xs:List D)(r:List D×bf×ac):Option (List D×ac):=(jY g t mi g2 t2 e xs r.2.1 r.2.2).bind (qao r.1)
def qas(g:MG)(t:MT)(mi:MA)(g2:MG)(t2:MT)(e:ME)(xs:List D)(env:bf)(q:List D×ac):Option (List D×ac):=(lq g2 t2 e q.1 env q.2).bind (qaq g t mi g2 t2 e xs)
def qau(g:MG)(t:MT)(mi:MA)(g2:MG)(t2:MT)(e:ME)(xs:List D)(env:bf)(q:Bool×ac):Option (List D×ac):=if q.1=true then(mi env q.2).bind (qas g t mi g2 t2 e xs env) else jY g t mi g2 t2 e xs env q.2
def kCo1(g:MG)(t:MT)(mi:MA)(g2:MG)(t2:MT)(e:ME)(xs:List D)(q:bf×ac):Option (List D×ac):=(t q.1 q.2).bind (qau g t mi g2 t2 e xs q.1)
section
variable{g2:MG}{t2:MT}{xs:List D}{mi2:MA}
theorem qav:kCo1 tg t mi2 g2 t2 a xs (e,S)=(t e S).bind (qau tg t mi2 g2 t2 a xs e):=id rfl
theorem qat:qau tg t mi2 g2 t2 a xs e (true,S)=(mi2 e S).bind (qas tg t mi2 g2 t2 a xs e):=id rfl
theorem qar{us:List D}:qas tg t mi2 g2 t2 a xs e (us,S)=(lq g2 t2 a us e S).bind (qaq tg t mi2 g2 t2 a xs):=id rfl
theorem qap{us:List D}:qaq tg t mi2 g2 t2 a xs (us,e,S)=(jY tg t mi2 g2 t2 a xs e S).bind (qao us):=id rfl
theorem qan:qao us (xs,S)=Y (us++xs,S):=id rfl
theorem Jx:jY tg t mi2 g2 t2 a [] env S=Y ([],S):=id rfl
theorem GF:jY tg t mi2 g2 t2 a (d::xs) env S=(tg d env S).bind (kCo1 tg t mi2 g2 t2 a xs):=id rfl
def qam(q:List D×ac):Option (D×ac):=if q.1.length<=UJ then Y 1.85 else L
theorem VQ(h:xs.length<=1000):qam (xs,S)=Y 1.34:=aas (sz h)
def kCo0(g:MG)(t:MT)(mi:MA)(g2:MG)(t2:MT)(e:ME)(cap:List 5.9)(env:bf)(q:List D×ac):Option (D×ac):=(jY g t mi g2 t2 e q.1 1.80 q.2).bind qam
theorem qaw:kCo0 tg t mi2 g2 t2 a cap env (xs,S)=(jY tg t mi2 g2 t2 a xs 1.80 S).bind qam:=id rfl
theorem QQ:dZ ms tg t mi2 g2 t2 a cap env S=(ms env S).bind (kCo0 tg t mi2 g2 t2 a cap env):=by rw[uZ];rfl
end
def Eb(n:Nat)(f:List D->ac->Option (D×ac))(q:List D×ac):Option se:=if q.1.length=n then(f q.1 q.2).bind kRt else L
def Yb(l:List (cj×Nat×(List D->ac->Option (D×ac))))(i:Nat)(ms:MA)(env:bf)(q:D×ac):Option se:=(gm q.1).bind λk=>(ES l k).bind λp=>(ms 2.03 q.2).bind (Eb p.1 p.2)
theorem Rp{l:List (cj×Nat×(List D->ac->Option (D×ac)))}{i n:Nat}{f:List D->ac->Option (D×ac)}{k:cj}(h:gm d=Y k)(h':ES l k=Y (n,f)):Yb l i ms env (d,S)=(ms 2.03 S).bind (Eb n f):=by
 show(gm d).bind _=_;rw[h];show(ES l k).bind _=_;rw[h'];rfl
theorem NC{n:Nat}{f:List D->ac->Option (D×ac)}{xs:List D}(h:xs.length=n):Eb n f (xs,S)=(f xs S).bind kRt:=aas h
theorem VD{l:List (cj×Nat×(List D->ac->Option (D×ac)))}{i:Nat}:kK l i a ms env S=(a env S).bind (Yb l i ms env):=by rw[GA];rfl
@[simp] theorem lv:aH S (.int i) (.int j)=Y (.int (i+j)):=id rfl
theorem cY{xs ys:List D}(h:xs.length+ys.length<=1000):aH S 5.2 (.tup ys)=Y (.tup (xs++ys)):=aas (sz h)
theorem ny{xs ys:List D}(h:xs.length+ys.length<=1000):aH S 2.2 2.23=Y (.lst (xs++ys)):=aas (sz h)
@[simp] theorem qp:pz S (.int i) (.int j)=Y (.int (i - j)):=id rfl
@[simp] theorem LN:Uf S (.int i) (.int j)=Y (.bl (decide (i<j))):=id rfl
@[simp] theorem fLe_i:Ug S (.int i) (.int j)=Y (.bl (decide (i<=j))):=id rfl
@[simp] theorem Sb:Uh S (.int i) (.int j)=Y (.bl (decide (j<i))):=id rfl
@[simp] theorem fGe_i:fGe S (.int i) (.int j)=Y (.bl (decide (j<=i))):=id rfl
@[simp] theorem RV:JW S (.int i)=Y (.int (-i)):=id rfl
theorem ky{j:Int}(h:0<j):kR S (.int i) (.int j)=Y (.int (i%j)):=aas (aal h)
theorem Sd{j:Int}(h:0<j)(h':j<1073741824):NT S (.int i) (.int j)=Y (.int (i / j)):=aas (by show(decide (0<j)&&decide (j<1073741824))=true;rw[aal h,aal h'];rfl)
theorem RU{i j:Int}(h:(decide (0<=j)&&decide (j<=1000000)&&decide (i.natAbs<2^64))=true):AL S (.int i) (.int j)=Y (.int (i^j.toNat)):=aas h
theorem mx(h:tz i j=true):dg S (.int i) (.int j)=Y (.int (i*j)):=aas h
theorem uT{i:Int}(h:-18446744073709551616<i)(h':i<18446744073709551616):tz i j=true:=by
 unfold tz;rw[aal (p:=i.natAbs<18446744073709551616) 0.0];rfl
theorem Dp{j:Int}(h:-18446744073709551616<j)(h':j<18446744073709551616):tz i j=true:=by
 unfold tz;rw[aal (p:=j.natAbs<18446744073709551616) 0.0];simp
@[simp] theorem fIx_t:aD S 5.2 (.int i)=qD xs i:=id rfl
@[simp] theorem RX:aD S 2.2 (.int i)=qD xs i:=id rfl
@[simp] theorem fIx_r:aD S (.rol xs) (.int i)=qD xs i:=id rfl
theorem qV{r:Nat}(h:S[r]?=Y 2.2):aD S (.ref r) (.int i)=qD xs i:=by
 have:lm S (.ref r)=Y xs:=by simp only[lm,h]
 have t:EX S (.ref r)=L:=by simp only[EX,h]
 unfold aD;rw[t];show(lm S (.ref r)).bind _=_;rw[this];rfl
theorem zM{α:Type}{xs:List α}{i:Int}(h0:0<=i)(h:i<xs.length):qD xs i=Y (xs[i.toNat]'(by omega)):=by
 unfold qD JJ;rw[aas h0,aas h];show xs[i.toNat]?=_;rw[aae]
@[simp] theorem Ej:aS fJ [.tup xs] S=Y (.int xs.length,S):=id rfl
@[simp] theorem qb1:aS fJ [.lst xs] S=Y (.int xs.length,S):=id rfl
@[simp] theorem qb0:aS fJ [.rol xs] S=Y (.int xs.length,S):=id rfl
@[simp] theorem fInt1_i:aS oh [.int i] S=Y (.int i,S):=id rfl
@[simp] theorem ut:aS oh [.bl k] S=Y (.int (if k then 1 else 0),S):=id rfl
@[simp] theorem Wr:aS qq [.int i,.int j] S=Y (.int (if j>i then j else i),S):=id rfl
@[simp] theorem Wp:aS LM [.int i,.int j] S=Y (.int (if j<i then j else i),S):=id rfl
@[simp] theorem fSeq1_t{g:List D->D}{xs:List D}:aS (du g) [.tup xs] S=Y (g xs,S):=id rfl
@[simp] theorem ii{g:List D->D}{xs:List D}:aS (du g) [.lst xs] S=Y (g xs,S):=id rfl
theorem zA{bs:List Bool}(h:jz xs=Y bs):aS sH [.lst xs] S=Y (.bl (bs.all id),S):=by
 show((jz xs).bind _).bind _=_;rw[h];rfl
@[simp] theorem pj:AM S x .non=Y (.bl (tZ x .non)):=id rfl
@[simp] theorem fIs_b:AM S x (.bl k)=Y (.bl (tZ x (.bl k))):=id rfl
@[simp] theorem Hw:vq S x .non=Y (.bl (!tZ x .non)):=id rfl
@[simp] theorem fIsNot_b:vq S x (.bl k)=Y (.bl (!tZ x (.bl k))):=id rfl
theorem nw(h:cK 40 x=true)(h':cK 40 y=true):cJ S x y=Y (.bl (iK x y)):=by
 unfold cJ;rw[xF h,xF h'];exact aas ⟨h,h'⟩
theorem sG(h:cK 40 x=true)(h':cK 40 y=true):jx S x y=Y (.bl (!iK x y)):=by
 unfold jx;rw[xF h,xF h'];exact aas ⟨h,h'⟩
@[simp] theorem lu:cJ S (.int i) (.int j)=Y (.bl (i==j)):=nw (by simp[cK]) (by simp[cK])
@[simp] theorem zw:jx S (.int i) (.int j)=Y (.bl (!(i==j))):=sG (by simp[cK]) (by simp[cK])
@[simp] theorem fEq_bb:cJ S (.bl k) (.bl l)=Y (.bl (k==l)):=nw (by simp[cK]) (by simp[cK])
@[simp] theorem dC:cJ S (.str i) (.str j)=Y (.bl (i==j)):=nw (by simp[cK]) (by simp[cK])
@[simp] theorem vp:jx S (.str i) (.str j)=Y (.bl (!(i==j))):=sG (by simp[cK]) (by simp[cK])
theorem jy(hs:lm S y=Y ys)(h:cK 40 x=true)(h':ys.all (cK 39)=true):nv S x y=Y (.bl (ys.any λd=>iK d x)):=by
 unfold nv;rw[hs];exact aas ⟨h,h'⟩
theorem NQ(hs:lm S y=Y ys)(h:cK 40 x=true)(h':ys.all (cK 39)=true):vn S x y=Y (.bl (!ys.any λd=>iK d x)):=by
 unfold vn;rw[hs];exact aas ⟨h,h'⟩
theorem Wo{xs:List D}{k:Int}(h0:0<=k)(h1:k<=100000)(h:xs.length*k.toNat<=1000):dg S 5.2 (.int k)=Y (.tup (aeI k.toNat xs).flatten):=aas ⟨by omega,by omega,sz h⟩
def fY(f:MF)(x:D)(q:List D×ac):Option (D×ac):=f x q.1 q.2
def yV(f:MF)(ms:MA)(env:bf)(q:D×ac):Option (D×ac):=if vd q.2 q.1=true then(ms env q.2).bind (fY f q.1) else L
@[simp] theorem qM{f:MF}:gi f a ms env S=(a env S).bind (yV f ms env):=by rw[Gu];rfl
@[simp] theorem kMeth_l{f:MF}{xs:List D}:yV f ms env 1.34=(ms env S).bind (fY f 2.2):=id rfl
theorem DZ{f:MF}{r:Nat}{xs:List D}(h:S[r]?=Y 2.2):yV f ms env (.ref r,S)=(ms env S).bind (fY f (.ref r)):=by
 unfold yV;exact aas (by simp only[vd,h])
@[simp] theorem gn{f:MF}{xs:List D}:fY f x (xs,S)=f x xs S:=id rfl
theorem vt{r:Nat}(h:S[r]?=Y 2.2)(hz:xs.length<1000):eQ (.ref r) [y] S=Y (.non,S.set r (.lst (xs++[y]))):=by
 simp only[eQ,h];exact aas (aaD hz 0.1)
def GS(q:List D×ac):Option (List D×ac):=match q.1 with | [.tup xs]=>Y (fK 0 xs,q.2) | _=>L
@[simp] theorem kEnum_s:GS ([.tup xs],S)=Y (fK 0 xs,S):=id rfl
@[simp] theorem oQ:gk ms env S=(ms env S).bind GS:=by rw[Gy];rfl
theorem VY{ns:List Int}(h:ns.length<64):vX S (.lst 2.0)=Y ns:=by
 unfold vX;rw[aas (show vd S (.lst 1.08)=true from rfl)];show(sE 1.08).bind _=_;rw[ze];exact aas h
def kPar(i j:Nat)(env:bf)(q:List D×ac):Option se:=match q.1 with | [v,w]=>Y (.nx ((env.set i (Y v)).set j (Y w)) q.2) | _=>L
@[simp] theorem Jv:nN i j ms env S=(ms env S).bind (kPar i j env):=by rw[Lq];rfl
@[simp] theorem JF:kPar i j env ([x,y],S)=Y (.nx ((env.set i (Y x)).set j (Y y)) S):=id rfl
def VR(ms:MA)(env:bf)(q:D×ac):Option (D×ac):=if Ih q.1=true then(ms env q.2).bind (fY iJ q.1) else if vd q.2 q.1=true then(ms env q.2).bind (fY qW q.1) else L
@[simp] theorem QR:mn a ms env S=(a env S).bind (VR ms env):=by rw[Ly];rfl
@[simp] theorem kCnt_t:VR ms env 1.74=(ms env S).bind (fY iJ 5.2):=id rfl
@[simp] theorem kCnt_l:VR ms env 1.34=(ms env S).bind (fY qW 2.2):=id rfl
theorem NU{xs:List D}(h:cK 40 x=true)(h':xs.all (cK 39)=true):iJ 5.2 [x] S=Y (.int (xs.countP λd=>iK d x),S):=by
 show(if Ih 5.2=true then zy 5.2 [x] S else L)=_;rw[aas (show Ih 5.2=true from rfl)];exact aas ⟨h,h'⟩
def qaf(k:cj)(d:D)(z:List (cj×D)×ac):Option (List (cj×D)×ac):=Y ((k,d)::z.1,z.2)
def VM(r:List (ME×ME))(env:bf)(k:cj)(q:D×ac):Option (List (cj×D)×ac):=(mf r env q.2).bind (qaf k q.1)
def kPr2(b:ME)(r:List (ME×ME))(env:bf)(S:ac)(k:cj):Option (List (cj×D)×ac):=(b env S).bind (VM r env k)
def qag(b:ME)(r:List (ME×ME))(env:bf)(q:D×ac):Option (List (cj×D)×ac):=(gm q.1).bind (kPr2 b r env q.2)
@[simp] theorem jX:mf [] env S=Y ([],S):=id rfl
@[simp] theorem kH{r:List (ME×ME)}:mf ((a,b)::r) env S=(a env S).bind (qag b r env):=id rfl
@[simp] theorem kPr1_i:qag b r env (.int i,S)=(b env S).bind (VM r env (.inl i)):=id rfl
@[simp] theorem yT:qag b r env (.str i,S)=(b env S).bind (VM r env (.inr i)):=id rfl
@[simp] theorem yS{k:cj}:VM r env k (d,S)=(mf r env S).bind (qaf k d):=id rfl
@[simp] theorem yR{k:cj}{z:List (cj×D)}:qaf k d (z,S)=Y ((k,d)::z,S):=id rfl
def qc(z:List (cj×D)×ac):Option (D×ac):=if z.1.length<=15 then Y (.dct ((dE [] z.1).map (·.1)) ((dE [] z.1).map (·.2)),z.2) else L
def yW(z:List (cj×D)×ac):Option (D×ac):=if z.1.length<=15 then Y (.ref z.2.length,z.2++[.dct ((dE [] z.1).map (·.1)) ((dE [] z.1).map (·.2))]) else L
@[simp] theorem xz:ik ps env S=(mf ps env S).bind qc:=by rw[GB];rfl
@[simp] theorem GD:eM ps env S=(mf ps env S).bind yW:=by rw[uY];rfl
theorem GY{k:cj}:∀ {l:List (cj×D)},k∉l.map (·.1)->NL l k=false
 | [],_=>rfl
 | p::r,h=>by
  rw[aah,aaG,not_or] at h;unfold NL;rw[if_neg (λz=>h.1 z.symm)];exact GY h.2
theorem su:∀ {l m:List (cj×D)},((m++l).map (·.1)).Nodup->dE m l=m++l
 | [],m,_=>by rw[aaJ];rfl
 | p::r,m,h=>by
  show dE (PU m p.1 p.2) r=_
  have hn:p.1∉m.map (·.1):=by
   rw[aaO,aah,abZ] at h;intro z;exact h.2.2 _ z _ aac rfl
  unfold PU;rw[GY hn,if_neg aeJ];rw[su (by rw[aaP];exact h),aaP];rfl
theorem uU{l:List (cj×D)}(h:(l.map (·.1)).Nodup):dE [] l=l:=su (m:=[]) h
theorem qb{l:List (cj×D)}(h:(l.map (·.1)).Nodup)(hl:l.length<=15):qc (l,S)=Y (.dct (l.map (·.1)) (l.map (·.2)),S):=by
 unfold qc;rw[aas hl];simp only[uU h]
theorem BH{l:List (cj×D)}(h:(l.map (·.1)).Nodup)(hl:l.length<=15):yW (l,S)=Y (.ref S.length,S++[.dct (l.map (·.1)) (l.map (·.2))]):=by
 unfold yW;rw[aas hl];simp only[uU h]
theorem xK{α β:Type}:∀ (l:List (α×β)),(l.map (·.1)).zip (l.map (·.2))=l
 | []=>rfl
 | p::r=>by rw[aah,aah,List.zip_cons_cons,xK r]
@[simp] theorem fIx_dct:aD S 2.25 y=(gm y).bind (fH 2.48):=id rfl
theorem Yn{l:List (cj×D)}{k:cj}(h:gm y=Y k):aD S (.dct (l.map (·.1)) (l.map (·.2))) y=fH l k:=by
 show(gm y).bind (λk=>fH ((l.map (·.1)).zip (l.map (·.2))) k)=_;rw[h,xK];rfl
theorem qb2{r:Nat}{l:List (cj×D)}{k:cj}(hr:S[r]?=Y (.dct (l.map (·.1)) (l.map (·.2))))(h:gm y=Y k):aD S (.ref r) y=fH l k:=by
 have:EX S (.ref r)=Y l:=by simp only[EX,hr,xK]
 unfold aD;rw[this];show(gm y).bind _=_;rw[h];rfl
theorem LO{l:List (cj×D)}{k:cj}(h:gm y=Y k):zx (.dct (l.map (·.1)) (l.map (·.2))) [y,d] S=Y ((fH l k).getD d,S):=by
 show((Y ((l.map (·.1)).zip (l.map (·.2)))).bind _)=_;rw[xK];show(gm y).bind _=_;rw[h];rfl
def yU(f:MF)(ms:MA)(env:bf)(q:D×ac):Option (D×ac):=if Tt q.2 q.1=true then(ms env q.2).bind (fY f q.1) else L
def yP(l:List (cj×D))(q:D×ac):Option (D×ac):=(gm q.1).bind λk=>(fH l k).bind λd=>Y (d,q.2)
@[simp] theorem yI{l:List (cj×D)}:eL l a env S=(a env S).bind (yP l):=by rw[By];rfl
@[simp] theorem yJ{f:MF}:eY f a ms env S=(a env S).bind (yU f ms env):=by rw[BC];rfl
@[simp] theorem GQ{f:MF}{ks:List cj}{vs:List D}:yU f ms env (.dct ks vs,S)=(ms env S).bind (fY f 2.25):=id rfl
theorem Ro{f:MF}{r:Nat}{ks:List cj}{vs:List D}(h:S[r]?=Y 2.25):yU f ms env (.ref r,S)=(ms env S).bind (fY f (.ref r)):=by
 unfold yU;exact aas (by simp only[Tt,h])
@[simp] theorem valD_nil{k:cj}:fH [] k=L:=id rfl
@[simp] theorem valD_cons{k k':cj}{l:List (cj×D)}:fH ((k',d)::l) k=if k'=k then Y d else fH l k:=id rfl
@[simp] theorem keyOf_i:gm (.int i)=Y (.inl i):=id rfl
@[simp] theorem DV:gm (.str i)=Y (.inr i):=id rfl
theorem Wm{r:Nat}{l m:List (cj×D)}(hr:S[r]?=Y (.dct (l.map (·.1)) (l.map (·.2))))(hl:l.length+m.length<=1000) :
  zr (.ref r) [.dct (m.map (·.1)) (m.map (·.2))] S=Y (.non,S.set r (.dct ((dE l m).map (·.1)) ((dE l m).map (·.2)))):=by
 simp only[zr,hr,xK];exact aas (by rw[aai,aai];exact sz hl)
def tW(tg:MG)(p:MS)(env:bf)(q:D×ac):Option se:=match q.1 with
 | .ref r=>fW tg p r 2000 0 env q.2
 | .lst xs=>cO tg p xs env q.2
 | .rol xs=>cO tg p xs env q.2
 | .tup xs=>cO tg p xs env q.2
 | _=>L
@[simp] theorem lF:gc a tg p env S=(a env S).bind (tW tg p env):=by rw[Gx];rfl
@[simp] theorem kForD_l:tW tg p env 1.34=cO tg p xs env S:=id rfl
@[simp] theorem kForD_o:tW tg p env (.rol xs,S)=cO tg p xs env S:=id rfl
@[simp] theorem xB:tW tg p env 1.74=cO tg p xs env S:=id rfl
@[simp] theorem VP:tW tg p env (.ref r,S)=fW tg p r 2000 0 env S:=id rfl
def Nz(tg:MG)(p:MS)(r f i:Nat):se->Option se
 | .nx e s=>fW tg p r f i e s
 | .ct e s=>fW tg p r f i e s
 | .bk e s=>Y 1.97
 | .rt d s=>Y 1.96
def kRl1(tg:MG)(p:MS)(r f i:Nat)(q:bf×ac):Option se:=(p q.1 q.2).bind (Nz tg p r f i)
@[simp] theorem qae{f:Nat}:kRl1 tg p r f i (e,S)=(p e S).bind (Nz tg p r f i):=id rfl
@[simp] theorem VL{f:Nat}:Nz tg p r f i 1.98=fW tg p r f i e S:=id rfl
@[simp] theorem kRl2_ct{f:Nat}:Nz tg p r f i (.ct e S)=fW tg p r f i e S:=id rfl
@[simp] theorem kRl2_bk{f:Nat}:Nz tg p r f i (.bk e S)=Y 1.98:=id rfl
@[simp] theorem kRl2_rt{f:Nat}:Nz tg p r f i 1.76=Y 1.76:=id rfl
theorem Jw{r f i:Nat}(h:S[r]?=Y 2.2)(hx:xs.length<=i):fW tg p r (f+1) i env S=Y 1.16:=by
 have hx':xs[i]?=L:=by simpa using hx
 unfold fW;rw[h];simp only[hx']
theorem Gw{r f i:Nat}(h:S[r]?=Y 2.2)(hx:xs[i]?=Y d):fW tg p r (f+1) i env S=(tg d env S).bind (kRl1 tg p r f (i+1)):=by
 show(match S[r]? with | some 2.2=>_ | _=>L)=_;rw[h];show(match xs[i]? with | none=>_ | some d=>_)=_;rw[hx];show(tg d env S).bind _=_
 first | rfl | (congr 1;funext q;show(p q.1 q.2).bind _=(p q.1 q.2).bind _;congr 1;funext o;cases o<;>rfl)
def JG(q:List D×ac):Option (D×ac):=match q.1 with | [.int j]=>if 0<=j/\j<=1000 then Y (.lst (dw 0 j.toNat),q.2) else L | _=>L
@[simp] theorem QN:fV ms env S=(ms env S).bind JG:=by rw[BD];rfl
theorem NB{j:Int}(h0:0<=j)(h1:j<=1000):JG ([.int j],S)=Y (.lst (dw 0 j.toNat),S):=aas ⟨h0,h1⟩
def qaa(t:MT)(p:MS)(f:Nat):se->Option se
 | .nx e s=>jn t p f e s
 | .ct e s=>jn t p f e s
 | .bk e s=>Y 1.97
 | .rt d s=>Y 1.96
def kWh(t:MT)(p:MS)(f:Nat)(env:bf)(q:Bool×ac):Option se:=if q.1=true then(p env q.2).bind (qaa t p f) else Y (.nx env q.2)
@[simp] theorem QI:fU t p env S=jn t p 5000 env S:=by rw[Bx];rfl
theorem Nu{f:Nat}:jn t p (f+1) env S=(t env S).bind (kWh t p f env):=by
 show(t env S).bind _=_
 first | rfl | (congr 1;done)
@[simp] theorem kWh_t{f:Nat}:kWh t p f env (true,S)=(p env S).bind (qaa t p f):=id rfl
@[simp] theorem kWh_f{f:Nat}:kWh t p f env 1.89=Y 1.16:=id rfl
@[simp] theorem VJ{f:Nat}:qaa t p f 1.98=jn t p f e S:=id rfl
theorem Wq{ns:List Int}(h:ns.length<64)(h0:ns≠[]):aS qq [.lst 2.0] S=Y (.int (mZ ns),S):=by
 show((qq S [.lst 1.08]).bind _)=_
 have:qq S [.lst 1.08]=Y (.int (mZ ns)):=by
  show((vX S (.lst 1.08)).bind _)=_;rw[VY h];show(if ns.isEmpty=true then L else Y (D.int (mZ ns)))=_;rw[if_neg (by cases ns with | nil=>exact absurd rfl h0 | cons _ _=>simp)]
 rw[this];rfl
theorem LP{x y:D}(h:(Ed x||Ed y)=true)(h1:vS S x=Y xs)(h2:vS S y=Y ys)(hl:xs.length+ys.length<=1000):aH S x y=Y (.lst (xs++ys)):=by
 unfold aH;rw[aas h,h1,h2];exact aas (sz hl)
def Rn(f:MF)(ms:MA)(env:bf)(q:D×ac):Option (D×ac):=if Ih q.1=true then(ms env q.2).bind (fY f q.1) else L
@[simp] theorem mMethT_s{f:MF}:mj f a ms env S=(a env S).bind (Rn f ms env):=by rw[BB];rfl
@[simp] theorem kMethT_t{f:MF}:Rn f ms env 1.74=(ms env S).bind (fY f 5.2):=id rfl
theorem QW{i:Int}(h:-1000000<=i)(h':i<=1000000):i.natAbs.log2<1920:=by
 have h1:i.natAbs<=1000000:=by omega
 have h2:i.natAbs<2^1920:=adb h1 (by decide +kernel);by_cases h0:i.natAbs=0
 ·rw[h0];decide
 ·exact(Nat.log2_lt h0).mpr h2
@[simp] theorem fStr1_n:aS ur [.non] S=Y (.str "None",S):=id rfl
theorem Wn{i:Int}(h:-1000000<=i)(h':i<=1000000):aS ur [.int i] S=Y (.str (toString i),S):=by
 show(ur S [.int i]).bind _=_;rw[show ur S [.int i]=Y 1.75 from aas (QW h h')];rfl
def MZ:se->Option (D×ac)
 | .rt d S'=>Y (d,S')
 | .nx _ S'=>Y (.non,S')
 | .bk _ _=>L
 | .ct _ _=>L
@[simp] theorem az:MZ 1.76=Y (d,S):=id rfl
@[simp] theorem outM_nx:MZ 1.98=Y (.non,S):=id rfl
theorem bE{n:Nat}{ds:List D}{S:ac}(h:ds.length=n):aT N m n ds S=(m 1.92 S).bind MZ:=by
 unfold aT;rw[aas h];first | rfl | (congr 1;funext o;cases o<;>rfl)
theorem runG{n:Nat}{S:ac}(h:aX N ds=env)(hn:ds.length=n):aT N m n ds S=(m env S).bind MZ:=by rw[<- h];exact bE hn
theorem mP{N:List Str}{n k:Nat}{ds:List D}{S:ac}(hN:N.length=k)(h:ds.map Y++aeI (k - ds.length) L=env)(hn:ds.length=n):aT N m n ds S=(m env S).bind MZ:=runG (by unfold aX;rw[hN];exact h) hn
@[simp] theorem rep0:aeI 0 (L:Option D)=[]:=id rfl
end
def tU:MS:=
 aM (cr (aI (aB Uh 1.0 0e0)) (aM (aV (aB kR 1.0 '1') 'b') (aM (aV (aB NT 1.0 '1') (il '0' 0e0)) (bu '2'))) bq) (aM (aV (aB aH 7.5 1e0) (il '0' 2e0)) (aM (aV (aB kR (aB aH (aB aH (aB dg 5.4 48271e0) 12345e0) (aB dg 7e0 7.5)) 2147483647e0) (il '0' 1e0)) (bu (aB kR (aB NT (aB kR (aB dg 5.4 5.4) 1999999973e0) 64e0) '1'))))
def JD:MS:=
 aM (aV 1e0 '`') (aM (mQ (cB (aa 10e0 ak)) 'a' (aV 1.55 '`')) (bu '0'))
def qP:MS:=
 aM (cr (aI (aB Uf '1' (bG (aS fJ) 7.8))) (bu (aB aD '0' '1')) bq) (bu 0e0)
def xA(cellAt far:List D->ac->Option (D×ac)):MS:=
 aM (aV (au 2 cellAt (aa '0' (aa (aB kR '1' (bG (aS qq) (aa 1e0 (aa (bG (aS fJ) 7.8) ak)))) ak))) 'b') (aM (aV (aB kR (aB dg (aB aH (aB aH (aB kR '2' 2147483629e0) (aB dg (aB dg 7919e0 '1') '1')) 11e0) 48271e0) 2147483647e0) 'c') (aM (aV (aB kR (aB aH (aB aH (aB dg '3' 39373e0) (aB dg 7e0 '1')) 1e0) 2147483629e0) 'c') (aM (cr (aI (aB Uf '2' (aB AL 10e0 18e0))) (aV 0e0 'b') bq) (bu (gb (aa (aB kR '2' (au 0 far ak)) (aa '3' 1.44)))))))
theorem qbP{a b c:D}:qD [a,b,c] 0=Y a/\qD [a,b,c] 1=Y b/\qD [a,b,c] 2=Y c:=⟨rfl,rfl,rfl⟩
def Pk(S:ac)(r:Nat):Prop:=∃ a b c:Int,S[r]?=Y (.lst [.int a,.int b,.int c])/\0<=a/\0<=b/\b<2147483647
def p60:Int:=1000000000000000000000000000000000000000000000000000000000000
theorem ZG:(10:Int)^(60:Int).toNat=p60:=by decide +kernel
theorem ZF:p60.natAbs<=2^(200*1):=by decide +kernel
theorem Vi:0<p60:=by decide +kernel
theorem Vj{i:Int}(h:i.natAbs<2^4000):tz i p60=true:=by
 unfold tz;rw[aal h,aal (p:=p60.natAbs<2^4000) (by decide +kernel)];simp
def RT:MS:=aV 1.55 '`'
theorem qaX:AL S (.int 10) (.int 60)=Y (.int p60):=by
 have h:=RU (S:=S) (i:=10) (j:=60) (by decide +kernel);rw[ZG] at h;exact h
theorem RS{o:Option D}(h1:AL S (.int 10) (.int 60)=Y (.int p))(h2:dg S (.int a) (.int p)=Y (.int (a*p))):RT [Y (.int a),o] S=Y (.nx [Y (.int (a*p)),o] S):=by
 simp[RT,h1,h2]
theorem Wl{o:Option D}(h:tz a p60=true):RT [Y (.int a),o] S=Y (.nx [Y (.int (a*p60)),o] S):=RS qaX (mx h)
theorem farL{B:Nat}(hB:∀ i:Int,i.natAbs<B->tz i p60=true)(l:List D):∀ (a:Int) (o:Option D),0<a->a.natAbs*2^(200*l.length)<B->∃ q o',cO 'a' RT l [Y (.int a),o] S=Y (.nx [Y (.int q),o'] S)/\0<q:=by
 induction l with
 | nil=>exact λa o h z=>⟨a,o,rfl,h⟩
 | cons d l ih=>
  intro a o h hb;have h1:a.natAbs<B:=adb (Nat.le_mul_of_pos_right _ (Nat.pow_pos 0.1)) hb
  obtain⟨q,o',e,hq⟩:=ih (a*p60) (Y d) (Int.mul_pos h Vi) (by
   rw[Int.natAbs_mul];refine adb ?_ hb;rw[aam,Nat.mul_add,Nat.pow_add,Nat.mul_assoc];refine aeq _ ?_;rw[adn]
   exact aeq _ ZF)
  refine⟨q,o',?_,hq⟩;rw[fz,aR,ob,oS];show(RT [Y (.int a),Y d] S).bind _=_;rw[Wl (hB a h1),ob,mU];exact e
theorem RR{N:List Str}(hN:N.length=2):∃ q:Int,aT N JD 0 [] S=Y (.int q,S)/\0<q:=by
 obtain⟨q,o',e,hq⟩:=farL (S:=S) (λi h=>Vj h) (dw 0 10) 1 L 0.1 (by decide +kernel);refine⟨q,?_,hq⟩;rw[bE (show([]:List D).length=0 from rfl)];have:aX N []=[L,L]:=by simp[aX,hN,aeI]
 rw[this];have k1:OP ([.int 10],S)=Y (dw 0 10,S):=vi 0.1 0.1;have e':cO 'a' (aV 1.55 '`') (dw 0 10) [Y (.int 1),L] S=Y (.nx [Y (.int q),o'] S):=e;simp![JD,DL,hJ,k1,Ea,e']
inductive PkQ(pick:List D->ac->Option (D×ac))(S:ac)(r:Nat)(m:Int):Prop
 | mk (q:Int) (S':ac) (e:pick [.ref r,.int m] S=Y (.int q,S')) (h0:0<=q) (h1:q<m) (p:Pk S' r) (k:(∀ j,j≠r->S'[j]?=S[j]?)/\S'.length=S.length)
theorem MU{m:Int}{N:List Str}(hN:N.length=3)(h:Pk S r)(h0:0<m)(h1:m<1073741824) :
  PkQ (aT N tU 2) S r m:=by
 suffices z:∃ q S',aT N tU 2 [.ref r,.int m] S=Y (.int q,S')/\0<=q/\q<m/\Pk S' r/\(∀ j,j≠r->S'[j]?=S[j]?)/\S'.length=S.length by
  obtain⟨q,S',e,a,b,c,d⟩:=z;exact⟨q,S',e,a,b,c,d⟩
 obtain⟨a,b,c,h,ha,hb,hb'⟩:=h;have hr:r<S.length:=(aaa.mp h).1;have hm:∀ x:Int,0<=x%m/\x%m<m:=λx=>⟨acn _ 0.0,ade _ h0⟩
 have hst:aX N [.ref r,.int m]=[Y (.ref r),Y (.int m),L]:=by simp[aX,hN]
 rw[bE (show [D.ref r,D.int m].length=2 from rfl),hst];have hs:∀ c:wZ,(S.set r c)[r]?=Y c:=λc=>aaL hr;by_cases hp:0<a
 ·refine⟨a%m,S.set r (.lst [.int (a / m),.int b,.int c]),?_,(hm a).1,(hm a).2,⟨a / m,b,c,hs _,Int.ediv_nonneg ha 0.0,hb,hb'⟩,λj hj=>by rw[aaC 1.49],by simp⟩;have w:=yQ (env:=[Y (.ref r),Y (.int m),Y (.int (a%m))]) (d:=.int (a / m)) h (show JJ _ 0=Y 0 from rfl);simp[tU,qV h,hp,ky h0,Sd h0 h1,qbP,w]
 ·have hB:∀ x:Int,0<=x%2147483647/\x%2147483647<2147483647:=λx=>⟨acn _ 0.1,ade _ 0.1⟩
  let b':=(b*48271+12345+7*(c+1))%2147483647;have hb2:=hB (b*48271+12345+7*(c+1));have m3:tz b' b'=true:=uT 0.0 0.0;have s1:(S.set r (.lst [.int a,.int b,.int (c+1)]))[r]?=Y (.lst [.int a,.int b,.int (c+1)]):=hs _;have s2:((S.set r (.lst [.int a,.int b,.int (c+1)])).set r (.lst [.int a,.int b',.int (c+1)]))[r]?=Y (.lst [.int a,.int b',.int (c+1)]):=aaL (by simpa using hr);refine⟨b'*b'%1999999973 / 64%m,(S.set r (.lst [.int a,.int b,.int (c+1)])).set r (.lst [.int a,.int b',.int (c+1)]),?_,(hm _).1,(hm _).2,⟨a,b',c+1,s2,ha,(hB _).1,(hB _).2⟩,λj hj=>by rw[aaC 1.49,aaC 1.49],by simp⟩;have e1:dg (S.set r (.lst [.int a,.int b,.int (c+1)])) (.int b) (.int 48271)=Y (.int (b*48271)):=mx (Dp 0.1 0.1);have e2:dg (S.set r (.lst [.int a,.int b,.int (c+1)])) (.int 7) (.int (c+1))=Y (.int (7*(c+1))):=mx (uT 0.1 0.1);have e3:∀ S x,kR S (.int x) (.int 2147483647)=Y (.int (x%2147483647)):=λu u=>ky 0.1;have e4:∀ S x,kR S (.int x) (.int 1999999973)=Y (.int (x%1999999973)):=λu u=>ky 0.1;have e5:∀ S x,NT S (.int x) (.int 64)=Y (.int (x / 64)):=λu u=>Sd 0.1 0.1;have w1:=yQ (env:=[Y (.ref r),Y (.int m),L]) (d:=.int (c+1)) h (show JJ _ 2=Y 2 from rfl);have w2:=yQ (env:=[Y (.ref r),Y (.int m),L]) (d:=.int b') s1 (show JJ _ 1=Y 1 from rfl);simp[tU,qV h,qV s1,qV s2,hp,ky h0,qbP,e1,e2,e3,e4,e5,w1];rw[show(b*48271+12345+7*(c+1))%2147483647=b' from rfl,w2];simp[qV (hs _),qbP,mx m3,e4,e5,ky h0]
theorem HL{S:ac}{ns:List Int}{k:Int}{N:List Str}(hN:N.length=2)(h0:0<=k):∃ v,aT N qP 2 [.rol 2.0,.int k] S=Y (.int v,S):=by
 rw[bE (show [D.rol 2.0,D.int k].length=2 from rfl)];have hst:aX N [D.rol 2.0,D.int k]=[Y (D.rol 2.0),Y (.int k)]:=by simp[aX,hN]
 rw[hst];by_cases h:k<ns.length
 ·have e:qD 1.08 k=Y (.int (ns[k.toNat]'(by omega))):=by
   rw[zM h0 (by simpa using h)];simp
  exact⟨ns[k.toNat]'(by omega),by simp[qP,h,e]⟩
 ·exact⟨0,by simp[qP,h]⟩
theorem qbX{S:ac}{a b:Int}(ha:0<=a)(hb:0<=b)(hb':b<2147483647):Pk (S++[.lst [.int a,.int b,.int c]]) S.length:=⟨a,b,c,by simp,ha,hb,hb'⟩
theorem Nw{S:ac}{ns:List Int}{k:Int}{N:List Str}{cellAt far:List D->ac->Option (D×ac)}(hN:N.length=4)(h0:0<=k)(h1:k<=100000)
  (hc:∀ S k,0<=k->∃ v,cellAt [.rol 2.0,.int k] S=Y (.int v,S)) (hf:∀ S,∃ q,far [] S=Y (.int q,S)/\0<q) :
  ∃ a b,aT N (xA cellAt far) 2 [.rol 2.0,.int k] S=Y (.ref S.length,S++[.lst [.int a,.int b,.int 0]])/\0<=a/\0<=b/\b<2147483647:=by
 rw[bE (show [D.rol 2.0,D.int k].length=2 from rfl)];have hst:aX N [D.rol 2.0,D.int k]=[Y (D.rol 2.0),Y (.int k),L,L]:=by simp[aX,hN,aeI]
 rw[hst];have hmx:0<(if 2.17>1 then(ns.length:Int) else 1):=by split<;>omega
 obtain⟨v,hv⟩:=hc S (k%(if 2.17>1 then(ns.length:Int) else 1)) (acn _ 0.0);obtain⟨q,hq,q0⟩:=hf S;have e1:∀ S x,kR S (.int x) (.int 2147483629)=Y (.int (x%2147483629)):=λz z=>ky 0.1;have e2:∀ S x,kR S (.int x) (.int 2147483647)=Y (.int (x%2147483647)):=λz z=>ky 0.1;have e3:∀ S x,kR S (.int x) (.int q)=Y (.int (x%q)):=λz z=>ky q0;have p1:∀ S,dg S (.int 7919) (.int k)=Y (.int (7919*k)):=λz=>mx (uT 0.1 0.1);have p2:∀ S,dg S (.int (7919*k)) (.int k)=Y (.int (7919*k*k)):=λz=>mx (Dp 0.0 0.0);have p3:∀ S x,dg S (.int x) (.int 48271)=Y (.int (x*48271)):=λz z=>mx (Dp 0.1 0.1);have p4:∀ S x,dg S (.int x) (.int 39373)=Y (.int (x*39373)):=λz z=>mx (Dp 0.1 0.1);have p5:∀ S,dg S (.int 7) (.int k)=Y (.int (7*k)):=λz=>mx (uT 0.1 0.1)
 have pw:∀ S,AL S (.int 10) (.int 18)=Y (.int 1000000000000000000):=λS=>by
  have h:=RU (S:=S) (i:=10) (j:=18) (by decide +kernel)
  rwa[show(10:Int)^(18:Int).toNat=1000000000000000000 by decide +kernel] at h
 have hb:∀ x:Int,0<=x%2147483629/\x%2147483629<2147483647:=λx=>⟨acn _ 0.1,by have:=ade x (show(0:Int)<2147483629 by decide);omega⟩
 have kl:∀ S x y,vT ([.int x,.int y,.int 0],S)=Y (.ref S.length,S++[.lst [.int x,.int y,.int 0]]):=λz z z=>nP 0.4;by_cases h:v<1000000000000000000
 ·refine⟨0%q,(((v%2147483629+7919*k*k+11)*48271%2147483647)*39373+7*k+1)%2147483629,?_,acn _ 0.0,(hb _).1,(hb _).2⟩;simp[-Int.zero_emod,xA,ky hmx,hv,e1,e2,e3,p1,p2,p3,p4,p5,pw,h,hq,kl]
 ·refine⟨v%q,(((v%2147483629+7919*k*k+11)*48271%2147483647)*39373+7*k+1)%2147483629,?_,acn _ 0.0,(hb _).1,(hb _).2⟩;simp[xA,ky hmx,hv,e1,e2,e3,p1,p2,p3,p4,p5,pw,h,hq,kl]
theorem Hl{tg:MG}{p:MS}(I:bf->ac->Prop):∀ (xs:List D),(∀ d∈xs,∀ env S,I env S->∃ env1 S1 env2 S2,tg d env S=Y (env1,S1)/\p env1 S1=Y (.nx env2 S2)/\I env2 S2) ->
  ∀ env S,I env S->∃ env' S',cO tg p xs env S=Y 1.62/\I env' S'
 | []=>λz env S h=>⟨env,S,rfl,h⟩
 | d::xs=>λhs env S h=>by
  obtain⟨env1,S1,env2,S2,e1,e2,h2⟩:=hs d aac env S h;obtain⟨env',S',e3,h3⟩:=Hl I xs (λd hd=>hs d (aaf _ hd)) env2 S2 h2;exact⟨env',S',by rw[fz,e1,ob,oS,e2,ob,mU,e3],h3⟩
theorem Jf{lo:Int}{d:D}(h:d∈dw lo n):∃ i:Nat,i<n/\d=.int (lo+(i:Int)):=by
 obtain⟨i,hi⟩:=acs.mp h;exact⟨i,xX lo n i d hi⟩
def nr:D->Bool
 | .ref _=>false
 | .exc _ _ _=>false
 | .fn _=>false
 | _=>true
def JP:D->Bool
 | .int _=>true
 | .bl _=>true
 | _=>false
def Ee:D->Bool
 | .bl _=>true
 | _=>false
def JM:D->Bool
 | .str _=>true
 | .txt=>true
 | _=>false
def fD:D->Bool
 | .tup _=>true
 | _=>false
def Ic:D->Bool
 | .int _=>true
 | _=>false
def rG(lo hi:Int):D->Bool
 | .int i=>decide (lo<=i)&&decide (i<=hi)
 | _=>false
theorem Hx{S:ac}{d:D}(h:nr d=true):og "int" S d=Y (.bl (JP d)):=by cases d<;>first | rfl | cases h
theorem BZ{S:ac}{d:D}(h:nr d=true):og "bool" S d=Y (.bl (Ee d)):=by cases d<;>first | rfl | cases h
theorem RZ{S:ac}{d:D}(h:nr d=true):og "str" S d=Y (.bl (JM d)):=by cases d<;>first | rfl | cases h
theorem qr{S:ac}{d:D}(h:nr d=true):og "tuple" S d=Y (.bl (fD d)):=by cases d<;>first | rfl | cases h
noncomputable abbrev PF:=List D->ac->Option (D×ac)
def KI(pick:PF):Prop:=∀ (S:ac) (r:Nat) (m:Int),Pk S r->0<m->m<1073741824->PkQ pick S r m
def DQ(pick:PF):MS:=
 aM (aV (aB aD (eu (aa (!"rows") (aa (!"readers") (aa (!"writers") (aa (!"turns") (aa (!"passes") ak)))))) (au 2 pick (aa '0' (aa 5e0 ak)))) 'a') (aM (aV (aB aD (eu (aa 0e0 (aa 0e0 (aa 1e0 (aa 2e0 (aa 3e0 (aa 5e0 ak))))))) (au 2 pick 2.42)) 'b') (aM (aV (aB dg (aB aD (eu (aa 0e0 (aa 1e0 (aa 2e0 (aa 9e0 ak))))) (au 2 pick (aa '0' 2.50))) (bG (aS oh) (aa (aB cJ '1' (!"passes")) ak))) 'c') (bu (bb (aa '1' (aa '2' (aa '3' (aa (au 2 pick (aa '0' (aa 2e0 ak))) ak))))))))
theorem Xt{q:Int}(h0:0<=q)(h1:q<6):∃ i:Int,qD [D.int 0,D.int 0,D.int 1,D.int 2,D.int 3,D.int 5] q=Y (.int i)/\0<=i/\i<=5:=by
 obtain rfl | rfl | rfl | rfl | rfl | rfl:q=0\/q=1\/q=2\/q=3\/q=4\/q=5:=by omega
 all_goals exact⟨_,rfl,by decide,by decide⟩
theorem TR{q:Int}(h0:0<=q)(h1:q<4):∃ i:Int,qD [D.int 0,D.int 1,D.int 2,D.int 9] q=Y (.int i)/\0<=i/\i<=9:=by
 obtain rfl | rfl | rfl | rfl:q=0\/q=1\/q=2\/q=3:=by omega
 all_goals exact⟨_,rfl,by decide,by decide⟩
theorem forR{tg:MG}{p:MS}{lo:Int}(I:Nat->bf->ac->Prop)(n:Nat)(step:∀ i,i<n->∀ env S,I i env S->∃ env1 S1 env2 S2,tg (.int (lo+(i:Int))) env S=Y (env1,S1)/\p env1 S1=Y (.nx env2 S2)/\I (i+1) env2 S2) :
  ∀ env S,I 0 env S->∃ env' S',cO tg p (dw lo n) env S=Y 1.62/\I n env' S':=by
 have gen:∀ (m k:Nat),k+m=n->∀ env S,I k env S->∃ env' S',cO tg p ((List.range' k m).map λ(i:Nat)=>D.int (lo+(i:Int))) env S=Y 1.62/\I n env' S':=by
  intro m
  induction m with
  | zero=>exact λk hk env S h=>⟨env,S,rfl,by rw[<- hk];exact h⟩
  | succ m ih=>
   intro k hk env S h;obtain⟨env1,S1,env2,S2,e1,e2,h2⟩:=step k 0.0 env S h;obtain⟨env',S',e3,h3⟩:=ih (k+1) 0.0 env2 S2 h2;refine⟨env',S',?_,h3⟩;rw[List.range'_succ,aah,fz,e1,ob,oS,e2,ob,mU,e3]
 intro env S h;have:=gen n 0 0.0 env S h;unfold dw;rw[List.range_eq_range'];exact this
def EntOk(n:Int)(xs:List D)(d:D):Prop:=∃ (g:Int) (w:Str) (m:Int) (t:D),d=.tup [.int g,.str w,.int m,t]/\0<=g/\g<n/\(w = "read"\/w = "write")/\0<=m/\m<=999/\(t=.non\/∃ k,t=.int k/\1<=k/\k<=9)/\qD xs g=Y (.str "out")
theorem EntOk.up{n':Int}{d:D}(h:EntOk n xs d)(hn:n<=n'):EntOk n' xs d:=by
 obtain⟨g,w,m,t,e,h0,h1,r⟩:=h;exact⟨g,w,m,t,e,h0,by omega,r⟩
theorem NP{S:ac}{q:Nat}(h:S[q]?=Y 2.2):aS (du g) [.ref q] S=Y (g xs,S):=by
 have e:lm S (.ref q)=Y xs:=by simp only[lm,h]
 show((lm S (.ref q)).bind _).bind _=_;rw[e];rfl
theorem Pk.app{c:wZ}(h:Pk S r):Pk (S++[c]) r/\S.length≠r:=by
 obtain⟨a,b,d,h,z⟩:=h;have hr:=(aaa.mp h).1;exact⟨⟨a,b,d,by rw[aay hr];exact h,z⟩,by omega⟩
def JK(x:Str):Prop:=x = "rows"\/x = "readers"\/x = "writers"\/x = "turns"\/x = "passes"
theorem Xs{q:Int}(h0:0<=q)(h1:q<5):∃ x:Str,qD [D.str "rows",D.str "readers",D.str "writers",D.str "turns",D.str "passes"] q=Y (.str x)/\JK x:=by
 obtain rfl | rfl | rfl | rfl | rfl:q=0\/q=1\/q=2\/q=3\/q=4:=by omega
 ·exact⟨_,rfl,.inl rfl⟩
 ·exact⟨_,rfl,.inr 4.5⟩
 ·exact⟨_,rfl,.inr (.inr 4.5)⟩
 ·exact⟨_,rfl,.inr (.inr (.inr 4.5))⟩
 ·exact⟨_,rfl,.inr (.inr (.inr 2.32))⟩
def Keep(r:Nat)(S S':ac):Prop:=(∀ j,j≠r->S'[j]?=S[j]?)/\S'.length=S.length
theorem Keep.trans(h:Keep r S S')(h':Keep r S' S''):Keep r S S'':=⟨λj z=>(h'.1 j z).trans (h.1 j z),h'.2.trans h.2⟩
theorem Keep.refl:Keep r S S:=⟨λz z=>rfl,rfl⟩
structure qbW(x:Str)(a b c:Int):Prop where
 w:JK x
 a0:0<=a
 a5:a<=5
 b0:0<=b
 b9:b<=9
 c0:0<=c
 c1:c<=1
theorem MD{pick:PF}(hp:KI pick){S:ac}{r:Nat}{N:List Str}(hN:N.length=4)(h:Pk S r):∃ x a b c S',aT N (DQ pick) 1 [.ref r] S=Y (.tup [.str x,.int a,.int b,.int c],S')/\qbW x a b c/\Pk S' r/\Keep r S S':=by
 have hst:aX N [D.ref r]=[Y (.ref r),L,L,L]:=by simp[aX,hN,aeI]
 rw[bE (show [D.ref r].length=1 from rfl),hst];obtain⟨q1,S1,e1,l1,g1,P1,K1⟩:=hp _ _ 5 h 0.1 0.1;obtain⟨q2,S2,e2,l2,g2,P2,K2⟩:=hp _ _ 6 P1 0.1 0.1;obtain⟨q3,S3,e3,l3,g3,P3,K3⟩:=hp _ _ 4 P2 0.1 0.1;obtain⟨q4,S4,e4,l4,g4,P4,K4⟩:=hp _ _ 2 P3 0.1 0.1;obtain⟨x,i1,wx⟩:=Xs l1 g1;obtain⟨a,i2,a0,a5⟩:=Xt l2 g2;obtain⟨b,i3,b0,b9⟩:=TR l3 g3;have k1:∀ S,pq ([D.str "rows",D.str "readers",D.str "writers",D.str "turns",D.str "passes"],S)=Y (.lst [D.str "rows",D.str "readers",D.str "writers",D.str "turns",D.str "passes"],S):=λS=>eI 0.4;have k2:∀ S,pq ([D.int 0,D.int 0,D.int 1,D.int 2,D.int 3,D.int 5],S)=Y (.lst [D.int 0,D.int 0,D.int 1,D.int 2,D.int 3,D.int 5],S):=λS=>eI 0.4;have k3:∀ S,pq ([D.int 0,D.int 1,D.int 2,D.int 9],S)=Y (.lst [D.int 0,D.int 1,D.int 2,D.int 9],S):=λS=>eI 0.4;have k4:∀ S (a b c d:D),cI ([a,b,c,d],S)=Y (.tup [a,b,c,d],S):=λS a b c d=>aY 0.4;have m1:∀ S (z:Bool),dg S (.int b) (.int (if z=true then 1 else 0))=Y (.int (b*(if z=true then 1 else 0))):=λS z=>mx (uT 0.0 0.0);refine⟨x,a,b*(if (x==("passes":Str))=true then 1 else 0),q4,S4,?_,⟨wx,a0,a5,by split<;>omega,by split<;>omega,l4,by omega⟩,P4,Keep.trans K1 (Keep.trans K2 (Keep.trans K3 K4))⟩;simp[-beq_iff_eq,DQ,k1,k2,k3,k4,e1,e2,e3,e4,i1,i2,i3,m1]
theorem qaY{k:Bool}:jx S (.bl k) (.bl l)=Y (.bl (!(k==l))):=sG (by simp[cK]) (by simp[cK])
theorem lH{S:ac}{c:wZ}:(S++[c])[S.length]?=Y c:=by simp
theorem Mi{S:ac}{c d:wZ}:(S++[c]).set S.length d=S++[d]:=by
 rw[List.set_append,if_neg (abI _)];simp
inductive Wd where | out | reads | rising | writes | raised
deriving DecidableEq
def Wd.s:Wd->Str
 | .out=>"out"
 | .reads=>"reads"
 | .rising=>"rising"
 | .writes=>"writes"
 | .raised=>"raised"
theorem Wd.eq(a b:Wd):(a.s==b.s)=decide (a=b):=by cases a<;>cases b<;>decide +kernel
structure En where
 g:Nat
 wr:Bool
 m:Int
 t:Option Int
def bI(b:Bool):Str:=if b then "write" else "read"
theorem sQ(b:Bool):(bI b==("write":Str))=b:=by cases b<;>decide +kernel
theorem xb(b:Bool):(bI b==("read":Str)) = !b:=by cases b<;>decide +kernel
def bW:Option Int->D
 | none=>.non
 | some k=>.int k
def En.d(e:En):D:=.tup [.int 1.24,.str 6.5,.int e.m,bW e.t]
noncomputable abbrev Rm:=List Wd×List En
def Wd.d(w:Wd):D:=.str w.s
def dm(ws:List Wd):D:=.tup 1.38
def esD(es:List En):D:=.tup 7.3
def bh(R:Rm):D:=.tup [dm R.1,esD R.2]
inductive Rw where | rows | readers | writers | turns | passes
deriving DecidableEq
def Rw.s:Rw->Str
 | .rows=>"rows"
 | .readers=>"readers"
 | .writers=>"writers"
 | .turns=>"turns"
 | .passes=>"passes"
theorem Rw.eq(a b:Rw):(a.s==b.s)=decide (a=b):=by cases a<;>cases b<;>decide +kernel
structure Rl where
 w:Rw
 a:Int
 b:Int
 c:Int
def Rl.d(r:Rl):D:=.tup [.str r.w.s,.int r.a,.int r.b,.int r.c]
structure Rl.Ok(r:Rl):Prop where
 a0:0<=r.a
 a5:r.a<=5
 b0:0<=r.b
 b9:r.b<=9
 c0:0<=r.c
 c1:r.c<=1
theorem NH(h:JK x):∃ w:Rw,x=w.s:=by
 rcases h with rfl | rfl | rfl | rfl | rfl
 ·exact⟨.rows,rfl⟩
 ·exact⟨.readers,rfl⟩
 ·exact⟨.writers,rfl⟩
 ·exact⟨.turns,rfl⟩
 ·exact⟨.passes,rfl⟩
section
variable{α:Type}{enc:α->D}{p:α->Bool}{f:α->D}{t:MT}{e:ME}{rest:bf}{S:ac}
theorem Yz:∀ (xs:List α) (a:Option D),(∀ x∈xs,t (Y (enc x)::rest) S=Y (p x,S))->(∀ x∈xs,p x=true->e (Y (enc x)::rest) S=Y (f x,S))->dF '`' t e 2.13 (a::rest) S=Y ((xs.filter p).map f,S)
 | []=>λa z z=>by simp
 | x::r=>λa h h2=>by
  have ih:=Yz r (Y (enc x)) (λy hy=>h y (aaf _ hy)) λy hy=>h2 y (aaf _ hy);rw[aah,cT,aR,ob,eD,kh,h x 0.4,ob];cases hp:p x with
  | true=>rw[kg,h2 x 0.4 hp,ob,kf,ih,ob,jZ,acN hp,aah]
  | false=>rw[yX,ih,acO (by simp[hp])]
theorem ip{a:Option D}{xs:List α}(hc:lG cap env=a::rest)(hl:xs.length<=1000)(h:∀ x∈xs,t (Y (enc x)::rest) S=Y (p x,S))(h2:∀ x∈xs,p x=true->e (Y (enc x)::rest) S=Y (f x,S)) :
  jp '`' t e cap env (xs.map enc,S)=Y (.lst ((xs.filter p).map f),S):=by
 rw[ej (by rw[aai];exact hl),hc,Yz xs a h h2,ob,eo]
theorem Yy:∀ (xs:List α) (k:Nat) (a b:Option D),(∀ i x,xs[i]?=Y x->t (Y (.int ((k+i:Nat):Int))::Y (enc x)::rest) S=Y (p x,S))->dF (bo 2 (ag '`' 1.31)) t '0' (fK k 2.13) (a::b::rest) S=Y (((xs.zipIdx k).filter λq=>p q.1).map λq=>.int (q.2:Int),S)
 | []=>λk a b z=>by simp[fK]
 | x::r=>λk a b h=>by
  have ih:=Yy r (k+1) (Y 8.4) (Y (enc x)) (λi y hy=>by
   have:=h (i+1) y (by simpa using hy);rw[show k+(i+1)=k+1+i by omega] at this
   exact this)
  have h0:=h 0 x rfl;rw[aeh] at h0;rw[aah,fK,cT,cL,bH,aR,ob,eD,cU,bH,aR,ob,fo,eD,cU,bY,ob,kh,h0,ob,abK];cases hp:p x with
  | true=>
   rw[kg,ai,bJ,oj,ob,ah,ob,kf,ih,ob,jZ,acN (p:=λq:α×Nat=>p q.1) (a:=(x,k)) hp,aah]
  | false=>rw[yX,ih,acO (p:=λq:α×Nat=>p q.1) (a:=(x,k)) (by simp[hp])]
theorem DX{a b:Option D}{xs:List α}(hc:lG cap env=a::b::rest)(hl:xs.length<=1000)(h:∀ (i:Nat) x,xs[i]?=Y x->t (Y 5.6::Y (enc x)::rest) S=Y (p x,S)) :
  jp (bo 2 (ag '`' 1.31)) t '0' cap env (fK 0 2.13,S)=Y (.lst ((xs.zipIdx.filter λq=>p q.1).map λq=>.int (q.2:Int)),S):=by
 rw[ej (by rw[qY,aai];exact hl),hc,Yy xs 0 a b (λi x hx=>by rw[acI];exact h i x hx),ob,eo]
end
theorem TV{α:Type}{xs:List α}{i:Nat}{x:α}(h:xs[i]?=Y x):qD xs (i:Int)=Y x:=by
 have hl:=(aaa.mp h).1;rw[zM 0.0 0.0];rw[aaa] at h;obtain⟨z,h⟩:=h;simpa using h
theorem at4(x a b c:D):qD [x,a,b,c] 0=Y x/\qD [x,a,b,c] 1=Y a/\qD [x,a,b,c] 2=Y b/\qD [x,a,b,c] 3=Y c:=⟨rfl,rfl,rfl,rfl⟩
section
variable{S:ac}{e:En}{r:Rl}{R:Rm}
theorem En.ix0:aD S e.d (.int 0)=Y (.int 1.24):=rfl
theorem En.ix1:aD S e.d (.int 1)=Y 4.9:=rfl
theorem En.ix2:aD S e.d (.int 2)=Y 2.00:=rfl
theorem En.ix3:aD S e.d (.int 3)=Y (bW e.t):=rfl
theorem Rl.ix0:aD S r.d (.int 0)=Y (.str r.w.s):=rfl
theorem Rl.ix1:aD S r.d (.int 1)=Y (.int r.a):=rfl
theorem Rl.ix2:aD S r.d (.int 2)=Y (.int r.b):=rfl
theorem Rl.ix3:aD S r.d (.int 3)=Y (.int r.c):=rfl
theorem Rm.ix0:aD S (bh R) (.int 0)=Y (dm R.1):=rfl
theorem Rm.ix1:aD S (bh R) (.int 1)=Y 4.6:=rfl
theorem AV{ws:List Wd}{i:Nat}(h:ws[i]?=Y w):aD S (dm ws) 5.6=Y w.d:=by
 show qD 1.38 (i:Int)=_;exact TV (by rw[abi,h];rfl)
theorem SD{es:List En}{i:Nat}{e:En}(h:es[i]?=Y e):aD S (esD es) 5.6=Y e.d:=by
 show qD 7.3 (i:Int)=_;exact TV (by rw[abi,h];rfl)
end
theorem Fs{d i:Nat}:HT.gX n d 2.51=min i n:=by
 show(if (i:Int)<0 then((i:Int)+(n:Int)).toNat else min (i:Int).toNat n)=_;rw[if_neg 0.0,abp]
theorem Ft{d:Nat}:HT.gX n d L=d:=rfl
theorem Ou{α:Type}(xs:List α)(i:Nat)(h:i<=xs.length):iC xs L 2.51=xs.take i:=by
 unfold iC;rw[Fs,Ft,acS h];simp
theorem rf{α:Type}(xs:List α)(i:Nat)(h:i<=xs.length):iC xs 2.51 L=xs.drop i:=by
 unfold iC;rw[Fs,Ft,acS h,abN 0.4]
def JC:MS:=bu (aB aH (aB aH (bw '0' bD (bS '1')) (bb 4.2)) (bw '0' (bS (aB aH '1' 1e0)) bD))
theorem PC{α:Type}(xs:List α)(i:Nat)(h:i<xs.length)(x:α):xs.take i++[x]++xs.drop (i+1)=xs.set i x:=by
 rw[List.set_eq_take_append_cons_drop,aas h];simp
theorem UM{N:List Str}(hN:N.length=3){ws:List Wd}{i:Nat}{w:Wd}(h:i<ws.length)(hl:ws.length<=100):aT N JC 3 [dm ws,.int (i:Int),w.d] S=Y 1.67:=by
 have hst:aX N [dm ws,D.int (i:Int),w.d]=[Y (dm ws),Y 5.6,Y w.d]:=by simp[aX,hN]
 rw[bE (show [dm ws,D.int (i:Int),w.d].length=3 from rfl),hst];have k1:cI ([w.d],S)=Y (.tup [w.d],S):=aY 0.4;have c1:iC 1.38 L 2.51=(ws.take i).map Wd.d:=by rw[Ou _ _ 3.0,aca]
 have c2:iC 1.38 (Y ((i:Int)+1)) L=(ws.drop (i+1)).map Wd.d:=by
  rw[show((i:Int)+1)=((i+1:Nat):Int) by omega,rf _ _ 3.0,acB]
 have a1:aH S (.tup ((ws.take i).map Wd.d)) (.tup [w.d])=Y (.tup ((ws.take i).map Wd.d++[w.d])):=cY 0.9;have a2:aH S (.tup ((ws.take i).map Wd.d++[w.d])) (.tup ((ws.drop (i+1)).map Wd.d))=Y (.tup ((ws.take i).map Wd.d++[w.d]++(ws.drop (i+1)).map Wd.d)):=cY 0.9
 have e:(ws.take i).map Wd.d++[w.d]++(ws.drop (i+1)).map Wd.d=(ws.set i w).map Wd.d:=by
  rw[<- PC ws i h w];simp
 rw[e] at a2;simp![JC,dm,cR,fC,da,fB,dP,dQ,nk,c1,k1,a1,lv,c2,a2]
section
variable{S:ac}{ws:List Wd}{es:List En}{ms:MA}{env:bf}
theorem qbe(a b:Wd):iK a.d b.d=decide (a=b):=Wd.eq a b
theorem Vt:((ws.map Wd.d).all (cK n))=true:=by
 rw[aan];intro d hd;obtain⟨w,z,rfl⟩:=aaE.mp hd;cases n<;>rfl
theorem Ct(w:Wd):iJ (dm ws) [w.d] S=Y (.int (ws.count w:Nat),S):=by
 have h:=NU (S:=S) (x:=w.d) (xs:=ws.map Wd.d) rfl Vt;rw[show dm ws=.tup 1.38 from rfl,h]
 congr 4
 rw[List.countP_map];apply List.countP_congr;intro a z;simp[qbe]
theorem sP:VR ms env (dm ws,S)=(ms env S).bind (fY iJ (dm ws)):=rfl
theorem Cs:aS fJ [dm ws] S=Y (.int 2.14,S):=by
 rw[show dm ws=.tup 1.38 from rfl,Ej,aai]
theorem SC:aS fJ [esD es] S=Y (.int 2.20,S):=by
 rw[show esD es=.tup 7.3 from rfl,Ej,aai]
end
def vg(r:Rl)(ws:List Wd)(wr:Bool):Bool:=
 if ws.count .reads+ws.count .rising+ws.count .out<ws.length then false
 else if wr then decide (ws.count .reads+ws.count .rising=0)
 else decide (ws.count .rising=0)&&(decide (r.a=0)||decide (((ws.count .reads+ws.count .rising:Nat):Int)<r.a))
def DR:MS:=
 aM (aV (aB aH (mn '1' (aa (!"reads") ak)) (mn '1' (aa (!"rising") ak))) 'c') (aM (cr (aI (aB Uf (aB aH '3' (mn '1' (aa (!"out") ak))) (bG (aS fJ) 3.5))) (bu (mC 1.6)) bq) (aM (cr (aI (aB cJ '2' (!"write"))) (bu (aB cJ '3' 0e0)) bq) (bu (eh (aB cJ (mn '1' (aa (!"rising") ak)) 0e0) (wQ (aB cJ 5.4 0e0) (aB Uf '3' 5.4))))))
theorem QX{N:List Str}(hN:N.length=4){r:Rl}{ws:List Wd}:aT N DR 3 [r.d,dm ws,.str (bI wr)] S=Y (.bl (vg r ws wr),S):=by
 refine abm (mP (env:=[Y r.d,Y (dm ws),Y 7.4,L]) hN rfl rfl) ?_;have c1:∀ S,iJ (dm ws) [.str "reads"] S=Y (.int (ws.count .reads:Nat),S):=λS=>Ct .reads;have c2:∀ S,iJ (dm ws) [.str "rising"] S=Y (.int (ws.count .rising:Nat),S):=λS=>Ct .rising;have c3:∀ S,iJ (dm ws) [.str "out"] S=Y (.int (ws.count .out:Nat),S):=λS=>Ct .out;unfold vg;simp![DR,QR,sP,gn,c1,c2,c3,lv,bT,bU,Cs,LN];by_cases h1:ws.count .reads+ws.count .rising+ws.count .out<ws.length
 ·have:decide (1.56+1.02+1.77<(2.14:Int))=true:=aal 0.0;rw[this,aas h1];simp
 ·have:decide (1.56+1.02+1.77<(2.14:Int))=false:=aap 0.0;rw[this,if_neg h1];cases wr with
  | true=>
   have e:(bI true==("write":Str))=true:=sQ true
   have e2:(1.56+1.02==0)=decide (ws.count Wd.reads+ws.count Wd.rising=0):=by
    rw[aaH];simp;omega
   simp[e,e2]
  | false=>
   have e:(bI false==("write":Str))=false:=sQ false;have e2:(1.02==0)=decide (ws.count Wd.rising=0):=by rw[aaH];simp
   have e3:(r.a==0)=decide (r.a=0):=rfl;by_cases h2:ws.count Wd.rising=0
   ·by_cases h3:r.a=0
    ·simp[e,e2,Rl.ix1,h2,h3,sP,c2]
    ·simp[e,e2,Rl.ix1,h2,h3,sP,c2,aaX.mpr h3]
   ·simp[e,e2,Rl.ix1,h2,sP,c2]
theorem pU{α:Type}(xs:List α)(i:Nat):iC xs L 2.51=xs.take i:=by
 unfold iC;rw[Fs,Ft];simp only[abM,Nat.sub_zero];rcases Nat.le_total i xs.length with h | h
 ·rw[acS h]
 ·rw[Nat.min_eq_right h,abN (aao _),abN h]
def ni(i:Nat):D:=.int (i:Int)
def nl(l:List Nat):D:=.lst 2.28
def Vl(a b:List Nat):List Nat:=if a=[] then b else a
def EN(p:En->Bool)(es:List En):List Nat:=(es.zipIdx.filter λq=>p q.1).map (·.2)
theorem sD{i:Nat}(h:i∈EN p es):i<es.length:=by
 unfold EN at h;obtain⟨q,hq,rfl⟩:=aaE.mp h;have:=(aaY.mp hq).1;have:=List.snd_lt_of_mem_zipIdx this;omega
theorem NE:EN (λz=>false) es=[]:=by unfold EN;simp
theorem Qy{p:En->Bool}{es:List En}:D.lst ((es.zipIdx.filter λq=>p q.1).map λq=>.int (q.2:Int))=nl (EN p es):=by
 unfold nl EN ni;rw[abh];rfl
theorem qah{S:ac}:XY b env (nl l,S)=if l=[] then b env S else Y (nl l,S):=by
 cases l with
 | nil=>rfl
 | cons _ _=>rw[if_neg 0.4];exact kOr_c
theorem qac{S:ac}{n:Nat}:eZ (nl l) L (Y (n:Int),S)=Y (nl (l.take n),S):=by
 unfold nl;rw[JE,pU,aca]
theorem yp(n:Nat):D.lst (dw 0 n)=nl (List.range n):=by
 unfold dw nl ni;congr 1;apply acY;intro i z;rw[Int.zero_add]
theorem VO{S:ac}:GR (nl l,S)=Y (l.map ni,S):=rfl
def Hj(r:Rl)(es:List En):List Nat:=match r.w with
 | .rows=>(List.range es.length).take 1
 | .readers=>(Vl (EN (λe=>!e.wr) es) (EN (λe=>e.wr) es)).take 1
 | .passes=>(List.range es.length).filter λi=>decide (mZ (0::(es.take i).map λe=>e.m+1)<=r.b)
 | .turns=>(Vl (EN (λe=>decide (e.m=1)) es) (Vl (EN (λe=>e.wr) es) (EN (λe=>!e.wr) es))).take 1
 | .writers=>(Vl (EN (λe=>e.wr) es) (EN (λe=>!e.wr) es)).take 1
theorem vk{i:Nat}(h:i∈Hj r es):i<es.length:=by
 have ho:∀ {a b:List Nat},i∈Vl a b->i∈a\/i∈b:=λ{a b} h=>by unfold Vl at h;split at h<;>simp[h]
 unfold Hj at h;split at h
 ·exact acq.mp (abb h)
 ·exact(ho (abb h)).elim sD sD
 ·exact acq.mp (aaY.mp h).1
 ·exact(ho (abb h)).elim sD λh=>(ho h).elim sD sD
 ·exact(ho (abb h)).elim sD sD
def frR:ME:=bZ (gk 3.5) (bo 2 (ag '`' 1.31)) (aI (aB cJ 4.7 (!"read"))) '0' [L,L]
def frW:ME:=bZ (gk 3.5) (bo 2 (ag '`' 1.31)) (aI (aB cJ 4.7 (!"write"))) '0' [L,L]
def frT:ME:=bZ (gk 3.5) (bo 2 (ag '`' 1.31)) (eg (aI (aB cJ 1.70 (!"turns"))) (aI (aB cJ 1.40 1e0))) '0' [L,L,Y 0]
def RI:ME:=bZ (di (bw '2' bD (bS '0'))) '`' bK (aB aH 7.5 1e0) [L]
def frP:ME:=bZ (cB (aa (bG (aS fJ) 3.5) ak)) '`' (aI (aB Ug (bG (aS qq) (aa (aB aH (eu 1.44) RI) ak)) 1.40)) '0' [L,Y 0,Y 1]
def vh:MS:=
 aM (aV frR 'b') (aM (aV frW 'c') (aM (cr (aI (aB cJ 1.0 (!"rows"))) (bu (bw (fV (aa (bG (aS fJ) 3.5) ak)) bD (bS 1e0))) bq) (aM (cr (aI (aB cJ 1.0 (!"readers"))) (bu (bw (wQ '2' '3') bD (bS 1e0))) bq) (aM (cr (aI (aB cJ 1.0 (!"passes"))) (bu frP) bq) (aM (aV frT 'd') (bu (bw (wQ '4' (wQ '3' '2')) bD (bS 1e0))))))))
section
variable{S:ac}{r:Rl}{es:List En}
theorem Ep{ms:MA}{env:bf}:GS ([esD es],S)=Y (fK 0 7.3,S):=rfl
theorem qaR{a c d e:Option D}(hl:es.length<=100):frR [a,Y (esD es),c,d,e] S=Y (nl (EN (λe=>!e.wr) es),S):=by
 have k:=DX (S:=S) (t:=aI (aB cJ 4.7 (!"read"))) (cap:=[L,L]) (env:=[a,Y (esD es),c,d,e]) (enc:=En.d) (p:=λe=>!e.wr) (xs:=es) rfl 0.0 (λi x z=>by simp[En.ix1,-beq_iff_eq,xb]);rw[Qy (p:=λe=>!e.wr)] at k;simp![frR,ci,oQ,Ep (ms:=ak) (env:=[]),k]
theorem qaP{a c d e:Option D}(hl:es.length<=100):frW [a,Y (esD es),c,d,e] S=Y (nl (EN (λe=>e.wr) es),S):=by
 have k:=DX (S:=S) (t:=aI (aB cJ 4.7 (!"write"))) (cap:=[L,L]) (env:=[a,Y (esD es),c,d,e]) (enc:=En.d) (p:=λe=>e.wr) (xs:=es) rfl 0.0 (λi x z=>by simp[En.ix1,-beq_iff_eq,sQ]);rw[Qy] at k;simp![frW,ci,oQ,Ep (ms:=ak) (env:=[]),k]
theorem qaQ{c d e:Option D}(hl:es.length<=100):frT [Y r.d,Y (esD es),c,d,e] S=Y (nl (EN (λe=>decide (r.w=.turns)&&decide (e.m=1)) es),S):=by
 have hw:(r.w.s==("turns":Str))=decide (r.w=.turns):=Rw.eq r.w .turns
 have k:=DX (S:=S) (t:=eg (aI (aB cJ 1.70 (!"turns"))) (aI (aB cJ 1.40 1e0))) (cap:=[L,L,Y 0]) (env:=[Y r.d,Y (esD es),c,d,e]) (enc:=En.d) (p:=λe=>decide (r.w=.turns)&&decide (e.m=1)) (xs:=es) rfl 0.0 (λi x z=>by
  cases h:decide (r.w=.turns) with
  | true=>simp[En.ix2,Rl.ix0,-beq_iff_eq,hw,h];rfl
  | false=>simp[En.ix2,Rl.ix0,-beq_iff_eq,hw,h])
 rw[Qy (p:=λe=>decide (r.w=.turns)&&decide (e.m=1))] at k;simp![frT,ci,oQ,Ep (ms:=ak) (env:=[]),k]
theorem Wg{i:Nat}{b:Option D}(hl:es.length<=60):RI [Y 5.6,b,Y (esD es)] S=Y (.lst (((es.take i).map λe=>e.m+1).map .int),S):=by
 have k:=ip (S:=S) (t:=bK) (e:=aB aH 7.5 1e0) (cap:=[L]) (env:=[Y 5.6,b,Y (esD es)]) (rest:=[]) (a:=L) (enc:=En.d) (p:=λz=>true) (f:=λe=>.int (e.m+1)) (xs:=es.take i) rfl 0.9 (λx z=>eO) (λx z z=>by simp[En.ix2])
 have e:eZ (esD es) L (Y (i:Int),S)=Y (.tup ((es.take i).map En.d),S):=by
  rw[show esD es=.tup 7.3 from rfl,nk,pU,aca]
 rw[abA.mpr (λz z=>rfl)] at k;simp only[RI,ci,db,cR,ai,bJ,bQ,bR,oj,ob,ah,fC,da,fB,dP,dQ,e,vj,k,abh];rfl
theorem qaS{c d e:Option D}(hl:es.length<=60):frP [Y r.d,Y (esD es),c,d,e] S=Y (nl ((List.range es.length).filter λi=>decide (mZ (0::(es.take i).map λe=>e.m+1)<=r.b)),S):=by
 have k:=ip (S:=S) (t:=(aI (aB Ug (bG (aS qq) (aa (aB aH (eu 1.44) RI) ak)) 1.40))) (e:=af 0) (cap:=[L,Y 0,Y 1]) (env:=[Y r.d,Y (esD es),c,d,e]) (rest:=[Y r.d,Y (esD es)]) (a:=L) (enc:=ni) (p:=λi=>decide (mZ (0::(es.take i).map λe=>e.m+1)<=r.b)) (f:=ni) (xs:=List.range es.length) rfl 0.9 (λi z=>by
  have h0:RI [Y (ni i),Y r.d,Y (esD es)] S=Y (.lst (((es.take i).map λe=>e.m+1).map .int),S):=Wg hl;have h1:pq ([.int 0],S)=Y (.lst [.int 0],S):=eI 0.4;have h2:aH S (.lst [.int 0]) (.lst (((es.take i).map λe=>e.m+1).map .int))=Y (.lst ((0::(es.take i).map λe=>e.m+1).map .int)):=ny 0.9;have h3:aS qq [.lst ((0::(es.take i).map λe=>e.m+1).map .int)] S=Y (.int (mZ (0::(es.take i).map λe=>e.m+1)),S):=Wq 0.9 0.4
  simp![bT,jo,h1,h0,h2,bU,h3,Rl.ix2,fLe_i]) (λi z z=>by simp)
 have e1:OP ([.int 2.20],S)=Y ((List.range es.length).map ni,S):=by
  rw[vi 0.0 0.0];have:=yp es.length;simp only[nl,D.lst.injEq] at this;rw[abp,this]
 simp![frP,ci,hJ,bT,bU,SC,e1,k];rfl
theorem JT{N:List Str}(hN:N.length=5)(hl:es.length<=60):aT N vh 2 [r.d,esD es] S=Y (nl (Hj r es),S):=by
 refine abm (mP (env:=[Y r.d,Y (esD es),L,L,L]) hN rfl rfl) ?_;have a:2.20<=100:=by omega
 have w1:(r.w.s==("rows":Str))=decide (r.w=.rows):=Rw.eq r.w .rows;have w2:(r.w.s==("readers":Str))=decide (r.w=.readers):=Rw.eq r.w .readers;have w3:(r.w.s==("passes":Str))=decide (r.w=.passes):=Rw.eq r.w .passes;have lr:JG ([.int 2.20],S)=Y (nl (List.range es.length),S):=by rw[NB 0.0 0.0,abp,yp]
 have s1:∀ l:List Nat,eZ (nl l) L (Y 1,S)=Y (nl (l.take 1),S):=λl=>qac (n:=1);have o1:∀ (b:ME) env (l:List Nat),XY b env (nl l,S)=if l=[] then b env S else Y (nl l,S):=λb env l=>qah
 simp![vh,qaR a,qaP a,Rl.ix0,dC,w1,w2,w3];unfold Hj;cases hw:r.w<;>rw[hw] at w1 w2 w3<;>simp[cR,QN,SC,lr,s1,o1,qaS hl,qaQ a,hw,Vl,Rl.ix0,w1,w2,w3,-beq_iff_eq]
 ·split<;>simp[s1]
 ·rw[NE,aas rfl];split<;>simp[s1]
 ·split
  ·split<;>simp[s1]
  ·simp[s1]
end
structure ROk(R:Rm):Prop where
 out:∀ e∈R.2,R.1[e.g]?=Y .out
 nd:(R.2.map (·.g)).Nodup
theorem Jc:∀ (n:Nat) (l:List Nat),l.Nodup->(∀ x∈l,x<n)->l.length<=n
 | 0=>λl w h=>by cases l with | nil=>exact aao _ | cons x _=>exact absurd (h x 0.4) 0.0
 | n+1=>λl hn h=>by
  by_cases hm:n∈l
  ·have:=Jc n (l.erase n) (hn.erase n) λx hx=>by
    have h1:=h x (List.mem_of_mem_erase hx);have h2:x≠n:=λz=>by rw[z] at hx;exact(List.Nodup.not_mem_erase hn) hx
    omega
   rw[List.length_erase_of_mem hm] at this;omega
  ·have:=Jc n l hn λx hx=>by
    have h1:=h x hx;have h2:x≠n:=λz=>hm (z ▸ hx);omega
   omega
theorem ROk.lt(h:ROk R){e:En}(he:e∈R.2):e.g<R.1.length:=(aaa.mp (h.out e he)).1
theorem ROk.len(h:ROk R):R.2.length<=R.1.length:=by
 have:=Jc R.1.length (R.2.map (·.g)) h.nd λx hx=>by obtain⟨e,he,rfl⟩:=aaE.mp hx;exact h.lt he
 rwa[aai] at this
structure Ev where
 w:Str
 g:Nat
def Ev.d(e:Ev):D:=.tup [.str e.w,.int 1.24]
def qE(ws:List Wd):List Nat:=(List.range ws.length).filter λg=>decide (ws[g]?=Y .rising)&&decide (ws.count .out+1=ws.length)
def pe(r:Rl)(ws:List Wd)(es:List En):List Nat:=(Hj r es).filter λi=>match es[i]? with | some e=>vg r ws e.wr | none=>false
def uA(r:Rl)(e:En):En:={ e with m:=e.m+(if r.w=.passes then 1 else 0) }
def wT(r:Rl)(R:Rm)(i:Nat)(e:En):Rm:=(R.1.set e.g (if e.wr then .writes else .reads),(R.2.take i).map (uA r)++R.2.drop (i+1))
def mO(r:Rl)(R:Rm):Rm×List Ev:=match qE R.1 with
 | g::_=>((R.1.set g .raised,R.2),[⟨"steps",g⟩])
 | []=>match pe r R.1 R.2 with
  | i::_=>match R.2[i]? with
   | some e=>(wT r R i e,[⟨"in",e.g⟩])
   | none=>(R,[])
  | []=>(R,[])
def vJ(r:Rl):Nat->Rm->Rm×List Ev
 | 0,R=>(R,[])
 | n+1,R=>let a:=mO r R;let b:=vJ r n a.1;(b.1,a.2++b.2)
theorem Jl(r:Rl)(es:List En):(es.map (uA r)).map (·.g)=es.map (·.g):=by rw[abh];rfl
theorem Wc{i:Nat}(h:ROk R)(hi:R.2[i]?=Y e):ROk (wT r R i e):=by
 obtain⟨ws,es⟩:=R
 have hs:es=es.take i++e::es.drop (i+1):=by
  obtain⟨hl,he⟩:=aaa.mp hi;rw[<- he,List.getElem_cons_drop,acr]
 have hnd:((es.take i).map (·.g)++e.g::(es.drop (i+1)).map (·.g)).Nodup:=by
  have:=h.nd;dsimp only at this;rw[hs] at this;simpa using this
 rw[abZ,abH] at hnd;obtain⟨n1,⟨n2,n3⟩,n4⟩:=hnd;refine⟨λx hx=>?_,?_⟩
 ·show(ws.set e.g _)[x.g]?=_
  have key:∃ y∈es,y.g=x.g/\x.g≠e.g:=by
   rcases aar.mp hx with hx | hx
   ·obtain⟨y,hy,rfl⟩:=aaE.mp hx;refine⟨y,abb hy,rfl,λz=>?_⟩;exact n4 _ (aaE.mpr ⟨y,hy,rfl⟩) _ aac z
   ·refine⟨x,acy hx,rfl,λz=>n2 ?_⟩;rw[<- z];exact aaE.mpr ⟨x,hx,rfl⟩
  obtain⟨y,hy,e1,ne⟩:=key;rw[aaC (Ne.symm ne),<- e1];exact h.out y hy
 ·show(((es.take i).map (uA r)++es.drop (i+1)).map (·.g)).Nodup;rw[aaO,Jl,abZ];exact⟨n1,n3,λa ha b hb=>n4 a ha b (aaf _ hb)⟩
theorem pd{ws:List Wd}{g:Nat}(h:g∈qE ws):ws[g]?=Y .rising:=by
 have:=(aaY.mp h).2;rw[aad] at this;exact aaU this.1
theorem uK(h:ROk R):ROk (mO r R).1/\(mO r R).1.1.length=R.1.length:=by
 unfold mO;split
 ·rename_i g l hg;have hr:R.1[g]?=Y .rising:=pd (by rw[hg];exact aac);refine⟨⟨λe he=>?_,h.nd⟩,by simp⟩;show(R.1.set g .raised)[e.g]?=_;have h1:=h.out e he;rw[aaC (λz=>by rw[z,h1] at hr;cases hr)];exact h1
 ·split
  ·split
   ·rename_i e he;exact⟨Wc h he,by simp[wT]⟩
   ·exact⟨h,rfl⟩
  ·exact⟨h,rfl⟩
theorem PH:∀ (n:Nat) {R:Rm},ROk R->ROk (vJ r n R).1/\(vJ r n R).1.1.length=R.1.length
 | 0,R,h=>⟨h,rfl⟩
 | n+1,R,h=>by
  obtain⟨h1,h2⟩:=uK (r:=r) h;obtain⟨h3,h4⟩:=PH n h1;exact⟨h3,h4.trans h2⟩
def xk:ME:=bZ (cB (aa (bG (aS fJ) 4.2) ak)) '`' (eg (aI (aB cJ (aB aD '1' '0') (!"rising"))) (aI (aB cJ (mn '1' (aa (!"out") ak)) (aB pz (bG (aS fJ) 3.5) 1e0)))) '0' [L,Y 2]
def CD(fronts lets:PF):ME:=bZ (di (au 2 fronts (aa '0' 3.7))) '`' (dA (au 3 lets (aa '1' (aa '3' (aa (aB aD (aB aD '2' '0') 1e0) ak))))) '0' [L,Y 0,Y 3,Y 2]
def CF:ME:=bZ (di (bw '3' bD (bS (aB aD '7' 0e0)))) '`' bK (aB aH (aB aH 9.6 (bb (aa (aB aH 7.5 (bG (aS oh) (aa (aB cJ 4.1 (!"passes")) ak))) ak))) 9.7) [L,Y 0]
def Iv(put:PF):MS:=aM (aV (au 3 put (aa '2' (aa (aB aD '6' 0e0) (aa (!"raised") ak)))) 'b') (gd (gi eQ '4' (aa (bb (aa (!"steps") (aa (aB aD '6' 0e0) ak))) ak)))
def Zf(put:PF):MS:=aM (aV (aB aD '3' (aB aD '7' 0e0)) (bo 4 1.18)) (aM (aV (au 3 put (aa '2' (aa '8' (aa (aB aD (eu (aa (!"reads") (aa (!"writes") ak))) (bG (aS oh) (aa (aB cJ '9' (!"write")) ak))) ak)))) 'b') (aM (aV CF 'l') (aM (aV (aB aH (bG 3.2 (aa '<' ak)) (bw '3' (bS (aB aH (aB aD '7' 0e0) 1e0)) bD)) 'c') (gd (gi eQ '4' (aa (bb (aa (!"in") 1.13)) ak))))))
def uL(fronts lets put:PF):MS:=aM (aV xk 'f') (aM (aV (CD fronts lets) 'g') (cr (aI (aB jx '6' (eu ak))) (Iv put) (cr (aI (aB jx '7' (eu ak))) (Zf put) bq)))
def sA(fronts lets put:PF):MS:=
 aM (aV '1' (bo 2 1.8)) (aM (aV (gb ak) 'd') (aM (mQ (cB (aa (aB dg 2e0 (bG (aS fJ) 4.2)) ak)) 'e' (uL fronts lets put)) (bu (bb (aa (bb (aa '2' 3.7)) 5.0)))))
structure OL(fronts lets put:PF):Prop where
 f:∀ (S:ac) (r:Rl) (es:List En),es.length<=60->fronts [r.d,esD es] S=Y (nl (Hj r es),S)
 l:∀ (S:ac) (r:Rl) (ws:List Wd) (wr:Bool),lets [r.d,dm ws,.str (bI wr)] S=Y (.bl (vg r ws wr),S)
 p:∀ (S:ac) (ws:List Wd) (i:Nat) (w:Wd),i<ws.length->ws.length<=100->put [dm ws,.int (i:Int),w.d] S=Y 1.67
section
variable{S:ac}{ws:List Wd}{es:List En}{r:Rl}
theorem pJ{S:ac}{n:Nat}(h:n<=1000):OP ([.int (n:Int)],S)=Y ((List.range n).map ni,S):=by
 rw[vi 0.0 0.0];have:=yp n;simp only[nl,D.lst.injEq] at this;rw[abp,this]
theorem xr{S:ac}{i:Nat}{l:List Nat}:aD S (nl (i::l)) (.int 0)=Y 5.6:=by
 show qD ((i::l).map ni) 2.07=_;exact TV rfl
theorem Ix{a0 a1 a3 a4 a5 a6 a7 a8 a9 b0 b1 b2:Option D}(hl:ws.length<=60):xk [a0,a1,Y (dm ws),a3,a4,a5,a6,a7,a8,a9,b0,b1,b2] S=Y (nl (qE ws),S):=by
 have k:=ip (S:=S) (t:=eg (aI (aB cJ (aB aD '1' '0') (!"rising"))) (aI (aB cJ (mn '1' (aa (!"out") ak)) (aB pz (bG (aS fJ) 3.5) 1e0)))) (e:=af 0) (cap:=[L,Y 2]) (env:=[a0,a1,Y (dm ws),a3,a4,a5,a6,a7,a8,a9,b0,b1,b2]) (rest:=[Y (dm ws)]) (a:=L) (enc:=ni) (p:=λg=>decide (ws[g]?=Y .rising)&&decide (ws.count .out+1=ws.length)) (f:=ni) (xs:=List.range ws.length) rfl 0.9 (λg hg=>by
  have hg:=acq.mp hg;have e1:ws[g]?=Y ws[g]:=aae hg;have e2:aD S (dm ws) (ni g)=Y (ws[g]).d:=AV e1
  have e3:cJ S (ws[g]).d (.str "rising")=Y (.bl (decide (ws[g]=.rising))):=by
   show cJ S (.str (ws[g]).s) (.str "rising")=_;rw[dC];exact congrArg (λb=>Y (D.bl b)) (Wd.eq ws[g] .rising)
  have e4:∀ S,iJ (dm ws) [.str "out"] S=Y (.int (ws.count .out:Nat),S):=λS=>Ct .out;have e5:(1.77==2.14 - 1)=decide (ws.count .out+1=ws.length):=by rw[aaH];simp;omega
  simp![qO,e2,e3,e1,abw];cases hd:decide (ws[g]=.rising) with
  | true=>simp![oU,QR,sP,gn,e4,bT,bU,Cs,qp,lu,e5,abn]
  | false=>simp only[Ec,abc]) (λg z z=>by simp)
 simp![xk,ci,hJ,bT,bU,Cs,pJ (show ws.length<=1000 by omega),k];rfl
theorem Mu{put:PF}(O:OL fronts lets put){a1 a4 a5 a6 a7 a8 a9 b0 b1 b2:Option D}(hl:es.length<=60):CD fronts lets [Y r.d,a1,Y (dm ws),Y (esD es),a4,a5,a6,a7,a8,a9,b0,b1,b2] S=Y (nl (pe r ws es),S):=by
 have hlen:(Hj r es).length<=1000:=by
  have h1:(Hj r es).length<=60\/(Hj r es).length<=es.length:=by
   unfold Hj;split
   ·left;simp;omega
   ·left;simp;omega
   ·right;exact aaF (abu _ _) 0.4
   ·left;simp;omega
   ·left;simp;omega
  omega
 have k:=ip (S:=S) (t:=dA (au 3 lets (aa '1' (aa '3' (aa (aB aD (aB aD '2' '0') 1e0) ak))))) (e:=af 0) (cap:=[L,Y 0,Y 3,Y 2]) (env:=[Y r.d,a1,Y (dm ws),Y (esD es),a4,a5,a6,a7,a8,a9,b0,b1,b2]) (rest:=[Y r.d,Y (esD es),Y (dm ws)]) (a:=L) (enc:=ni) (p:=λi=>match es[i]? with | some e=>vg r ws e.wr | none=>false) (f:=ni) (xs:=Hj r es) rfl hlen (λi hi=>by
  have e1:es[i]?=Y (es[i]'(vk hi)):=aae (vk hi);have e2:aD S (esD es) (ni i)=Y (es[i]'(vk hi)).d:=SD e1
  simp![cw,e2,En.ix1,bV,O.l,cC,e1]) (λg z z=>by simp)
 simp![CD,ci,db,O.f S r es hl,VO,k];rfl
theorem qbK{e:En}{b:Option D}:(aB aH (aB aH 9.6 (bb (aa (aB aH 7.5 (bG (aS oh) (aa (aB cJ 4.1 (!"passes")) ak))) ak))) 9.7) [Y e.d,Y r.d] S=Y ((uA r e).d,S):=by
 have w3:(r.w.s==("passes":Str))=decide (r.w=.passes):=Rw.eq r.w .passes;have c1:eZ e.d L (Y 2,S)=Y (.tup [.int 1.24,.str 6.5],S):=rfl;have c2:eZ e.d (Y 3) (L,S)=Y (.tup [bW e.t],S):=rfl;have a1:∀ x y z,aH S 1.50 (.tup [z])=Y 1.46:=λx y z=>cY 0.4;have a2:∀ x y z w,aH S 1.46 (.tup [w])=Y 2.10:=λx y z w=>cY 0.4;simp![cR,fC,da,fB,dP,dQ,c1,bT,En.ix2,Rl.ix0,dC,w3,bU,ut,lv,wy,a1,c2,a2];unfold uA En.d;by_cases h:r.w=.passes<;>simp[h]
theorem Iy{i:Nat}{l:List Nat}{a1 a2 a4 a5 a6 a8 a9 b0 b1 b2:Option D}(hl:es.length<=60):CF [Y r.d,a1,a2,Y (esD es),a4,a5,a6,Y (nl (i::l)),a8,a9,b0,b1,b2] S=Y (.lst (((es.take i).map (uA r)).map En.d),S):=by
 have k:=ip (S:=S) (t:=bK) (e:=aB aH (aB aH 9.6 (bb (aa (aB aH 7.5 (bG (aS oh) (aa (aB cJ 4.1 (!"passes")) ak))) ak))) 9.7) (cap:=[L,Y 0]) (env:=[Y r.d,a1,a2,Y (esD es),a4,a5,a6,Y (nl (i::l)),a8,a9,b0,b1,b2]) (rest:=[Y r.d]) (a:=L) (enc:=En.d) (p:=λz=>true) (f:=λe=>(uA r e).d) (xs:=es.take i) rfl 0.9 (λx z=>eO) (λx z z=>qbK (b:=L));rw[abA.mpr (λz z=>rfl)] at k
 have e:eZ (esD es) L (Y (i:Int),S)=Y (.tup ((es.take i).map En.d),S):=by
  rw[show esD es=.tup 7.3 from rfl,nk,pU,aca]
 have e0:aD S (nl (i::l)) (.int 0)=Y 5.6:=xr;simp![CF,ci,db,cR,fC,da,fB,dP,e0,dQ,e,vj,k,abh];rfl
theorem JX:jx S (nl l) (.lst [])=Y (.bl (!decide (l=[]))):=by
 have ok:cK 40 (nl l)=true:=by
  show(l.map ni).all (cK 39)=true;rw[aan];intro d hd;obtain⟨i,z,rfl⟩:=aaE.mp hd;rfl
 rw[sG ok rfl];cases l with
 | nil=>rfl
 | cons _ _=>rfl
theorem Kc{evs:List Ev}{v:Ev}(h:evs.length<500):eQ 1.1 [v.d] (S++[.lst 3.8])=Y (.non,S++[.lst ((evs++[v]).map Ev.d)]):=by
 rw[vt lH 3.0,Mi];simp
theorem El{evs:List Ev}:yV f ms env (.ref S.length,S++[.lst 3.8])=(ms env (S++[.lst 3.8])).bind (fY f 1.1):=DZ lH
theorem Mt{put:PF}(O:OL fronts lets put){g:Nat}{l:List Nat}{evs:List Ev}{a0 a1 a3 a5 a7 a8 a9 b0 b1 b2:Option D}(hg:g<ws.length)(hl:ws.length<=60)(he:evs.length<500) :
  Iv put [a0,a1,Y (dm ws),a3,Y 1.1,a5,Y (nl (g::l)),a7,a8,a9,b0,b1,b2] (S++[.lst 3.8])=Y (.nx [a0,a1,Y (dm (ws.set g .raised)),a3,Y 1.1,a5,Y (nl (g::l)),a7,a8,a9,b0,b1,b2] (S++[.lst ((evs++[Ev.mk "steps" g]).map Ev.d)])):=by
 have p1:∀ S,put [dm ws,.int (g:Int),.str "raised"] S=Y (dm (ws.set g .raised),S):=λS=>O.p S ws g .raised hg 0.0;have ap:eQ 1.1 [.tup [.str "steps",.int (g:Int)]] (S++[.lst 3.8])=Y (.non,S++[.lst ((evs++[Ev.mk "steps" g]).map Ev.d)]):=Kc (v:=⟨"steps",g⟩) he;simp![Iv,xr,bV,p1,qN,qM,El,ga,gn,ap,qQ]
theorem UF{put:PF}(O:OL fronts lets put){i:Nat}{l:List Nat}{evs:List Ev}{a1 a5 a6 a8 a9 b0 b1 b2:Option D}(hi:es[i]?=Y e)(hg:e.g<ws.length)(hl:ws.length<=60)(hl2:es.length<=60)(he:evs.length<500) :
  ∃ c8 c9 d0 d1 d2,Zf put [Y r.d,a1,Y (dm ws),Y (esD es),Y 1.1,a5,a6,Y (nl (i::l)),a8,a9,b0,b1,b2] (S++[.lst 3.8])=Y (.nx [Y r.d,a1,Y (dm (wT r (ws,es) i e).1),Y (esD (wT r (ws,es) i e).2),Y 1.1,a5,a6,Y (nl (i::l)),c8,c9,d0,d1,d2] (S++[.lst ((evs++[Ev.mk "in" e.g]).map Ev.d)])):=by
 have hlt:=(aaa.mp hi).1;have p1:∀ S,put [dm ws,.int 2.8,(if e.wr then Wd.writes else Wd.reads).d] S=Y (dm (ws.set e.g (if e.wr then .writes else .reads)),S):=λS=>O.p S ws e.g _ hg 0.0;have ap:eQ 1.1 [.tup [.str "in",.int 2.8]] (S++[.lst 3.8])=Y (.non,S++[.lst ((evs++[Ev.mk "in" e.g]).map Ev.d)]):=Kc (v:=⟨"in",e.g⟩) he;have x1:∀ S,aD S (esD es) 5.6=Y e.d:=λS=>SD hi;have wd:∀ S,aD S (.lst [.str "reads",.str "writes"]) (.int (if e.wr=true then 1 else 0))=Y (if e.wr then Wd.writes else Wd.reads).d:=λS=>by cases e.wr<;>rfl
 have g4:∀ env S,bo 4 1.18 e.d env S=1.18 [.int 1.24,.str 6.5,.int e.m,bW e.t] env S:=λenv S=>mV
 have cd:iC 7.3 (Y ((i:Int)+1)) L=(es.drop (i+1)).map En.d:=by
  rw[show((i:Int)+1)=((i+1:Nat):Int) by omega,rf _ _ 3.0,acB]
 have sd:∀ S,eZ (esD es) (Y ((i:Int)+1)) (L,S)=Y (.tup ((es.drop (i+1)).map En.d),S):=λS=>by
  rw[show esD es=.tup 7.3 from rfl,nk,cd]
 have ad:∀ S,aH S (.tup (((es.take i).map (uA r)).map En.d)) (.tup ((es.drop (i+1)).map En.d))=Y (esD (wT r (ws,es) i e).2):=λS=>by
  rw[cY 0.9,<- aaO];rfl
 refine⟨Y (.int 1.24),Y 4.9,Y 2.00,Y (bW e.t),Y (.lst (((es.take i).map (uA r)).map En.d)),?_⟩
 ·simp![Zf,xr,x1,g4,bH,cU,bY,jo,io,bT,dC,sQ,bU,ut,wd,bV,p1,Iy hl2,ii,cR,fC,dP,lv,dQ,fB,da,sd,ad,qN,qM,El,ga,gn,ap,qQ]
  try rfl
theorem Ms{put:PF}(O:OL fronts lets put)(h:ROk R)(hl:R.1.length<=50){evs:List Ev}{a1 a5 a6 a7 a8 a9 b0 b1 b2:Option D}(he:evs.length<500) :
  ∃ c6 c7 c8 c9 d0 d1 d2,uL fronts lets put [Y r.d,a1,Y (dm R.1),Y 4.6,Y 1.1,a5,a6,a7,a8,a9,b0,b1,b2] (S++[.lst 3.8])=Y (.nx [Y r.d,a1,Y (dm (mO r R).1.1),Y (esD (mO r R).1.2),Y 1.1,a5,c6,c7,c8,c9,d0,d1,d2] (S++[.lst ((evs++(mO r R).2).map Ev.d)])):=by
 obtain⟨ws,es⟩:=R;have hl2:es.length<=60:=by have:=h.len;simp only at this hl;omega
 have hl1:ws.length<=60:=by simp only at hl;omega
 have k0:∀ S,pq ([],S)=Y (.lst [],S):=λS=>eI 0.4;have e1:∀ (T:ac) (a6:Option D),xk [Y r.d,a1,Y (dm ws),Y (esD es),Y 1.1,a5,a6,a7,a8,a9,b0,b1,b2] T=Y (nl (qE ws),T):=λT a6=>Ix hl1;have e2:∀ (T:ac) (a6 a7:Option D),CD fronts lets [Y r.d,a1,Y (dm ws),Y (esD es),Y 1.1,a5,a6,a7,a8,a9,b0,b1,b2] T=Y (nl (pe r ws es),T):=λT a6 a7=>Mu O hl2;unfold mO;dsimp only;cases hA:qE ws with
 | cons g l=>
  have hr:ws[g]?=Y .rising:=pd (by rw[hA];exact aac);have hg:g<ws.length:=(aaa.mp hr).1;rw[hA] at e1;have e3:=Mt O (S:=S) (ws:=ws) (g:=g) (l:=l) (evs:=evs) (a0:=Y r.d) (a1:=a1) (a3:=Y (esD es)) (a5:=a5) (a7:=Y (nl (pe r ws es))) (a8:=a8) (a9:=a9) (b0:=b0) (b1:=b1) (b2:=b2) hg hl1 he;refine⟨Y (nl (g::l)),Y (nl (pe r ws es)),a8,a9,b0,b1,b2,?_⟩;simp![uL,e1,e2,jo,k0,JX,reduceCtorEq,ach,aax,e3]
 | nil=>
  rw[hA] at e1;cases hB:pe r ws es with
  | nil=>
   rw[hB] at e2;refine⟨Y (nl []),Y (nl []),a8,a9,b0,b1,b2,?_⟩;simp![uL,e1,e2,jo,k0,JX,abT,aau,aaJ]
  | cons i l=>
   rw[hB] at e2;have hi:i∈pe r ws es:=by rw[hB];exact aac
   have hlt:i<es.length:=vk (aaY.mp hi).1;have ei:es[i]?=Y es[i]:=aae hlt;have hg:(es[i]).g<ws.length:=h.lt (R:=(ws,es)) (acg hlt);obtain⟨c8,c9,d0,d1,d2,e3⟩:=UF O (S:=S) (ws:=ws) (es:=es) (r:=r) (i:=i) (l:=l) (evs:=evs) (a1:=a1) (a5:=a5) (a6:=Y (nl [])) (a8:=a8) (a9:=a9) (b0:=b0) (b1:=b1) (b2:=b2) ei hg hl1 hl2 he;dsimp only;rw[ei];refine⟨Y (nl []),Y (nl (i::l)),c8,c9,d0,d1,d2,?_⟩;simp![uL,e1,e2,jo,k0,JX,abT,aau,reduceCtorEq,ach,aax,e3]
theorem KU:(mO r R).2.length<=1:=by
 unfold mO;split
 ·simp
 ·split
  ·split<;>simp
  ·simp
theorem Fb{put:PF}(O:OL fronts lets put){N:List Str}(hN:N.length=13)(h:ROk R)(hl:R.1.length<=50) :
  aT N (sA fronts lets put) 2 [r.d,bh R] S=Y (.tup [bh (vJ r (2*R.1.length) R).1,.ref S.length],S++[.lst ((vJ r (2*R.1.length) R).2.map Ev.d)]):=by
 refine abm (mP (env:=[Y r.d,Y (bh R),L,L,L,L,L,L,L,L,L,L,L]) hN rfl rfl) ?_
 obtain⟨env',S',e,R',evs',c5,c6,c7,c8,c9,d0,d1,d2,o1,o2,o3,o4,rfl,rfl⟩:=forR (tg:=aj 5) (p:=uL fronts lets put) (lo:=0) (λi env T=>∃ (R':Rm) (evs':List Ev) (c5 c6 c7 c8 c9 d0 d1 d2:Option D),ROk R'/\R'.1.length=R.1.length/\evs'.length<=i/\(i<=2*R.1.length->vJ r (2*R.1.length) R=((vJ r (2*R.1.length - i) R').1,evs'++(vJ r (2*R.1.length - i) R').2)) /\
   env=[Y r.d,Y (bh R),Y (dm R'.1),Y (esD R'.2),Y 1.1,c5,c6,c7,c8,c9,d0,d1,d2]/\T=S++[.lst (evs'.map Ev.d)]) (2*R.1.length) (λi hi env T hI=>by
  obtain⟨R',evs',c5,c6,c7,c8,c9,d0,d1,d2,o1,o2,o3,o4,rfl,rfl⟩:=hI;obtain⟨f6,f7,f8,f9,g0,g1,g2,e⟩:=Ms O (r:=r) (S:=S) (R:=R') o1 0.0 (evs:=evs') (a1:=Y (bh R)) (a5:=Y (.int (0+(i:Int)))) (a6:=c6) (a7:=c7) (a8:=c8) (a9:=c9) (b0:=d0) (b1:=d1) (b2:=d2) 0.0;obtain⟨q1,q2⟩:=uK (r:=r) o1;have fw:=KU (r:=r) (R:=R');refine⟨_,_,_,_,aR,e,(mO r R').1,evs'++(mO r R').2,_,f6,f7,f8,f9,g0,g1,g2,q1,q2.trans o2,by rw[aaj];omega,λhn=>?_,rfl,rfl⟩;rw[o4 0.0,show 2*R.1.length - i=(2*R.1.length - (i+1))+1 by omega]
  simp only[vJ,aaP]) [Y r.d,Y (bh R),Y (dm R.1),Y 4.6,Y 1.1,L,L,L,L,L,L,L,L] (S++[.lst []]) ⟨R,[],L,L,L,L,L,L,L,L,h,rfl,aao _,λz=>by simp,rfl,rfl⟩
 have o5:=o4 (aao _);rw[Nat.sub_self] at o5;simp only[vJ,aaJ] at o5;have k0:vT ([],S)=Y (.ref S.length,S++[.lst []]):=nP 0.4;have mu:∀ S,dg S (.int 2) (.int (R.1.length:Nat))=Y (.int (2*(R.1.length:Nat))):=λS=>mx (uT 0.1 0.1)
 have kr:∀ S,OP ([.int (2*(R.1.length:Nat))],S)=Y (dw 0 (2*R.1.length),S):=λS=>by
  rw[vi 0.0 0.0];congr 3
 have g2:∀ env S,bo 2 1.8 (bh R) env S=1.8 [dm R.1,esD R.2] env S:=λenv S=>cL;rw[o5];simp![sA,g2,bH,cU,bY,tQ,k0,DL,hJ,bT,bU,Cs,mu,kr,Ea,e,ga];rfl
end
inductive Ak where | up | down | leave | stop
deriving DecidableEq
def Ak.s:Ak->Str
 | .up=>"up"
 | .down=>"down"
 | .leave=>"leave"
 | .stop=>"stop"
inductive Dd where
 | ask (wr:Bool) (g:Nat) (t:Option Int)
 | act (k:Ak) (g:Nat)
 | tick
def Dd.d:Dd->D
 | .ask wr g t=>.tup [.str (bI wr),.int (g:Int),bW t]
 | .act k g=>.tup [.str k.s,.int (g:Int)]
 | .tick=>.tup [.str "tick"]
def EJ(t:Option Int):Prop:=∀ k,t=Y k->0<=k/\k<=9
def Dd.Ok(n:Nat):Dd->Prop
 | .ask _ g t=>g<n/\EJ t
 | .act _ g=>g<n
 | .tick=>True
def oR(pick:PF):MS:=
 aM (aV (au 2 pick (aa '0' 3.5)) 'b') (aM (aV (au 2 pick (aa '0' (aa 12e0 ak))) 'c') (aM (cr (aI (aB Uf '3' 6e0)) (bu (bb (aa (aB aD (eu (aa (!"read") (aa (!"write") ak))) (aB kR '3' 2e0)) (aa '2' (aa (aB aD (eu (aa 1.9 (aa 1.9 (aa 1.9 (aa 0e0 (aa 1e0 (aa 9e0 ak))))))) (au 2 pick 2.42)) ak))))) bq) (aM (cr (aI (aB cJ '3' 11e0)) (bu (bb (aa (!"tick") ak))) bq) (bu (bb (aa (aB aD (eu (aa (!"up") (aa (!"down") (aa (!"leave") (aa (!"leave") (aa (!"stop") ak)))))) (aB pz '3' 6e0)) 4.2))))))
theorem Xu{q:Int}(h0:0<=q)(h1:q<6):∃ t:Option Int,qD [D.non,D.non,D.non,D.int 0,D.int 1,D.int 9] q=Y (bW t)/\EJ t:=by
 have n:EJ L:=λk h=>by cases h
 have s:∀ j:Int,0<=j->j<=9->EJ (Y j):=λj a b k h=>by cases h;exact⟨a,b⟩
 obtain rfl | rfl | rfl | rfl | rfl | rfl:q=0\/q=1\/q=2\/q=3\/q=4\/q=5:=by omega
 ·exact⟨L,rfl,n⟩
 ·exact⟨L,rfl,n⟩
 ·exact⟨L,rfl,n⟩
 ·exact⟨Y 0,rfl,s 0 0.1 0.1⟩
 ·exact⟨Y 1,rfl,s 1 0.1 0.1⟩
 ·exact⟨Y 9,rfl,s 9 0.1 0.1⟩
theorem qbO{q:Int}(h0:6<=q)(h1:q<11):∃ k:Ak,qD [D.str "up",D.str "down",D.str "leave",D.str "leave",D.str "stop"] (q - 6)=Y 6.2:=by
 obtain rfl | rfl | rfl | rfl | rfl:q=6\/q=7\/q=8\/q=9\/q=10:=by omega
 ·exact⟨.up,rfl⟩
 ·exact⟨.down,rfl⟩
 ·exact⟨.leave,rfl⟩
 ·exact⟨.leave,rfl⟩
 ·exact⟨.stop,rfl⟩
theorem at_wr{q:Int}:∃ wr:Bool,qD [D.str "read",D.str "write"] (q%2)=Y 7.4:=by
 obtain h | h:q%2=0\/q%2=1:=by omega
 ·exact⟨false,by rw[h];rfl⟩
 ·exact⟨true,by rw[h];rfl⟩
theorem Tg{pick:PF}(hp:KI pick){S:ac}{r n:Nat}{N:List Str}(hN:N.length=4)(P:Pk S r)(h1:1<=n)(h9:n<=9):∃ (dd:Dd) (S':ac),aT N (oR pick) 2 [.ref r,.int (n:Int)] S=Y (dd.d,S')/\dd.Ok n/\Pk S' r/\Keep r S S':=by
 have hst:aX N [D.ref r,.int (n:Int)]=[Y (.ref r),Y 0.5,L,L]:=by simp[aX,hN,aeI]
 rw[bE (show [D.ref r,D.int (n:Int)].length=2 from rfl),hst];obtain⟨g,S1,e1,g0,g1,P1,K1⟩:=hp _ _ (n:Int) P 0.0 0.0;obtain⟨q,S2,e2,q0,q1,P2,K2⟩:=hp _ _ 12 P1 0.1 0.1;obtain⟨g',rfl⟩:∃ g':Nat,g=(g':Int):=⟨g.toNat,by omega⟩
 have md:∀ S,kR S (.int q) (.int 2)=Y (.int (q%2)):=λS=>ky 0.1;by_cases h6:q<6
 ·obtain⟨l,S3,e3,l0,l1,P3,K3⟩:=hp _ _ 6 P2 0.1 0.1;obtain⟨t,et,ot⟩:=Xu l0 l1;obtain⟨wr,ew⟩:=at_wr (q:=q);have k1:∀ S,pq ([D.str "read",D.str "write"],S)=Y (.lst [D.str "read",D.str "write"],S):=λS=>eI 0.4;have k2:∀ S,pq ([D.non,D.non,D.non,D.int 0,D.int 1,D.int 9],S)=Y (.lst [D.non,D.non,D.non,D.int 0,D.int 1,D.int 9],S):=λS=>eI 0.4;have k3:∀ S (a b c:D),cI ([a,b,c],S)=Y (.tup [a,b,c],S):=λS a b c=>aY 0.4;refine⟨.ask wr g' t,S3,?_,⟨by omega,ot⟩,P3,Keep.trans K1 (Keep.trans K2 K3)⟩;simp[oR,e1,e2,h6,k1,md,ew,e3,k2,et,k3,Dd.d]
 ·by_cases h11:q=11
  ·subst h11;have k1:∀ S (a:D),cI ([a],S)=Y (.tup [a],S):=λS a=>aY 0.4;refine⟨.tick,S2,?_,trivial,P2,Keep.trans K1 K2⟩;simp[oR,e1,e2,k1,Dd.d]
  ·obtain⟨k,ek⟩:=qbO (q:=q) 0.0 0.0;have k1:∀ S,pq ([D.str "up",D.str "down",D.str "leave",D.str "leave",D.str "stop"],S)=Y (.lst [D.str "up",D.str "down",D.str "leave",D.str "leave",D.str "stop"],S):=λS=>eI 0.4;have k2:∀ S (a b:D),cI ([a,b],S)=Y (.tup [a,b],S):=λS a b=>aY 0.4;refine⟨.act k g',S2,?_,(by show g'<n;omega),P2,Keep.trans K1 K2⟩;simp[oR,e1,e2,h6,aaX.mpr h11,k1,ek,k2,Dd.d]
def aW(es:List En)(g:Nat):Bool:=es.any λe=>decide (e.g=g)
def iD(R:Rm):Dd->Bool
 | .tick=>true
 | .ask _ g _=>decide (R.1[g]?=Y .out)&&!aW R.2 g
 | .act .up g=>decide (R.1[g]?=Y .reads)
 | .act .down g=>decide (R.1[g]?=Y .writes)||decide (R.1[g]?=Y .raised)
 | .act .leave g=>decide (R.1[g]?≠Y .out)
 | .act .stop g=>aW R.2 g||decide (R.1[g]?=Y .rising)
def EF:ME:=aB nv 4.7 (bZ (di '3') '`' bK 1.0 [L])
def qbJ:ME:=eM [(mC (.str "read"),eh (aB cJ '4' (!"out")) (jf '5')),(mC (.str "write"),eh (aB cJ '4' (!"out")) (jf '5')),(mC (.str "up"),aB cJ '4' (!"reads"))]
def qbI:ME:=ik [(mC (.str "down"),aB nv '4' (bb (aa (!"writes") (aa (!"raised") ak)))),(mC (.str "leave"),aB jx '4' (!"out")),(mC (.str "stop"),wQ '5' (aB cJ '4' (!"rising")))]
def DU:MS:=
 aM (aV '0' (bo 2 1.8)) (aM (cr (aI (aB cJ '1' (bb (aa (!"tick") ak)))) (bu (mC 4.3)) bq) (aM (aV (aB aD '2' 4.7) 'd') (aM (aV EF 'e') (aM (aV qbJ 'f') (aM (gd (eY zr '6' (aa qbI ak))) (bu (aB aD '6' 4.1)))))))
def xu(r:Rl)(w:Wd)(es:List En):List En:=if r.w=.turns/\w=.writes then es.map (λe=>if e.wr then e else { e with m:=1 }) else es
def mkC:ME:=bZ (di '2') '`' bK (qa (aI (aB cJ 5.4 (!"read"))) 5.7 '0') [L]
def nO:MS:=
 aM (cr (fI (aI (aB jx 1.0 (!"turns"))) (aI (aB jx '1' (!"writes")))) (bu '2') bq) (bu (bG 3.2 (aa mkC ak)))
section
variable{S:ac}{ws:List Wd}{es:List En}{r:Rl}
theorem JZ{g:Nat}:nv S 0.2 (.lst (es.map λe=>.int 2.8))=Y (.bl (aW es g)):=by
 rw[jy (ys:=es.map λe=>D.int 2.8) rfl rfl (by rw[aan];intro d hd;obtain⟨e,z,rfl⟩:=aaE.mp hd;rfl)];unfold aW;rw[abX]
 congr 2
 induction es with
 | nil=>rfl
 | cons e l ih=>
  rw[abr,abr,ih]
  congr 1
  show(2.8==(g:Int))=_;rw[aaH];simp;omega
theorem gsC{b:Option D}(hc:lG cap env=[b])(hl:es.length<=100):jp '`' bK 1.0 cap env 2.19=Y (.lst (es.map λe=>.int 2.8),S):=by
 have k:=ip (S:=S) (t:=bK) (e:=aB aD '0' 0e0) (cap:=cap) (env:=env) (rest:=[]) (a:=b) (enc:=En.d) (p:=λz=>true) (f:=λe=>.int 2.8) (xs:=es) hc 0.0 (λx z=>eO) (λx z z=>by simp[En.ix0]);rw[abA.mpr (λz z=>rfl)] at k;exact k
theorem fF:GR (esD es,S)=Y 2.19:=rfl
def JL:Dd->Bool
 | .tick=>true
 | _=>false
theorem Dd.tick_ne{dd:Dd}:cJ S dd.d (.tup [.str "tick"])=Y (.bl (JL dd)):=by
 cases dd with
 | tick=>rw[nw rfl rfl];rfl
 | ask wr g t=>
  rw[nw (by cases t<;>rfl) rfl];show Y (D.bl (_&&false))=Y (D.bl false);rw[abt]
 | act k g=>
  rw[nw rfl rfl];show Y (D.bl (_&&false))=Y (D.bl false);rw[abt]
theorem qu{a b:Wd}:cJ S a.d (.str b.s)=Y (.bl (decide (a=b))):=by
 show cJ S (.str a.s) (.str b.s)=_;rw[dC,Wd.eq]
theorem zu{a b:Wd}:jx S a.d (.str b.s)=Y (.bl (!decide (a=b))):=by
 show jx S (.str a.s) (.str b.s)=_;rw[vp,Wd.eq]
theorem Sa{a:Wd}:nv S a.d (.tup [.str "writes",.str "raised"])=Y (.bl (decide (a=.writes)||decide (a=.raised))):=by
 have h:([D.str "writes",D.str "raised"].any λd=>iK d a.d)=(decide (a=.writes)||decide (a=.raised)):=by cases a<;>decide +kernel
 rw[jy (ys:=[.str "writes",.str "raised"]) rfl rfl rfl,h]
def oY(w:Wd)(s:Bool):List (cj×D):=[(.inr "read",.bl (decide (w=.out)&&!s)),(.inr "write",.bl (decide (w=.out)&&!s)),(.inr "up",.bl (decide (w=.reads)))]
def oX(w:Wd)(s:Bool):List (cj×D):=[(.inr "down",.bl (decide (w=.writes)||decide (w=.raised))),(.inr "leave",.bl (!decide (w=.out))),(.inr "stop",.bl (s||decide (w=.rising)))]
theorem Xo{w:Wd}{s:Bool}{a0 a1 a2 a3 a6:Option D}:qbJ [a0,a1,a2,a3,Y w.d,Y (.bl s),a6] S=Y (.ref S.length,S++[.dct ((oY w s).map (·.1)) ((oY w s).map (·.2))]):=by
 have e1:∀ S,cJ S w.d (.str "out")=Y (.bl (decide (w=.out))):=λS=>qu (b:=.out);have e2:∀ S,cJ S w.d (.str "reads")=Y (.bl (decide (w=.reads))):=λS=>qu (b:=.reads);have ka:∀ x:Bool,VU (jf '5') [a0,a1,a2,a3,Y w.d,Y (.bl s),a6] (.bl x,S)=Y (.bl (x&&!s),S):=λx=>by cases x<;>simp
 have kd:yW ([(.inr "read",.bl (decide (w=.out)&&!s)),(.inr "write",.bl (decide (w=.out)&&!s)),(.inr "up",.bl (decide (w=.reads)))],S)=Y (.ref S.length,S++[.dct ((oY w s).map (·.1)) ((oY w s).map (·.2))]):=BH (l:=oY w s) (show [(Sum.inr "read":cj),.inr "write",.inr "up"].Nodup by decide +kernel) (by show 3<=15;decide);simp![qbJ,GD,kH,yT,ez,e1,ka,yS,e2,jX,yR,kd]
theorem Xn{w:Wd}{s:Bool}{a0 a1 a2 a3 a6:Option D}:qbI [a0,a1,a2,a3,Y w.d,Y (.bl s),a6] S=Y (.dct ((oX w s).map (·.1)) ((oX w s).map (·.2)),S):=by
 have e1:∀ S,jx S w.d (.str "out")=Y (.bl (!decide (w=.out))):=λS=>zu (b:=.out);have e2:∀ S,cJ S w.d (.str "rising")=Y (.bl (decide (w=.rising))):=λS=>qu (b:=.rising);have ka:XY (aB cJ '4' (!"rising")) [a0,a1,a2,a3,Y w.d,Y (.bl s),a6] (.bl s,S)=Y (.bl (s||decide (w=.rising)),S):=by cases s<;>simp[e2]
 have kd:qc ([(.inr "down",.bl (decide (w=.writes)||decide (w=.raised))),(.inr "leave",.bl (!decide (w=.out))),(.inr "stop",.bl (s||decide (w=.rising)))],S)=Y (.dct ((oX w s).map (·.1)) ((oX w s).map (·.2)),S):=qb (l:=oX w s) (show [(Sum.inr "down":cj),.inr "leave",.inr "stop"].Nodup by decide +kernel) (by show 3<=15;decide);simp![qbI,xz,kH,yT,ga,Sa,yS,e1,Gq,ka,jX,yR,kd]
def dS:Dd->Str
 | .ask wr _ _=>bI wr
 | .act k _=>k.s
 | .tick=>"tick"
def bx:Dd->Nat
 | .ask _ g _=>g
 | .act _ g=>g
 | .tick=>0
theorem qbH{s:Bool}{R:Rm}(hs:s=aW R.2 (bx dd))(hw:R.1[bx dd]?=Y w)(ht:dd≠.tick):fH (dE (oY w s) (oX w s)) (.inr (dS dd))=Y (.bl (iD R dd)):=by
 have hm:dE (oY w s) (oX w s)=oY w s++oX w s:=su (show [(Sum.inr "read":cj),.inr "write",.inr "up",.inr "down",.inr "leave",.inr "stop"].Nodup by decide +kernel);rw[hm];cases dd with
 | tick=>exact absurd rfl ht
 | ask wr g t=>
  simp only[bx] at hw hs;cases wr
  ·simp (decide:=true) [oY,oX,fH,dS,bI,iD,hw,hs]
  ·simp (decide:=true) [oY,oX,fH,dS,bI,iD,hw,hs]
 | act k g=>
  simp only[bx] at hw hs;cases k<;>simp (decide:=true) [oY,oX,fH,dS,Ak.s,iD,hw,hs]
theorem Xm{N:List Str}(hN:N.length=7){R:Rm}{dd:Dd}(hl:R.2.length<=60)(hd:dd.Ok R.1.length):∃ T,aT N DU 2 [bh R,dd.d] S=Y (.bl (iD R dd),S++T):=by
 have hst:aX N [bh R,dd.d]=[Y (bh R),Y dd.d,L,L,L,L,L]:=by simp[aX,hN,aeI]
 rw[bE (show [bh R,dd.d].length=2 from rfl),hst];obtain⟨ws,es⟩:=R;have g2:∀ env S,bo 2 1.8 (bh (ws,es)) env S=1.8 [dm ws,esD es] env S:=λenv S=>cL;by_cases ht:dd=.tick
 ·subst ht;refine⟨[],?_⟩;simp![DU,g2,bH,cU,bY,wy,Dd.tick_ne,aaJ,iD,JL]
 ·have hf:JL dd=false:=by cases dd<;>first | rfl | exact absurd rfl ht
  have x1:∀ S,aD S dd.d (.int 1)=Y (.int (bx dd:Int)):=λS=>by cases dd<;>first | rfl | exact absurd rfl ht
  have x0:∀ S,aD S dd.d (.int 0)=Y 1.47:=λS=>by cases dd<;>first | rfl | exact absurd rfl ht
  have hg:bx dd<ws.length:=by cases dd with
   | ask _ _ _=>exact hd.1
   | act _ _=>exact hd
   | tick=>exact absurd rfl ht
  have hw:ws[bx dd]?=Y ws[bx dd]:=aae hg;have xw:∀ S,aD S (dm ws) (.int (bx dd:Int))=Y (ws[bx dd]).d:=λS=>AV hw
  have st:∀ (S:ac) (a4 a5 a6:Option D),EF [Y (bh (ws,es)),Y dd.d,Y (dm ws),Y (esD es),a4,a5,a6] S=Y (.bl 4.0,S):=λS a4 a5 a6=>by
   simp![EF,x1,ci,db,fF,gsC (es:=es) (cap:=[L]) (env:=[Y (bh (ws,es)),Y dd.d,Y (dm ws),Y (esD es),a4,a5,a6]) rfl (by simp only at hl;omega),JZ]
  have up:zr 1.1 [.dct ((oX (ws[bx dd]) 4.0).map (·.1)) ((oX (ws[bx dd]) 4.0).map (·.2))] (S++[.dct ((oY (ws[bx dd]) 4.0).map (·.1)) ((oY (ws[bx dd]) 4.0).map (·.2))])=Y (.non,S++[.dct ((dE (oY (ws[bx dd]) 4.0) (oX (ws[bx dd]) 4.0)).map (·.1)) ((dE (oY (ws[bx dd]) 4.0) (oX (ws[bx dd]) 4.0)).map (·.2))]):=by
   rw[Wm lH (by show 3+3<=1000;decide),Mi]
  have md:∀ f ms env (c:List cj) (d:List D),yU f ms env (.ref S.length,S++[.dct c d])=(ms env (S++[.dct c d])).bind (fY f 1.1):=λf ms env c d=>Ro lH
  have fin:aD (S++[.dct ((dE (oY (ws[bx dd]) 4.0) (oX (ws[bx dd]) 4.0)).map (·.1)) ((dE (oY (ws[bx dd]) 4.0) (oX (ws[bx dd]) 4.0)).map (·.2))]) 1.1 1.47=Y (.bl (iD (ws,es) dd)):=by
   rw[qb2 lH DV];exact qbH rfl hw ht
  refine⟨[.dct ((dE (oY (ws[bx dd]) 4.0) (oX (ws[bx dd]) 4.0)).map (·.1)) ((dE (oY (ws[bx dd]) 4.0) (oX (ws[bx dd]) 4.0)).map (·.2))],?_⟩;simp![DU,g2,bH,cU,bY,wy,Dd.tick_ne,hf,x1,xw,st,Xo,qN,yJ,md,Xn,gn,up,qQ,x0,fin]
theorem mk_d{e:En}:(qa (aI (aB cJ 5.4 (!"read"))) 5.7 '0') [Y e.d] S=Y ((if e.wr then e else { e with m:=1 }:En).d,S):=by
 have c1:eZ e.d L (Y 2,S)=Y (.tup [.int 1.24,.str 6.5],S):=rfl;have c2:eZ e.d (Y 3) (L,S)=Y (.tup [bW e.t],S):=rfl;have a1:∀ x y z,aH S 1.50 (.tup [z])=Y 1.46:=λx y z=>cY 0.4;have a2:∀ x y z w,aH S 1.46 (.tup [w])=Y 2.10:=λx y z w=>cY 0.4;have wr:(bI e.wr==("read":Str)) = !e.wr:=xb e.wr;simp![ph,En.ix1,dC,wr];cases h:e.wr with
 | true=>simp
 | false=>
  simp![aax,BG,cR,fC,da,fB,dP,dQ,c1,wy,a1,c2,a2];unfold En.d;simp[h]
theorem Jk{N:List Str}(hN:N.length=3){w:Wd}(hl:es.length<=60):aT N nO 3 [r.d,w.d,esD es] S=Y (esD (xu r w es),S):=by
 have hst:aX N [r.d,w.d,esD es]=[Y r.d,Y w.d,Y (esD es)]:=by simp[aX,hN]
 rw[bE (show [r.d,w.d,esD es].length=3 from rfl),hst];have w1:(r.w.s==("turns":Str))=decide (r.w=.turns):=Rw.eq r.w .turns;have e1:jx S (.str r.w.s) (.str "turns")=Y (.bl (!decide (r.w=.turns))):=by rw[vp,w1]
 have e2:jx S w.d (.str "writes")=Y (.bl (!decide (w=.writes))):=zu (b:=.writes);have k:=ip (S:=S) (t:=bK) (e:=qa (aI (aB cJ 5.4 (!"read"))) 5.7 '0') (cap:=[L]) (env:=[Y r.d,Y w.d,Y (esD es)]) (rest:=[]) (a:=L) (enc:=En.d) (p:=λq=>true) (f:=λe=>(if e.wr then e else { e with m:=1 }:En).d) (xs:=es) rfl 0.0 (λx q=>eO) (λx q q=>mk_d);rw[abA.mpr (λq q=>rfl)] at k
 have kc:mkC [Y r.d,Y w.d,Y (esD es)] S=Y (.lst (es.map λe=>(if e.wr then e else { e with m:=1 }:En).d),S):=by
  simp only[mkC,ci,db,ai,bJ,bQ,bR,oj,ob,ah,fF,k]
 unfold xu;by_cases h1:r.w=.turns
 ·rw[aal h1] at e1;by_cases h2:w=.writes
  ·rw[aas ⟨h1,h2⟩];rw[aal h2] at e2;simp![nO,dY,Rl.ix0,e1,aau,fX,e2,bT,kc,bU,ii];unfold esD;rw[abh];rfl
  ·rw[if_neg (λz=>h2 z.2)];rw[aap h2] at e2;simp![nO,dY,Rl.ix0,e1,aau,aax,fX,e2]
 ·rw[if_neg (λz=>h1 z.1)];rw[aap h1] at e1;simp![nO,dY,Rl.ix0,e1,aax,ls]
end
def dj(l:List Ev):D:=.tup 1.81
def bi(r:Rl)(R:Rm):Rm×List Ev:=vJ r (2*R.1.length) R
def nA(wr:Bool)(g:Nat)(t:Option Int):En:=⟨g,wr,0,if t=Y 0 then Y 1 else t⟩
def wY(r:Rl)(R:Rm)(wr:Bool)(g:Nat)(t:Option Int):Rm×List Ev:=
 let a:=bi r (R.1,R.2++[nA wr g t])
 if aW a.1.2 g=false then a
 else if t=Y 0 then((a.1.1,a.1.2.filter λe=>decide (e.g≠g)),a.2++[⟨"no",g⟩])
 else(a.1,a.2++[⟨"waits",g⟩])
def iQ(e:En):En:={ e with t:=e.t.map (· - 1) }
def rH(r:Rl)(R:Rm):Rm×List Ev:=
 let a:=bi r (R.1,(R.2.map iQ).filter λe=>decide (e.t≠Y 0))
 (a.1,(((R.2.map iQ).filter λe=>decide (e.t=Y 0)).map λe=>⟨"ends",e.g⟩)++a.2)
def iP(k:Ak)(g:Nat):List Ev:=match k with
 | .up=>[]
 | .stop=>[⟨"ends",g⟩]
 | .down=>[⟨"down",g⟩]
 | .leave=>[⟨"out",g⟩]
def jj(k:Ak)(w:Wd):Wd:=match k with
 | .up=>.rising
 | .down=>.reads
 | .leave=>.out
 | .stop=>if w=.rising then .reads else .out
def vD(r:Rl)(k:Ak)(w:Wd)(g:Nat)(es:List En):List En:=(if k=.down\/k=.leave then xu r w es else es).filter λe=>decide (e.g≠g)
def pB(r:Rl)(R:Rm)(k:Ak)(g:Nat)(w:Wd):Rm×List Ev:=
 let a:=bi r (R.1.set g (jj k w),vD r k w g R.2)
 (a.1,iP k g++a.2++(if a.1.1[g]?=Y .rising then [⟨"waits",g⟩] else []))
def dh(r:Rl)(R:Rm)(dd:Dd):Option (Rm×List Ev):=
 if iD R dd=false then L else match dd with
 | .tick=>Y (rH r R)
 | .ask wr g t=>Y (wY r R wr g t)
 | .act k g=>if k=.up/\(r.c=0\/Wd.rising∈R.1) then Y (R,[⟨"no",g⟩]) else match R.1[g]? with
  | some w=>Y (pB r R k g w)
  | none=>L
theorem jk(h:aW es g=false){e:En}(he:e∈es):e.g≠g:=λz=>by
 have:aW es g=true:=aaS.mpr ⟨e,he,by simp[z]⟩;rw[h] at this;cases this
theorem ROk.filter{ws:List Wd}{es:List En}(h:ROk (ws,es))(p:En->Bool):ROk (ws,es.filter p):=
 ⟨λe he=>h.out e (aaY.mp he).1,List.Sublist.nodup (List.Sublist.map _ (List.filter_sublist)) h.nd⟩
theorem ROk.mapE{ws:List Wd}{es:List En}(h:ROk (ws,es))(f:En->En)(hf:∀ e,(f e).g=e.g):ROk (ws,es.map f):=
 ⟨λe he=>by obtain⟨x,hx,rfl⟩:=aaE.mp he;rw[hf];exact h.out x hx,by
  show((es.map f).map (·.g)).Nodup
  rw[abh,show((·.g) ∘ f)=(λe:En=>e.g) from funext hf];exact h.nd⟩
theorem ROk.setW{ws:List Wd}{es:List En}(h:ROk (ws,es))(g:Nat)(w:Wd)(hg:∀ e∈es,e.g≠g):ROk (ws.set g w,es):=
 ⟨λe he=>by show(ws.set g w)[e.g]?=_;rw[aaC (Ne.symm (hg e he))];exact h.out e he,h.nd⟩
theorem fq(h:ROk R):ROk (bi r R).1/\(bi r R).1.1.length=R.1.length:=PH _ h
theorem xI{g:Nat}(h:ROk R)(hw:R.1[g]?=Y .out)(hs:aW R.2 g=false):ROk (R.1,R.2++[nA wr g t]):=
 ⟨λe he=>by
  rcases aar.mp he with he | he
  ·exact h.out e he
  ·rw[aav.mp he];exact hw,by
  show((R.2++[nA wr g t]).map (·.g)).Nodup;rw[aaO,abZ];refine⟨h.nd,by simp,λa ha b hb=>?_⟩;obtain⟨e,he,rfl⟩:=aaE.mp ha;simp[nA] at hb
  rw[hb];exact jk hs he⟩
theorem ZX{ws:List Wd}{es:List En}(h:ROk (ws,es)):ROk (ws,xu r w es):=by
 unfold xu;split
 ·exact h.mapE _ λe=>by split<;>rfl
 ·exact h
theorem xJ{k:Ak}{ws:List Wd}{es:List En}(h:ROk (ws,es))(w':Wd):ROk (ws.set g w',vD r k w g es):=by
 unfold vD;refine ROk.setW (ROk.filter ?_ _) g w' λe he=>aaU (aaY.mp he).2;split
 ·exact ZX h
 ·exact h
theorem fL(h:ROk R)(hx:dh r R dd=Y x):ROk x.1/\x.1.1.length=R.1.length:=by
 unfold dh at hx;split at hx
 ·cases hx
 ·rename_i hc;have hc:iD R dd=true:=by simpa using hc
  cases dd with
  | tick=>
   cases hx;obtain⟨a,b⟩:=fq (r:=r) (R:=(R.1,(R.2.map iQ).filter λe=>decide (e.t≠Y 0))) (ROk.filter (ROk.mapE h iQ λe=>rfl) _);exact⟨a,b⟩
  | ask wr g t=>
   cases hx;simp only[iD,aad,aaV,Bool.not_eq_true'] at hc;obtain⟨a,b⟩:=fq (r:=r) (xI (wr:=wr) (t:=t) h hc.1 hc.2);unfold wY;dsimp only;split
   ·exact⟨a,b⟩
   ·split
    ·exact⟨ROk.filter a _,b⟩
    ·exact⟨a,b⟩
  | act k g=>
   dsimp only at hx;split at hx
   ·cases hx;exact⟨h,rfl⟩
   ·split at hx
    ·rename_i w hw;cases hx;obtain⟨a,b⟩:=fq (r:=r) (xJ (r:=r) (k:=k) (w:=w) (g:=g) h (jj k w));exact⟨a,b.trans 0.4⟩
    ·cases hx
def qbQ:ME:=bZ (di 4.7) '`' bK 1.0 [L]
def KE:ME:=bZ (di 4.7) '`' (aI (aB jx 1.0 '1')) '0' [L,Y 4]
def yN(settled:PF):MS:=
 aM (aV '2' (bo 3 3.4)) (aM (aV (bb (aa '4' (aa '3' (aa 0e0 (aa (qa 1.21 1e0 '5') ak))))) 'f') (aM (aV (au 2 settled (aa '0' (aa (bb (aa 4.1 (aa (aB aH 4.7 (bb 1.03)) ak))) ak))) 1.69) (aM (cr (aI (aB vn '4' qbQ)) (bu (bb (aa '1' (aa (bG 3.2 (aa '7' ak)) ak)))) bq) (aM (cr 1.21 (bu (bb (aa (bb (aa 4.1 (aa (bG 3.2 (aa KE ak)) ak))) (aa (bG 3.2 (aa (aB aH '7' (eu (aa (bb (aa (!"no") 5.0)) ak))) ak)) ak)))) bq) (bu (bb (aa '1' (aa (bG 3.2 (aa (aB aH '7' (eu (aa (bb (aa (!"waits") 5.0)) ak))) ak)) ak))))))))
def Ew:ME:=bZ (di '4') '`' bK (aB aH 2.37 (bb (aa (qa (aI (aB AM 3.6 1.9)) 1.9 (aB pz 3.6 1e0)) ak))) [L]
def Ks:ME:=bZ (di '5') '`' (aI (aB cJ 3.6 0e0)) (bb (aa (!"ends") (aa 1.0 ak))) [L]
def Kq:ME:=bZ (di '5') '`' (aI (aB jx 3.6 0e0)) '0' [L]
def zC(settled:PF):MS:=aM (aV Ew 'e') (aM (aV Ks 'f') (aM (aV (au 2 settled (aa '0' (aa (bb (aa '3' (aa (bG 3.2 (aa Kq ak)) ak))) ak))) 1.69) (bu (bb (aa '1' (aa (bG 3.2 (aa (aB aH '6' '7') ak)) ak))))))
def Eu:ME:=aB dg (eu (aa (bb (aa (qa (aI (aB cJ '8' (!"stop"))) (!"ends") (qa (aI (aB cJ '8' (!"down"))) (!"down") (!"out"))) (aa '9' ak))) ak)) (bG (aS oh) (aa (aB jx '8' (!"up")) ak))
def Et:ME:=aB aD (ik [(mC (.str "up"),mC (.str "rising")),(mC (.str "down"),mC (.str "reads")),(mC (.str "leave"),mC (.str "out")),(mC (.str "stop"),aB aD (eu (aa (!"out") (aa (!"reads") ak))) (bG (aS oh) (aa (aB cJ ':' (!"rising")) ak)))]) '8'
def Ko:ME:=aB dg (eu (aa (bb (aa (!"waits") (aa '9' ak))) ak)) (bG (aS oh) (aa (aB cJ (aB aD 4.1 '9') (!"rising")) ak))
def Kr:ME:=bZ (di '4') '`' (aI (aB jx 1.0 '1')) '0' [L,Y 9]
def Ta(settled marked put:PF):MS:=aM (aV (aB aD '3' '9') 'j') (aM (aV Eu 'k') (aM (cr (aI (aB nv '8' (bb (aa (!"down") (aa (!"leave") ak))))) (aV (au 3 marked (aa '0' (aa ':' 5.0))) 'd') bq) (aM (aV (bG 3.2 (aa Kr ak)) 'd') (aM (aV Et 'l') (aM (aV (au 2 settled (aa '0' (aa (bb (aa (au 3 put (aa '3' (aa '9' (aa '<' ak)))) 5.0)) ak))) 1.69) (aM (aV Ko 'm') (bu (bb (aa '1' (aa (bG 3.2 (aa (aB aH (aB aH ';' '7') '=') ak)) ak))))))))))
def mT(can asked settled marked put:PF):MS:=
 aM (cr (cS (dA (au 2 can (aa '1' 4.2)))) (bu 1.9) bq) (aM (aV '1' (bo 2 1.3)) (aM (cr (aI (aB cJ 1.70 (!"tick"))) (zC settled) bq) (aM (aV (bw '2' bD (bS 2e0)) (bo 2 (ag 'h' (ag 'i' aZ)))) (aM (cr (aI (aB nv '8' (bb (aa (!"read") (aa (!"write") ak))))) (bu (au 3 asked (aa '0' (aa '1' 4.2)))) bq) (aM (cr (eg (aI (aB cJ '8' (!"up"))) (fI (aI (aB cJ 3.6 0e0)) (aI (aB nv (!"rising") '3')))) (bu (bb (aa '1' (aa (bb (aa (bb (aa (!"no") (aa '9' ak))) ak)) ak)))) bq) (Ta settled marked put))))))
def rm(settled:PF):Prop:=∀ (S:ac) (r:Rl) (R:Rm),ROk R->R.1.length<=50->settled [r.d,bh R] S=Y (.tup [bh (bi r R).1,.ref S.length],S++[.lst ((bi r R).2.map Ev.d)])
theorem qI:∀ (n:Nat) {R:Rm},(vJ r n R).2.length<=n
 | 0,R=>aao _
 | n+1,R=>by
  have h1:=KU (r:=r) (R:=R);have h2:=qI (r:=r) n (R:=(mO r R).1);show((mO r R).2++(vJ r n (mO r R).1).2).length<=_;rw[aaj];omega
section
variable{S:ac}{ws:List Wd}{es:List En}{r:Rl}{R:Rm}
theorem my:cJ S (bW t) (.int 0)=Y (.bl (decide (t=Y 0))):=by
 cases t with
 | none=>exact nw rfl rfl
 | some k=>
  show cJ S (.int k) (.int 0)=_;rw[lu];congr 2;rw[aaH];simp
theorem Hv:jx S (bW t) (.int 0)=Y (.bl (!decide (t=Y 0))):=by
 cases t with
 | none=>exact sG rfl rfl
 | some k=>
  show jx S (.int k) (.int 0)=_;rw[zw];congr 3;rw[aaH];simp
theorem PP{g:Nat}{b:Option D}(hc:lG cap env=[b,Y 0.2])(hl:es.length<=100):jp '`' (aI (aB jx 1.0 '1')) '0' cap env 2.19=Y (.lst ((es.filter λe=>decide (e.g≠g)).map En.d),S):=by
 exact ip (S:=S) (t:=aI (aB jx 1.0 '1')) (e:=af 0) (cap:=cap) (env:=env) (rest:=[Y 0.2]) (a:=b) (enc:=En.d) (p:=λe=>decide (e.g≠g)) (f:=En.d) (xs:=es) hc 0.0 (λx z=>by
  have:(!(1.05==(g:Int)))=decide (x.g≠g):=by rw[aaH];simp;omega
  simp[En.ix0,-beq_iff_eq,this]) (λx z z=>by simp)
theorem Sg{S:ac}{l:List Ev}:aS 5.3 [.ref S.length] (S++[.lst 1.81])=Y (dj l,S++[.lst 1.81]):=NP lH
theorem qb9{S:ac}{l:List Ev}{v:Ev}(h:l.length<=500):aH (S++[.lst 1.81]) 1.1 (.lst [v.d])=Y (.lst ((l++[v]).map Ev.d)):=by
 rw[LP (xs:=l.map Ev.d) (ys:=[v.d]) rfl (by simp only[vS,lH]) rfl 0.9];simp
theorem LQ{S:ac}{k l:List Ev}(h:l.length<=500)(h':k.length<=400):aH (S++[.lst 1.81]) (.lst (k.map Ev.d)) 1.1=Y (.lst ((k++l).map Ev.d)):=by
 rw[LP (xs:=k.map Ev.d) (ys:=l.map Ev.d) rfl rfl (by simp only[vS,lH]) 0.9];simp
theorem NR{g:Nat}:vn S 0.2 (.lst (es.map λe=>.int 2.8))=Y (.bl (!aW es g)):=by
 have h:=JZ (S:=S) (es:=es) (g:=g);have ok:(es.map λe=>D.int 2.8).all (cK 39)=true:=by rw[aan];intro d hd;obtain⟨e,z,rfl⟩:=aaE.mp hd;rfl
 rw[jy (ys:=es.map λe=>D.int 2.8) rfl rfl ok] at h;rw[NQ (ys:=es.map λe=>D.int 2.8) rfl rfl ok];simp only[abw,D.bl.injEq] at h;rw[h]
theorem OI(O:rm settled){N:List Str}(hN:N.length=8){g:Nat}(h:ROk R)(hl:R.1.length<=50)(hw:R.1[g]?=Y .out)(hs:aW R.2 g=false) :
  ∃ T,aT N (yN settled) 3 [r.d,bh R,(Dd.ask wr g t).d] S=Y (.tup [bh (wY r R wr g t).1,dj (wY r R wr g t).2],S++T):=by
 have hst:aX N [r.d,bh R,(Dd.ask wr g t).d]=[Y r.d,Y (bh R),Y (Dd.ask wr g t).d,L,L,L,L,L]:=by simp[aX,hN,aeI]
 rw[bE (show [r.d,bh R,(Dd.ask wr g t).d].length=3 from rfl),hst];have hA:=xI (wr:=wr) (t:=t) h hw hs;have hO:=O S r (R.1,R.2++[nA wr g t]) hA hl;obtain⟨q1,q2⟩:=fq (r:=r) hA;have qf:(bi r (R.1,R.2++[nA wr g t])).2.length<=100:=aaF (qI _) (by show 2*R.1.length<=100;omega);have ql:(bi r (R.1,R.2++[nA wr g t])).1.2.length<=50:=aaF q1.len (by rw[q2];exact hl);unfold wY;generalize hE:bi r (R.1,R.2++[nA wr g t])=A at *;obtain⟨R',evs⟩:=A;dsimp only at *;have g3:∀ env S,bo 3 3.4 (Dd.ask wr g t).d env S=3.4 [.str (bI wr),.int (g:Int),bW t] env S:=λenv S=>qT
 have kif:∀ env:bf,kIf 1e0 '5' [Y r.d,Y (bh R),Y (Dd.ask wr g t).d,Y 7.4,Y 0.2,Y (bW t),L,L] (decide (t=Y 0),S)=Y (bW (if t=Y 0 then Y 1 else t),S):=λenv=>by
  by_cases ht:t=Y 0
  ·simp[ht];rfl
  ·simp[ht]
 have ad:∀ S,aH S 4.6 (.tup [.tup [.int (g:Int),.str (bI wr),.int 0,bW (if t=Y 0 then Y 1 else t)]])=Y (esD (R.2++[nA wr g t])):=λS=>by
  have:=h.len;rw[show esD R.2=.tup (R.2.map En.d) from rfl,cY 0.9];unfold esD;rw[aaO];rfl
 have hO':settled [r.d,.tup [dm R.1,esD (R.2++[nA wr g t])]] S=Y (.tup [bh R',.ref S.length],S++[.lst 3.8]):=hO
 have gs:∀ (T:ac) (a6:Option D),qbQ [Y r.d,Y (bh R'),Y (Dd.ask wr g t).d,Y 7.4,Y 0.2,Y (bW t),a6,Y 1.1] T=Y (.lst (R'.2.map λe=>.int 2.8),T):=λT a6=>by
  simp![qbQ,ci,db,Rm.ix1,fF,gsC (es:=R'.2) (cap:=[L]) (env:=[Y r.d,Y (bh R'),Y (Dd.ask wr g t).d,Y 7.4,Y 0.2,Y (bW t),a6,Y 1.1]) rfl 0.0]
 have rs:∀ (T:ac) (a6:Option D),KE [Y r.d,Y (bh R'),Y (Dd.ask wr g t).d,Y 7.4,Y 0.2,Y (bW t),a6,Y 1.1] T=Y (.lst ((R'.2.filter λe=>decide (e.g≠g)).map En.d),T):=λT a6=>by
  simp![KE,ci,db,Rm.ix1,fF,PP (es:=R'.2) (g:=g) (cap:=[L,Y 4]) (env:=[Y r.d,Y (bh R'),Y (Dd.ask wr g t).d,Y 7.4,Y 0.2,Y (bW t),a6,Y 1.1]) rfl 0.0]
 have no:∀ w:Str,aH (S++[.lst 3.8]) 1.1 (.lst [.tup [.str w,.int (g:Int)]])=Y (.lst ((evs++[Ev.mk w g]).map Ev.d)):=λw=>qb9 (v:=⟨w,g⟩) 0.0;refine⟨[.lst 3.8],?_⟩;simp![yN,g3,bH,cU,bY,ph,my,kif [],Lx,Rm.ix0,Rm.ix1,wy,ad,ga,hO',cL,gs,NR];cases hb:aW R'.2 g with
 | false=>simp![aax,bT,bU,Sg,ga,aas]
 | true=>
  simp only[aau,bO,bz,ob,aE,reduceCtorEq,if_neg,not_false_eq_true];by_cases ht:t=Y 0
  ·have fe:∀ S,cJ S (bW t) (.int 0)=Y 4.3:=λS=>by rw[my,aal ht]
   simp![aas ht,fe,Rm.ix0,bT,rs,bU,ii,ga,jo,KT,no];rfl
  ·have fe:∀ S,cJ S (bW t) (.int 0)=Y 1.6:=λS=>by rw[my,aap ht]
   simp![if_neg ht,fe,bT,bU,ii,ga,jo,KT,no];rfl
end
structure qbZ(can asked settled marked put:PF):Prop where
 c:∀ (S:ac) (R:Rm) (dd:Dd),R.2.length<=60->dd.Ok R.1.length->∃ T,can [bh R,dd.d] S=Y (.bl (iD R dd),S++T)
 a:∀ (S:ac) (r:Rl) (R:Rm) (wr:Bool) (g:Nat) (t:Option Int),ROk R->R.1.length<=50->R.1[g]?=Y .out->aW R.2 g=false->∃ T,asked [r.d,bh R,(Dd.ask wr g t).d] S=Y (.tup [bh (wY r R wr g t).1,dj (wY r R wr g t).2],S++T)
 s:rm settled
 m:∀ (S:ac) (r:Rl) (w:Wd) (es:List En),es.length<=60->marked [r.d,w.d,esD es] S=Y (esD (xu r w es),S)
 p:∀ (S:ac) (ws:List Wd) (i:Nat) (w:Wd),i<ws.length->ws.length<=100->put [dm ws,.int (i:Int),w.d] S=Y 1.67
section
variable{S:ac}{ws:List Wd}{es:List En}{r:Rl}{R:Rm}
theorem qbo{e:En}:(aB aH 2.37 (bb (aa (qa (aI (aB AM 3.6 1.9)) 1.9 (aB pz 3.6 1e0)) ak))) [Y e.d] S=Y ((iQ e).d,S):=by
 have c1:eZ e.d L (Y 3,S)=Y (.tup [.int 1.24,.str 6.5,.int e.m],S):=rfl;have a2:∀ x y z w,aH S 1.46 (.tup [w])=Y 2.10:=λx y z w=>cY 0.4;have cu:∀ a b c d:D,iC [a,b,c,d] L (Y 3)=[a,b,c]:=λq q q q=>rfl;obtain⟨g,wr,m,t⟩:=e;cases t with
 | none=>simp[at4,cu,bW,tZ,wy,a2,iQ,En.d]
 | some k=>simp[at4,cu,bW,tZ,wy,a2,iQ,En.d]
theorem Oh(O:rm settled){a2 a5 a6 a7 a8 a9 b0 b1 b2 b3:Option D}(h:ROk R)(hl:R.1.length<=50) :
  ∃ T,(zC settled [Y r.d,Y (bh R),a2,Y (dm R.1),Y 4.6,a5,a6,a7,a8,a9,b0,b1,b2,b3] S).bind MZ=Y (.tup [bh (rH r R).1,dj (rH r R).2],S++T)/\zC settled [Y r.d,Y (bh R),a2,Y (dm R.1),Y 4.6,a5,a6,a7,a8,a9,b0,b1,b2,b3] S=Y (.rt (.tup [bh (rH r R).1,dj (rH r R).2]) (S++T)):=by
 have hle:=h.len
 have f1:Ew [Y r.d,Y (bh R),a2,Y (dm R.1),Y 4.6,a5,a6,a7,a8,a9,b0,b1,b2,b3] S=Y (.lst ((R.2.map iQ).map En.d),S):=by
  have k:=ip (S:=S) (t:=bK) (e:=aB aH 2.37 (bb (aa (qa (aI (aB AM 3.6 1.9)) 1.9 (aB pz 3.6 1e0)) ak))) (cap:=[L]) (env:=[Y r.d,Y (bh R),a2,Y (dm R.1),Y 4.6,a5,a6,a7,a8,a9,b0,b1,b2,b3]) (rest:=[]) (a:=L) (enc:=En.d) (p:=λz=>true) (f:=λe=>(iQ e).d) (xs:=R.2) rfl 0.0 (λx z=>eO) (λx z z=>qbo);rw[abA.mpr (λz z=>rfl)] at k;simp only[Ew,ci,db,ai,bJ,bQ,bR,oj,ob,ah,fF,k,abh];rfl
 generalize hF:R.2.map iQ=fs at f1;have hfl:fs.length<=50:=by rw[<- hF,aai];omega
 have f2:Ks [Y r.d,Y (bh R),a2,Y (dm R.1),Y 4.6,Y 1.57,a6,a7,a8,a9,b0,b1,b2,b3] S=Y (.lst (((fs.filter λe=>decide (e.t=Y 0)).map λe=>Ev.mk "ends" e.g).map Ev.d),S):=by
  have k:=ip (S:=S) (t:=aI (aB cJ 3.6 0e0)) (e:=bb (aa (!"ends") (aa 1.0 ak))) (cap:=[L]) (env:=[Y r.d,Y (bh R),a2,Y (dm R.1),Y 4.6,Y 1.57,a6,a7,a8,a9,b0,b1,b2,b3]) (rest:=[]) (a:=L) (enc:=En.d) (p:=λe=>decide (e.t=Y 0)) (f:=λe=>(Ev.mk "ends" e.g).d) (xs:=fs) rfl 0.0 (λx z=>by simp[En.ix3,my]) (λx z z=>by simp[En.ix0,ga,Ev.d]);simp only[Ks,ci,db,ai,bJ,bQ,bR,oj,ob,ah,sB,k,abh];rfl
 have f3:∀ a6,Kq [Y r.d,Y (bh R),a2,Y (dm R.1),Y 4.6,Y 1.57,a6,a7,a8,a9,b0,b1,b2,b3] S=Y (.lst ((fs.filter λe=>decide (e.t≠Y 0)).map En.d),S):=λa6=>by
  have k:=ip (S:=S) (t:=aI (aB jx 3.6 0e0)) (e:=af 0) (cap:=[L]) (env:=[Y r.d,Y (bh R),a2,Y (dm R.1),Y 4.6,Y 1.57,a6,a7,a8,a9,b0,b1,b2,b3]) (rest:=[]) (a:=L) (enc:=En.d) (p:=λe=>decide (e.t≠Y 0)) (f:=En.d) (xs:=fs) rfl 0.0 (λx z=>by simp[En.ix3,Hv]) (λx z z=>by simp);simp only[Kq,ci,db,ai,bJ,bQ,bR,oj,ob,ah,sB,k]
 have hA:ROk (R.1,fs.filter λe=>decide (e.t≠Y 0)):=by rw[<- hF];exact ROk.filter (ROk.mapE h iQ λe=>rfl) _
 have hO:=O S r (R.1,fs.filter λe=>decide (e.t≠Y 0)) hA hl;have qf:(bi r (R.1,fs.filter λe=>decide (e.t≠Y 0))).2.length<=100:=aaF (qI _) (by show 2*R.1.length<=100;omega);unfold rH;rw[hF];generalize hE:bi r (R.1,fs.filter λe=>decide (e.t≠Y 0))=A at *;obtain⟨R',evs⟩:=A;dsimp only at *;have hO':settled [r.d,.tup [dm R.1,.tup ((fs.filter λe=>decide (e.t≠Y 0)).map En.d)]] S=Y (.tup [bh R',.ref S.length],S++[.lst 3.8]):=hO;have ad:=LQ (S:=S) (k:=(fs.filter λe=>decide (e.t=Y 0)).map λe=>Ev.mk "ends" e.g) (l:=evs) 0.0 (by rw[aai];exact aaF (abu _ _) 0.0)
 have key:zC settled [Y r.d,Y (bh R),a2,Y (dm R.1),Y 4.6,a5,a6,a7,a8,a9,b0,b1,b2,b3] S=Y (.rt (.tup [bh R',dj (((fs.filter λe=>decide (e.t=Y 0)).map λe=>Ev.mk "ends" e.g)++evs)]) (S++[.lst 3.8])):=by
  simp![zC,f1,f2,bT,f3,bU,ii,ga,hO',cL,bH,cU,bY,ad];rfl
 exact⟨[.lst 3.8],by rw[key,ob,az],key⟩
theorem LL{xs:List D}{k:Int}(h0:0<=k)(h1:k<=100000)(h:xs.length*k.toNat<=1000):dg S 2.2 (.int k)=Y (.lst (aeI k.toNat xs).flatten):=aas ⟨by omega,by omega,sz h⟩
theorem RW{x:D}{b:Bool}:dg S (.lst [x]) (.int (if b=true then 1 else 0))=Y (.lst (if b=true then [x] else [])):=by
 cases b
 ·exact LL 0.1 0.1 0.4
 ·exact LL 0.1 0.1 0.4
theorem akS(k j:Ak):(k.s==j.s)=decide (k=j):=by cases k<;>cases j<;>decide +kernel
theorem Ek{k j:Ak}:cJ S 6.2 (.str j.s)=Y (.bl (decide (k=j))):=by rw[dC,akS]
theorem Kt{k:Ak}{g:Nat}{a0 a1 a2 a3 a4 a5 a6 a7 b0 b1 b2 b3:Option D}:Eu [a0,a1,a2,a3,a4,a5,a6,a7,Y 6.2,Y 0.2,b0,b1,b2,b3] S=Y (.lst ((iP k g).map Ev.d),S):=by
 have e1:cJ S 6.2 (.str "stop")=Y (.bl (decide (k=.stop))):=Ek (j:=.stop);have e2:cJ S 6.2 (.str "down")=Y (.bl (decide (k=.down))):=Ek (j:=.down);have e3:jx S 6.2 (.str "up")=Y (.bl (!decide (k=.up))):=by rw[vp];exact congrArg (λb=>Y (D.bl (!b))) (akS k .up)
 cases k<;>simp![Eu,jo,ph,e1,e2,e3,reduceCtorEq,ach,abT,BG,LC,ga,KT,bT,bU,ut,RW,iP]<;>rfl
theorem Kn{k:Ak}{w:Wd}{a0 a1 a2 a3 a4 a5 a6 a7 a9 b1 b2 b3:Option D}:Et [a0,a1,a2,a3,a4,a5,a6,a7,Y 6.2,a9,Y w.d,b1,b2,b3] S=Y ((jj k w).d,S):=by
 have e1:cJ S w.d (.str "rising")=Y (.bl (decide (w=.rising))):=qu (b:=.rising);have ix:aD S (.lst [.str "out",.str "reads"]) (.int (if decide (w=.rising)=true then 1 else 0))=Y (if w=.rising then Wd.reads else Wd.out).d:=by by_cases h:w=.rising<;>simp[h]<;>rfl
 have kd:∀ x,qc ([(.inr "up",.str "rising"),(.inr "down",.str "reads"),(.inr "leave",.str "out"),(.inr "stop",x)],S)=Y (.dct ([((Sum.inr "up":cj),D.str "rising"),(.inr "down",.str "reads"),(.inr "leave",.str "out"),(.inr "stop",x)].map (·.1)) ([((Sum.inr "up":cj),D.str "rising"),(.inr "down",.str "reads"),(.inr "leave",.str "out"),(.inr "stop",x)].map (·.2)),S):=λx=>qb (show [(Sum.inr "up":cj),.inr "down",.inr "leave",.inr "stop"].Nodup by decide +kernel) (by show 4<=15;decide)
 have fx:∀ x,aD S (.dct ([((Sum.inr "up":cj),D.str "rising"),(.inr "down",.str "reads"),(.inr "leave",.str "out"),(.inr "stop",x)].map (·.1)) ([((Sum.inr "up":cj),D.str "rising"),(.inr "down",.str "reads"),(.inr "leave",.str "out"),(.inr "stop",x)].map (·.2))) 6.2=Y (match k with | .up=>.str "rising" | .down=>.str "reads" | .leave=>.str "out" | .stop=>x):=λx=>by
  rw[Yn DV];cases k<;>simp (decide:=true) [Ak.s]
 simp![Et,xz,kH,yT,yS,jo,io,bT,e1,bU,ut,ix,jX,yR,kd,fx];cases k<;>rfl
theorem Oi{g:Nat}{R':Rm}{a0 a2 a3 a4 a5 a6 a7 a8 b0 b1 b2 b3:Option D}(hw:R'.1[g]?=Y w):Ko [a0,Y (bh R'),a2,a3,a4,a5,a6,a7,a8,Y 0.2,b0,b1,b2,b3] S=Y (.lst ((if w=.rising then [Ev.mk "waits" g] else []).map Ev.d),S):=by
 have x1:aD S (dm R'.1) 0.2=Y w.d:=AV hw;have e1:cJ S w.d (.str "rising")=Y (.bl (decide (w=.rising))):=qu (b:=.rising);simp![Ko,jo,ga,KT,bT,Rm.ix0,x1,e1,bU,ut,RW];by_cases h:w=.rising<;>simp[h]<;>rfl
theorem Oj{g:Nat}{a0 a1 a2 a3 a5 a6 a7 a8 b0 b1 b2 b3:Option D}(hl:es.length<=100):Kr [a0,a1,a2,a3,Y (esD es),a5,a6,a7,a8,Y 0.2,b0,b1,b2,b3] S=Y (.lst ((es.filter λe=>decide (e.g≠g)).map En.d),S):=by
 simp only[Kr,ci,db,ai,bJ,bQ,bR,oj,ob,ah,fF,PP (es:=es) (g:=g) (cap:=[L,Y 9]) (env:=[a0,a1,a2,a3,Y (esD es),a5,a6,a7,a8,Y 0.2,b0,b1,b2,b3]) rfl hl]
theorem qb5{k:Ak}:nv S 6.2 (.tup [.str "down",.str "leave"])=Y (.bl (decide (k=.down\/k=.leave))):=by
 have h:([D.str "down",D.str "leave"].any λd=>iK d 6.2)=decide (k=.down\/k=.leave):=by cases k<;>decide +kernel
 rw[jy (ys:=[.str "down",.str "leave"]) rfl rfl rfl,h]
theorem VB:(xu r w es).length=es.length:=by unfold xu;split<;>simp
theorem SZ{put:PF}(O:qbZ can asked settled marked put){k:Ak}{g:Nat}{a2 a5 a6 a7 b0 b1 b2 b3:Option D}(h:ROk R)(hl:R.1.length<=50)(hw:R.1[g]?=Y w) :
  ∃ T,Ta settled marked put [Y r.d,Y (bh R),a2,Y (dm R.1),Y 4.6,a5,a6,a7,Y 6.2,Y 0.2,b0,b1,b2,b3] S=Y (.rt (.tup [bh (pB r R k g w).1,dj (pB r R k g w).2]) (S++T)):=by
 have hle:=h.len;have hg:g<R.1.length:=(aaa.mp hw).1;have x1:∀ S,aD S (dm R.1) 0.2=Y w.d:=λS=>AV hw
 have mk:∀ env S,env=[Y r.d,Y (bh R),a2,Y (dm R.1),Y 4.6,a5,a6,a7,Y 6.2,Y 0.2,Y w.d,Y (.lst ((iP k g).map Ev.d)),b2,b3]->cr (aI (aB nv '8' (bb (aa (!"down") (aa (!"leave") ak))))) (aV (au 3 marked (aa '0' (aa ':' 5.0))) 'd') bq env S=Y (.nx [Y r.d,Y (bh R),a2,Y (dm R.1),Y (esD (if k=.down\/k=.leave then xu r w R.2 else R.2)),a5,a6,a7,Y 6.2,Y 0.2,Y w.d,Y (.lst ((iP k g).map Ev.d)),b2,b3] S):=λenv S he=>by
  subst he;simp only[bp,aO,aF,ai,bJ,bQ,bR,oj,ob,ah,aw,bv,ar,be,aq,ay,ao,ga,av,qb5,aN];by_cases hk:k=.down\/k=.leave
  ·rw[aal hk,aas hk];simp only[bL,bA,aA,ar,ai,bJ,bQ,bR,oj,ob,ah,aq,ay,ao,bV,O.m S r w R.2 0.0,bB,aR,eD,fo,bX]
  ·rw[aap hk,if_neg hk];simp only[bO,bz]
 have hel:(if k=.down\/k=.leave then xu r w R.2 else R.2).length<=100:=by split<;>(try rw[VB])<;>omega
 have hA:=xJ (r:=r) (k:=k) (w:=w) (g:=g) h (jj k w);have hO:=O.s S r (R.1.set g (jj k w),vD r k w g R.2) hA (by simp;exact hl);obtain⟨q1,q2⟩:=fq (r:=r) hA;have qf:(bi r (R.1.set g (jj k w),vD r k w g R.2)).2.length<=100:=aaF (qI _) (by show 2*(R.1.set g (jj k w)).length<=100;rw[acT];omega);have pp:∀ S,put [dm R.1,.int (g:Int),(jj k w).d] S=Y (dm (R.1.set g (jj k w)),S):=λS=>O.p S R.1 g _ hg 0.0;unfold pB;generalize hE:bi r (R.1.set g (jj k w),vD r k w g R.2)=A at *;obtain⟨R',evs⟩:=A;dsimp only at *;have hg':g<R'.1.length:=by rw[q2,acT];exact hg
 have hw':R'.1[g]?=Y R'.1[g]:=aae hg';have hO':settled [r.d,.tup [dm (R.1.set g (jj k w)),.tup (((if k=.down\/k=.leave then xu r w R.2 else R.2).filter λe=>decide (e.g≠g)).map En.d)]] S=Y (.tup [bh R',.ref S.length],S++[.lst 3.8]):=hO;have fl:(iP k g).length<=1:=by cases k<;>simp[iP]
 have ad:=LQ (S:=S) (k:=iP k g) (l:=evs) 0.0 0.0
 have ad2:aH (S++[.lst 3.8]) (.lst ((iP k g++evs).map Ev.d)) (.lst ((if R'.1[g]=.rising then [Ev.mk "waits" g] else []).map Ev.d))=Y (.lst ((iP k g++evs++(if R'.1[g]=.rising then [Ev.mk "waits" g] else [])).map Ev.d)):=by
  rw[ny (by rw[aai,aai,aaj];split<;>simp<;>omega),<- aaO]
 refine⟨[.lst 3.8],?_⟩;rw[hw'];simp only[Ta,aQ,bA,aF,ai,bJ,bQ,bR,oj,ob,ah,aw,av,x1,bB,aR,eD,fo,bX,aE,Kt,mk _ _ rfl,bT,ar,Oj hel,aq,ay,ao,bU,ii,Kn,aA,bv,bV,pp,ga,aU,hO',cL,bH,cU,bY,Oi hw',aJ,ad,ad2,ba,abw];rfl
theorem Bm{S:ac}:nv S (.str "rising") (dm ws)=Y (.bl (decide (Wd.rising∈ws))):=by
 rw[jy (ys:=ws.map Wd.d) rfl rfl Vt]
 congr 2
 rw[abX]
 induction ws with
 | nil=>rfl
 | cons a l ih=>
  rw[abr,ih];show(iK a.d (Wd.rising).d||_)=_;rw[qbe,aaH];simp;constructor
  ·rintro(h | h)
   ·exact .inl h.symm
   ·exact .inr h
  ·rintro(h | h)
   ·exact .inl h.symm
   ·exact .inr h
theorem HH{dd:Dd}(h:dd≠.tick):(dS dd==("tick":Str))=false:=by
 cases dd with
 | tick=>exact absurd rfl h
 | ask wr g t=>show(bI wr==("tick":Str))=false;cases wr<;>decide +kernel
 | act k g=>show(k.s==("tick":Str))=false;cases k<;>decide +kernel
theorem JY{b:Bool}(hb:([D.str "read",D.str "write"].any λd=>iK d (.str x))=b):nv S (.str x) (.tup [.str "read",.str "write"])=Y (.bl b):=by
 rw[jy (ys:=[.str "read",.str "write"]) rfl rfl rfl,hb]
def lB:Option (Rm×List Ev)->D
 | none=>.non
 | some x=>.tup [bh x.1,dj x.2]
theorem SY{put:PF}(O:qbZ can asked settled marked put){N:List Str}(hN:N.length=14){dd:Dd}(h:ROk R)(hl:R.1.length<=50)(hd:dd.Ok R.1.length) :
  ∃ T,aT N (mT can asked settled marked put) 3 [r.d,bh R,dd.d] S=Y (lB (dh r R dd),S++T):=by
 have hst:aX N [r.d,bh R,dd.d]=[Y r.d,Y (bh R),Y dd.d,L,L,L,L,L,L,L,L,L,L,L]:=by simp[aX,hN,aeI]
 rw[bE (show [r.d,bh R,dd.d].length=3 from rfl),hst];have hle:=h.len;obtain⟨T0,hc⟩:=O.c S R dd 0.0 hd;have g2:∀ env S,bo 2 1.3 (bh R) env S=1.3 [dm R.1,esD R.2] env S:=λenv S=>cL;unfold dh;cases hb:iD R dd with
 | false=>
  rw[hb] at hc;refine⟨T0,?_⟩;simp![mT,cx,cw,hc,cC,cy,aax,aas,lB]
 | true=>
  rw[hb] at hc;rw[if_neg 0.1];by_cases ht:dd=.tick
  ·subst ht;have xt:∀ S,aD S (Dd.tick).d (.int 0)=Y (.str "tick"):=λS=>rfl;have et:∀ S,cJ S (.str "tick") (.str "tick")=Y 4.3:=λS=>by rw[dC,beq_self_eq_true]
   obtain⟨T,w,e⟩:=Oh O.s (S:=S++T0) (r:=r) (R:=R) (a2:=Y (Dd.tick).d) (a5:=L) (a6:=L) (a7:=L) (a8:=L) (a9:=L) (b0:=L) (b1:=L) (b2:=L) (b3:=L) h hl;refine⟨T0++T,?_⟩;simp![mT,cx,cw,hc,cC,cy,aau,g2,bH,cU,bY,xt,et,e,aaP,lB]
  ·have et0:=HH ht;cases dd with
   | tick=>exact absurd rfl ht
   | ask wr g t=>
    have x0:∀ S,aD S (Dd.ask wr g t).d (.int 0)=Y 7.4:=λS=>rfl;have et:∀ S,cJ S 7.4 (.str "tick")=Y 1.6:=λS=>by rw[dC];exact congrArg (λb=>Y (D.bl b)) et0
    have sl:∀ S,eZ (Dd.ask wr g t).d L (Y 2,S)=Y (.tup [.str (bI wr),.int (g:Int)],S):=λS=>rfl;simp only[iD,aad,aaV,Bool.not_eq_true'] at hb;obtain⟨T,e⟩:=O.a (S++T0) r R wr g t h hl hb.1 hb.2;have fi:∀ S,nv S 7.4 (.tup [.str "read",.str "write"])=Y 4.3:=λS=>JY (by cases wr<;>decide +kernel);refine⟨T0++T,?_⟩;simp![mT,cx,cw,hc,cC,cy,aau,g2,bH,cU,bY,x0,et,cR,fC,da,fB,dP,dQ,sl,cL,ga,fi,bV,e,aaP,lB]
   | act k g=>
    have x0:∀ S,aD S (Dd.act k g).d (.int 0)=Y 6.2:=λS=>rfl;have et:∀ S,cJ S 6.2 (.str "tick")=Y 1.6:=λS=>by rw[dC];exact congrArg (λb=>Y (D.bl b)) et0
    have sl:∀ S,eZ (Dd.act k g).d L (Y 2,S)=Y (.tup [.str k.s,.int (g:Int)],S):=λS=>rfl;have fi:∀ S,nv S 6.2 (.tup [.str "read",.str "write"])=Y 1.6:=λS=>JY (by cases k<;>decide +kernel);have fu:∀ S,cJ S 6.2 (.str "up")=Y (.bl (decide (k=.up))):=λS=>Ek (j:=.up);have fc:(r.c==0)=decide (r.c=0):=rfl;have hg:g<R.1.length:=hd;have hw:R.1[g]?=Y R.1[g]:=aae hg;have ev1:D.tup [.tup [.str "no",.int (g:Int)]]=dj [⟨"no",g⟩]:=rfl;obtain⟨T,e⟩:=SZ O (S:=S++T0) (r:=r) (R:=R) (k:=k) (g:=g) (a2:=Y (Dd.act k g).d) (a5:=L) (a6:=L) (a7:=L) (b0:=L) (b1:=L) (b2:=L) (b3:=L) h hl hw;by_cases hu:k=.up/\(r.c=0\/Wd.rising∈R.1)
    ·refine⟨T0,?_⟩;dsimp only;rw[aas hu];have hu1:=aal hu.1;by_cases hz:r.c=0
     ·simp![mT,cx,cw,hc,cC,cy,aau,g2,bH,cU,bY,x0,et,cR,fC,da,fB,dP,dQ,sl,cL,ga,fi,qO,fu,hu1,oU,dY,Rl.ix3,lu,fc,aal hz,ls,wy,lB,ev1]
     ·have hr:Wd.rising∈R.1:=hu.2.resolve_left hz;simp![mT,cx,cw,hc,cC,cy,aau,g2,bH,cU,bY,x0,et,cR,fC,da,fB,dP,dQ,sl,cL,ga,fi,qO,fu,hu1,oU,dY,Rl.ix3,lu,fc,aap hz,fX,Bm,aal hr,wy,lB,ev1]
    ·refine⟨T0++T,?_⟩;dsimp only;rw[if_neg hu,hw];dsimp only
     have tst:∀ (T:ac) (a5 a6 a7 b0 b1 b2 b3:Option D),eg (aI (aB cJ '8' (!"up"))) (fI (aI (aB cJ 3.6 0e0)) (aI (aB nv (!"rising") '3'))) [Y r.d,Y (bh R),Y (Dd.act k g).d,Y (dm R.1),Y 4.6,a5,a6,a7,Y 6.2,Y 0.2,b0,b1,b2,b3] T=Y (false,T):=λT a5 a6 a7 b0 b1 b2 b3=>by
      simp![qO,fu];by_cases hk:k=.up
      ·have hz:¬ r.c=0:=λz=>hu ⟨hk,.inl z⟩;have hr:¬ Wd.rising∈R.1:=λz=>hu ⟨hk,.inr z⟩;rw[aal hk];simp![oU,dY,Rl.ix3,lu,fc,aap hz,fX,Bm,aap hr]
      ·rw[aap hk,Ec]
     simp![mT,cx,cw,hc,cC,cy,aau,g2,bH,cU,bY,x0,et,cR,fC,da,fB,dP,dQ,sl,cL,ga,fi,tst,e,aaP,lB]
end
def Grow(r:Nat)(S S':ac):Prop:=S.length<=S'.length/\∀ j,j<S.length->j≠r->S'[j]?=S[j]?
theorem Grow.of(h:Keep r S S'):Grow r S S':=⟨aeg h.2.symm,λj z hj=>h.1 j hj⟩
theorem Grow.app{T:ac}:Grow r S (S++T):=⟨by simp,λj h z=>aay h⟩
theorem Grow.trans(h:Grow r S S')(h':Grow r S' S''):Grow r S S'':=⟨aaF h.1 h'.1,λj hj hr=>(h'.2 j (aaD hj h.1) hr).trans (h.2 j hj hr)⟩
theorem Pk.lt(h:Pk S r):r<S.length:=by
 obtain⟨a,b,d,h,z⟩:=h;exact(aaa.mp h).1
theorem Hr{α:Type}{x:α}:∀ n:Nat,(aeI n [x]).flatten=aeI n x
 | 0=>rfl
 | n+1=>by rw[aaN,abj,Hr n,aaN];rfl
structure RowOk(deed done:PF):Prop where
 de:∀ (S:ac) (r n:Nat),Pk S r->1<=n->n<=5->∃ (dd:Dd) (S':ac),deed [.ref r,.int (n:Int)] S=Y (dd.d,S')/\dd.Ok n/\Pk S' r/\Keep r S S'
 dn:∀ (S:ac) (rl:Rl) (R:Rm) (dd:Dd),ROk R->R.1.length<=50->dd.Ok R.1.length->∃ T,done [rl.d,bh R,dd.d] S=Y (lB (dh rl R dd),S++T)
def cz(n:Nat):Rm:=(aeI n .out,[])
theorem oi:ROk (cz n):=⟨λe h=>by simp[cz] at h,by simp[cz]⟩
inductive Behind(r:Rl)(n:Nat):List Dd->Rm->Prop
 | nil:Behind r n [] (cz n)
 | snoc {l:List Dd} {R:Rm} {d:Dd} {x:Rm×List Ev} (h:Behind r n l R) (hd:d.Ok n) (e:dh r R d=Y x):Behind r n (l++[d]) x.1
theorem Behind.ok(h:Behind r n l R):ROk R/\R.1.length=n:=by
 induction h with
 | nil=>exact⟨oi,by simp[cz]⟩
 | snoc h hd e ih=>obtain⟨a,b⟩:=fL ih.1 e;exact⟨a,b.trans ih.2⟩
section
variable{α:Type}{enc:α->D}{p:Nat->α->Bool}{f:Nat->α->D}{t:MT}{e:ME}{rest:bf}{S:ac}
theorem Tw:∀ (xs:List α) (k:Nat) (a b:Option D),(∀ i x,xs[i]?=Y x->t (Y (.int ((k+i:Nat):Int))::Y (enc x)::rest) S=Y (p (k+i) x,S))->(∀ i x,xs[i]?=Y x->e (Y (.int ((k+i:Nat):Int))::Y (enc x)::rest) S=Y (f (k+i) x,S))->dF (bo 2 (ag '`' 1.31)) t e (fK k 2.13) (a::b::rest) S=Y (((xs.zipIdx k).filter λq=>p q.2 q.1).map λq=>f q.2 q.1,S)
 | []=>λk a b z z=>by simp[fK]
 | x::r=>λk a b h h2=>by
  have ih:=Tw r (k+1) (Y 8.4) (Y (enc x)) (λi y hy=>by
   have:=h (i+1) y (by simpa using hy);rw[show k+(i+1)=k+1+i by omega] at this;exact this) (λi y hy=>by
   have:=h2 (i+1) y (by simpa using hy);rw[show k+(i+1)=k+1+i by omega] at this
   exact this)
  have h0:=h 0 x rfl;have h20:=h2 0 x rfl;rw[aeh] at h0 h20;rw[aah,fK,cT,cL,bH,aR,ob,eD,cU,bH,aR,ob,fo,eD,cU,bY,ob,kh,h0,ob,abK];cases hp:p k x with
  | true=>
   rw[kg,h20,ob,kf,ih,ob,jZ,acN (p:=λq:α×Nat=>p q.2 q.1) (a:=(x,k)) hp,aah]
  | false=>rw[yX,ih,acO (p:=λq:α×Nat=>p q.2 q.1) (a:=(x,k)) (by simp[hp])]
theorem VI{a b:Option D}{xs:List α}(hc:lG cap env=a::b::rest)(hl:xs.length<=1000)(h:∀ (i:Nat) x,xs[i]?=Y x->t (Y 5.6::Y (enc x)::rest) S=Y (p i x,S))(h2:∀ (i:Nat) x,xs[i]?=Y x->e (Y 5.6::Y (enc x)::rest) S=Y (f i x,S)) :
  jp (bo 2 (ag '`' 1.31)) t e cap env (fK 0 2.13,S)=Y (.lst ((xs.zipIdx.filter λq=>p q.2 q.1).map λq=>f q.2 q.1),S):=by
 rw[ej (by rw[qY,aai];exact hl),hc,Tw xs 0 a b (λi x hx=>by rw[acI];exact h i x hx) (λi x hx=>by rw[acI];exact h2 i x hx),ob,eo]
end
def xC(p:Wd->Bool)(ws:List Wd):List Nat:=(ws.zipIdx.filter λq=>p q.1).map (·.2)
theorem mem_zi{α:Type}{xs:List α}{x:α}{i:Nat}:(x,i)∈xs.zipIdx↔xs[i]?=Y x:=by
 rw[List.mem_zipIdx_iff_getElem?]
theorem mem_ixW{ws:List Wd}{i:Nat}:i∈xC p ws↔∃ w,ws[i]?=Y w/\p w=true:=by
 unfold xC;rw[aaE];constructor
 ·rintro⟨⟨w,j⟩,h,rfl⟩;obtain⟨h1,h2⟩:=aaY.mp h;exact⟨w,mem_zi.mp h1,h2⟩
 ·rintro⟨w,h1,h2⟩;exact⟨(w,i),aaY.mpr ⟨mem_zi.mpr h1,h2⟩,rfl⟩
def nt(l:List Nat):D:=.tup 2.28
theorem VX{p:Wd->Bool}{ws:List Wd}:D.lst ((ws.zipIdx.filter λq=>p q.1).map λq=>.int (q.2:Int))=nl (xC p ws):=by
 unfold nl xC ni;rw[abh];rfl
def IP:MS:=bu (bG 3.2 (aa (bZ (gk (aa 1.0 ak)) (bo 2 (ag '`' 1.31)) (aI (aB nv '1' '2')) '0' [L,L,Y 1]) ak))
theorem KM{ws:List Wd}{S:ac}:GS ([dm ws],S)=Y (fK 0 1.38,S):=rfl
theorem qb3{w:Wd}:nv S w.d (dm l)=Y (.bl (decide (w∈l))):=by
 rw[jy (ys:=l.map Wd.d) rfl rfl Vt]
 congr 2
 rw[abX]
 induction l with
 | nil=>rfl
 | cons a l ih=>
  rw[abr,ih];show(iK a.d w.d||_)=_;rw[qbe,aaH];simp;constructor
  ·rintro(h | h)
   ·exact .inl h.symm
   ·exact .inr h
  ·rintro(h | h)
   ·exact .inl h.symm
   ·exact .inr h
theorem qaL{N:List Str}(hN:N.length=2){R:Rm}(hl:R.1.length<=100):aT N IP 2 [bh R,dm l] S=Y (nt (xC (λw=>decide (w∈l)) R.1),S):=by
 have hst:aX N [bh R,dm l]=[Y (bh R),Y (dm l)]:=by simp[aX,hN]
 rw[bE (show [bh R,dm l].length=2 from rfl),hst];have k:=DX (S:=S) (t:=aI (aB nv '1' '2')) (cap:=[L,L,Y 1]) (env:=[Y (bh R),Y (dm l)]) (rest:=[Y (dm l)]) (a:=L) (b:=L) (enc:=Wd.d) (p:=λw=>decide (w∈l)) (xs:=R.1) rfl 0.0 (λi x z=>by simp![qb3]);rw[VX (p:=λw=>decide (w∈l))] at k;have fs:aS 5.3 [nl (xC (λw=>decide (w∈l)) R.1)] S=Y (nt (xC (λw=>decide (w∈l)) R.1),S):=ii;simp![IP,bT,ci,oQ,Rm.ix0,KM,k,bU,fs]
def lz(R:Rm)(g:Nat):D:=if R.1[g]?=Y .rising then .str "up" else match R.2.find? λe=>decide (e.g=g) with
 | some e=>.str 6.5
 | none=>.non
def pD:MS:=cr (aI (aB cJ 1.70 '1')) (bu (aB aD '2' 1e0)) bq
def pK(gw:PF):MS:=aM (cr (aI (aB nv '1' (au 2 gw (aa '0' (aa (bb (aa (!"rising") ak)) ak))))) (bu (!"up")) bq) (aM (gc 5.4 'b' pD) (bu 1.9))
def Uc(gw:PF):Prop:=∀ (S:ac) (R:Rm) (l:List Wd),R.1.length<=100->gw [bh R,dm l] S=Y (nt (xC (λw=>decide (w∈l)) R.1),S)
theorem qb4{g:Nat}:nv S 0.2 (nt l)=Y (.bl (decide (g∈l))):=by
 rw[jy (ys:=l.map ni) rfl rfl (by rw[aan];intro d hd;obtain⟨i,z,rfl⟩:=aaE.mp hd;rfl)]
 congr 2
 rw[abX]
 induction l with
 | nil=>rfl
 | cons a l ih=>
  rw[abr,ih];show(((a:Int)==(g:Int))||_)=_;rw[aaH];simp;constructor
  ·rintro(h | h)
   ·exact .inl 0.0
   ·exact .inr h
  ·rintro(h | h)
   ·exact .inl 0.0
   ·exact .inr h
theorem AY{g:Nat}:∀ (es:List En) (a:Option D),cO 'b' pD 7.3 [Y (bh R),Y 0.2,a] S=(match es.find? λe=>decide (e.g=g) with | some e=>Y (.rt 4.9 S) | none=>Y (.nx [Y (bh R),Y 0.2,match es.getLast? with | some e=>Y e.d | none=>a] S))
 | []=>λa=>by simp
 | e::l=>λa=>by
  have ih:=AY (S:=S) (R:=R) (g:=g) l (Y e.d);have c:(2.8==(g:Int))=decide (e.g=g):=by rw[aaH];simp;omega
  rw[aah,fz,aR,ob,fo,fo,eD,oS];simp![pD,En.ix0,lu,c,abl];cases hd:decide (e.g=g) with
  | true=>simp![En.ix1,tV]
  | false=>
   rw[bO,bz,ob,mU];show cO 'b' pD _ _ _=_;rw[ih];cases hf:l.find? λe=>decide (e.g=g) with
   | some x=>rfl
   | none=>
    dsimp only
    congr 4
    cases l with
    | nil=>rfl
    | cons y l=>rw[List.getLast?_cons_cons];cases hh:(y::l).getLast? with
     | none=>simp at hh
     | some z=>rfl
theorem OZ(O:Uc gw){N:List Str}(hN:N.length=3){R:Rm}{g:Nat}(hl:R.1.length<=100):aT N (pK gw) 2 [bh R,.int (g:Int)] S=Y (lz R g,S):=by
 refine abm (mP (env:=[Y (bh R),Y 0.2,L]) hN rfl rfl) ?_;have o1:gw [bh R,.tup [.str "rising"]] S=Y (nt (xC (λw=>decide (w∈[Wd.rising])) R.1),S):=O S R [.rising] hl;have k1:cI ([.str "rising"],S)=Y (.tup [.str "rising"],S):=aY 0.4
 have mm:decide (g∈xC (λw=>decide (w∈[Wd.rising])) R.1)=decide (R.1[g]?=Y .rising):=by
  rw[decide_eq_decide,mem_ixW];constructor
  ·rintro⟨w,h1,h2⟩;rw[h1];simpa using h2
  ·intro h;exact⟨.rising,h,by simp⟩
 have ek:tW 'b' pD [Y (bh R),Y 0.2,L] (esD R.2,S)=cO 'b' pD (R.2.map En.d) [Y (bh R),Y 0.2,L] S:=rfl;simp![pK,k1,o1,qb4,mm];unfold lz;by_cases h:R.1[g]?=Y .rising
 ·rw[aal h,aas h];simp
 ·rw[aap h,if_neg h];simp![lF,Rm.ix1,ek,AY];cases R.2.find? λe=>decide (e.g=g) with
  | some e=>simp
  | none=>simp
def dq(ws:List Wd)(g:Nat):List Wd:=(ws.zipIdx.filter λq=>!decide (q.1=.out)&&!decide (q.2=g)).map (·.1)
def fG(r:Rl)(R:Rm)(g:Nat):Bool:=
 if R.1[g]?=Y .rising then(dq R.1 g).isEmpty else match R.2.find? λe=>decide (e.g=g) with
 | none=>false
 | some e=>if e.wr then(dq R.1 g).isEmpty else(dq R.1 g).all (λw=>decide (w=.reads))&&(decide (r.a=0)||decide (((dq R.1 g).length:Int)<r.a))
def zH:ME:=bZ (gk (aa 4.1 ak)) (bo 2 (ag '`' 1.31)) (eg (aI (aB jx '1' (!"out"))) (aI (aB jx '0' '2'))) '1' [L,L,Y 2]
def TD:ME:=bZ (di '4') '`' bK (aB cJ '0' (!"reads")) [L]
def je(wait:PF):MS:=
 aM (aV (au 2 wait (aa '1' 4.2)) 'c') (aM (cr (aI (aB AM '3' 1.9)) (bu (mC 1.6)) bq) (aM (aV zH 'd') (aM (cr (aI (aB jx '3' (!"read"))) (bu (jf '4')) bq) (aM (aV 5.4 'e') (bu (eh (bG (aS sH) (aa TD ak)) (wQ (aB cJ '5' 0e0) (aB Uf (bG (aS fJ) 5.0) '5'))))))))
def vE(wait:PF):Prop:=∀ (S:ac) (R:Rm) (g:Nat),R.1.length<=100->wait [bh R,.int (g:Int)] S=Y (lz R g,S)
section
variable{S:ac}{R:Rm}{r:Rl}{g:Nat}
theorem qC{a0 a3 a4 a5:Option D}(hl:R.1.length<=100):zH [a0,Y (bh R),Y 0.2,a3,a4,a5] S=Y (.lst ((dq R.1 g).map Wd.d),S):=by
 have k:=VI (S:=S) (t:=eg (aI (aB jx '1' (!"out"))) (aI (aB jx '0' '2'))) (e:=af 1) (cap:=[L,L,Y 2]) (env:=[a0,Y (bh R),Y 0.2,a3,a4,a5]) (rest:=[Y 0.2]) (a:=L) (b:=L) (enc:=Wd.d) (p:=λi w=>!decide (w=.out)&&!decide (i=g)) (f:=λz w=>w.d) (xs:=R.1) rfl 0.0 (λi w z=>by
  have e1:jx S w.d (.str "out")=Y (.bl (!decide (w=.out))):=zu (b:=.out);have c:((i:Int)==(g:Int))=decide (i=g):=by rw[aaH];simp;omega
  simp![qO,e1];cases hd:decide (w=.out) with
  | true=>simp
  | false=>simp![aax,oU,zw,c,abn]) (λi w z=>by simp)
 simp![zH,ci,oQ,Rm.ix0,KM,k];unfold dq;rw[abh];rfl
theorem zK{α:Type}{p:α->Bool}:∀ l:List α,jz (l.map λx=>D.bl (p x))=Y (l.map p)
 | []=>rfl
 | x::l=>by
  have:=zK (p:=p) l;rw[aah,aah];simp only[jz,this];rfl
theorem TC{l:List Wd}{a0 a1 a2 a3 a5:Option D}(hl:l.length<=100):TD [a0,a1,a2,a3,Y (.lst (l.map Wd.d)),a5] S=Y (.lst (l.map λw=>.bl (decide (w=.reads))),S):=by
 have k:=ip (S:=S) (t:=bK) (e:=aB cJ '0' (!"reads")) (cap:=[L]) (env:=[a0,a1,a2,a3,Y (.lst (l.map Wd.d)),a5]) (rest:=[]) (a:=L) (enc:=Wd.d) (p:=λz=>true) (f:=λw=>.bl (decide (w=.reads))) (xs:=l) rfl 0.0 (λx z=>eO) (λx z z=>by
  have e1:cJ S x.d (.str "reads")=Y (.bl (decide (x=.reads))):=qu (b:=.reads)
  simp only[aF,ai,bJ,oj,ob,ah,aw,be,av,e1])
 rw[abA.mpr (λz z=>rfl)] at k;simp only[TD,ci,db,ai,bJ,bQ,bR,oj,ob,ah,sB,k]
theorem Xr:(dq R.1 g).length<=R.1.length:=by
 unfold dq;rw[aai];exact aaF (abu _ _) 0.4
theorem Ox(O:vE wait){N:List Str}(hN:N.length=6)(hl:R.1.length<=100):aT N (je wait) 3 [r.d,bh R,.int (g:Int)] S=Y (.bl (fG r R g),S):=by
 refine abm (mP (env:=[Y r.d,Y (bh R),Y 0.2,L,L,L]) hN rfl rfl) ?_;have bl:=Xr (R:=R) (g:=g);unfold fG;have e1:=O S R g hl
 have fa:aS sH [.lst ((dq R.1 g).map λw=>.bl (decide (w=.reads)))] S=Y (.bl ((dq R.1 g).all λw=>decide (w=.reads)),S):=by
  rw[zA (zK _)];congr 3;rw[abY];rfl
 have fl:aS fJ [.lst ((dq R.1 g).map Wd.d)] S=Y (.int ((dq R.1 g).length:Nat),S):=by rw[qb1,aai]
 have nb:GP (.lst ((dq R.1 g).map Wd.d),S)=Y (.bl (dq R.1 g).isEmpty,S):=by
  rw[VN];cases dq R.1 g<;>rfl
 unfold lz at e1;by_cases h:R.1[g]?=Y .rising
 ·rw[aas h] at e1 ⊢;have ne:jx S (.str "up") (.str "read")=Y 4.3:=by rw[vp];rfl
  simp![je,e1,pj,tZ,qC hl,ne,Lr,nb]
 ·rw[if_neg h] at e1 ⊢;cases hf:R.2.find? λe=>decide (e.g=g) with
  | none=>
   rw[hf] at e1;simp![je,e1,pj,tZ]
  | some e=>
   rw[hf] at e1;dsimp only at e1 ⊢;have ne:jx S 4.9 (.str "read")=Y (.bl e.wr):=by rw[vp,xb,aek]
   cases hw:e.wr with
   | true=>
    rw[hw] at e1 ne;simp![je,e1,pj,tZ,qC hl,ne,Lr,nb,aas]
   | false=>
    rw[hw] at e1 ne;have e3:(r.a==0)=decide (r.a=0):=rfl;simp![je,e1,pj,tZ,qC hl,ne,ez,bT,TC (show(dq R.1 g).length<=100 by omega),bU,fa,Rl.ix1,aaQ,abP];cases hA:(dq R.1 g).all λw=>decide (w=.reads) with
    | false=>simp
    | true=>
     cases hz:decide (r.a=0) with
     | true=>simp[e3,hz]
     | false=>simp[e3,hz,fl,-beq_iff_eq]
end
def Ei:List (cj×D):=[(.inr "rows",.non),(.inr "readers",.str "read"),(.inr "writers",.str "write"),(.inr "turns",.str "write")]
def Ib:List (cj×D):=[(.inr "read",.str "reads"),(.inr "write",.str "writes")]
def qaW:Rw->D
 | .rows=>.non
 | .readers=>.str "read"
 | _=>.str "write"
def wU(w:Rw)(e:En):Bool:=match w with
 | .rows=>false
 | .readers=>!e.wr
 | _=>e.wr
theorem qaV{S:ac}{w:Rw}(h:w≠.passes):yP Ei (.str w.s,S)=Y (qaW w,S):=by
 cases w<;>first | exact absurd rfl h | simp (decide:=true) [yP,gm,fH,Ei,qaW,Rw.s]
theorem OW{S:ac}:yP Ib (.str (bI b),S)=Y ((if b then Wd.writes else Wd.reads).d,S):=by
 cases b<;>simp (decide:=true) [yP,gm,fH,Ib,bI,Wd.d,Wd.s]
theorem Wu{e:En}:cJ S 4.9 (qaW w)=Y (.bl (wU w e)):=by
 have h1:cJ S 4.9 (.str "read")=Y (.bl (!e.wr)):=by rw[dC,xb]
 have h2:cJ S 4.9 (.str "write")=Y (.bl e.wr):=by rw[dC,sQ]
 cases w with
 | rows=>exact nw rfl rfl
 | readers=>exact h1
 | _=>exact h2
def nB(w:Rw)(e:En):Bool:=decide (w=.turns)&&decide (e.m=1)
def mW(w:Rw)(es:List En):List Nat:=(es.filter (nB w)).map (·.g)++(es.filter (wU w)).map (·.g)++es.map (·.g)
def rA:Option Nat->D
 | none=>.non
 | some g=>.int (g:Int)
def zp:ME:=bZ (di '1') '`' (eg (aI (aB cJ '1' (!"turns"))) (aI (aB cJ 7.5 1e0))) 1.0 [L,Y 0]
def RM:ME:=bZ (di '1') '`' (aI (aB cJ 5.4 (eL Ei '1'))) 1.0 [L,Y 0]
def RO:ME:=bZ (di '1') '`' bK 1.0 [L]
def oK:MS:=aM (aV zp 'b') (aM (aV RM 'c') (aM (aV (aB aH (aB aH '2' '3') RO) 'd') (bu (qa (dA '4') (aB aD '4' 0e0) 1.9))))
section
variable{S:ac}{es:List En}{w:Rw}{r:Rl}{R:Rm}
theorem IZ{l:List En}:D.lst (l.map λe=>.int 2.8)=nl (l.map (·.g)):=by unfold nl;rw[abh];rfl
theorem Ho{a2 a3 a4:Option D}(hl:es.length<=100):zp [Y 1.64,Y (esD es),a2,a3,a4] S=Y (nl ((es.filter (nB w)).map (·.g)),S):=by
 have hw:(w.s==("turns":Str))=decide (w=.turns):=Rw.eq w .turns
 have k:=ip (S:=S) (t:=eg (aI (aB cJ '1' (!"turns"))) (aI (aB cJ 7.5 1e0))) (e:=aB aD '0' 0e0) (cap:=[L,Y 0]) (env:=[Y 1.64,Y (esD es),a2,a3,a4]) (rest:=[Y 1.64]) (a:=L) (enc:=En.d) (p:=nB w) (f:=λe=>.int 2.8) (xs:=es) rfl 0.0 (λx z=>by
  unfold nB;cases h:decide (w=.turns) with
  | true=>simp[En.ix2,-beq_iff_eq,hw,h];rfl
  | false=>simp[-beq_iff_eq,hw,h]) (λx z z=>by simp[En.ix0])
 simp only[zp,ci,db,ai,bJ,bQ,bR,oj,ob,ah,fF,k,IZ]
theorem RK{a2 a3 a4:Option D}(hw:w≠.passes)(hl:es.length<=100):RM [Y 1.64,Y (esD es),a2,a3,a4] S=Y (nl ((es.filter (wU w)).map (·.g)),S):=by
 have k:=ip (S:=S) (t:=aI (aB cJ 5.4 (eL Ei '1'))) (e:=aB aD '0' 0e0) (cap:=[L,Y 0]) (env:=[Y 1.64,Y (esD es),a2,a3,a4]) (rest:=[Y 1.64]) (a:=L) (enc:=En.d) (p:=wU w) (f:=λe=>.int 2.8) (xs:=es) rfl 0.0 (λx z=>by
  simp![En.ix1,yI,qaV hw,Wu]) (λx z z=>by simp[En.ix0])
 simp only[RM,ci,db,ai,bJ,bQ,bR,oj,ob,ah,fF,k,IZ]
theorem RN{a0 a2 a3 a4:Option D}(hl:es.length<=100):RO [a0,Y (esD es),a2,a3,a4] S=Y (nl (es.map (·.g)),S):=by
 have k:=gsC (S:=S) (es:=es) (b:=L) (cap:=[L]) (env:=[a0,Y (esD es),a2,a3,a4]) rfl hl;simp only[RO,ci,db,ai,bJ,bQ,bR,oj,ob,ah,fF,k,IZ]
theorem Qz{a b:List Nat}(h:a.length+b.length<=1000):aH S (nl a) (nl b)=Y (nl (a++b)):=by
 unfold nl;rw[ny 0.9,<- aaO]
theorem Eh{N:List Str}(hN:N.length=5)(hw:w≠.passes)(hl:es.length<=100):aT N oK 2 [.str w.s,esD es] S=Y (rA (mW w es).head?,S):=by
 refine abm (mP (env:=[Y 1.64,Y (esD es),L,L,L]) hN rfl rfl) ?_;have l1:=abu (nB w) es;have l2:=abu (wU w) es;have a1:aH S (nl ((es.filter (nB w)).map (·.g))) (nl ((es.filter (wU w)).map (·.g)))=Y (nl ((es.filter (nB w)).map (·.g)++(es.filter (wU w)).map (·.g))):=Qz 0.9;have a2:aH S (nl ((es.filter (nB w)).map (·.g)++(es.filter (wU w)).map (·.g))) (nl (es.map (·.g)))=Y (nl (mW w es)):=Qz 0.9
 have tr:GN (nl (mW w es),S)=Y (!decide (mW w es=[]),S):=by
  cases mW w es<;>rfl
 simp![oK,Ho hl,RK hw hl,a1,RN hl,a2,ph,cw,tr];cases hf:mW w es with
 | nil=>simp[rA]
 | cons g l=>simp[rA,xr]
def pR(r:Rl)(R:Rm):List En->Option Nat
 | []=>L
 | e::l=>if fG r R e.g then Y e.g else if r.b<=e.m then L else pR r R l
def vN(r:Rl)(R:Rm):Option Nat:=if r.w=.passes then pR r R R.2 else match (mW r.w R.2).head? with
 | none=>L
 | some g=>if fG r R g then Y g else L
def rq(cg:PF):Prop:=(∀ (S:ac) (r:Rl) (R:Rm) (g:Nat),R.1.length<=100->cg [r.d,bh R,.int (g:Int)] S=Y (.bl (fG r R g),S))/\(∀ (S:ac) (r:Rl) (ws:List Wd),ws.length<=100->cg [r.d,bh (ws,[]),.non] S=Y 2.5)
def yn(cg:PF):MS:=aM (cr (dA (au 3 cg (aa '0' (aa '1' 4.2)))) (bu '2') bq) (cr (aI (aB fGe '4' 7.5)) (bu 1.9) bq)
def Nf:MG:=bo 4 (ag 'b' 3.4)
def oJ(cg:PF):MS:=aM (gc 4.7 Nf (yn cg)) (bu 1.9)
theorem Vv{e:En}{a0 a1 a2 a3 a4 a5:Option D}:Nf e.d [a0,a1,a2,a3,a4,a5] S=Y ([a0,a1,Y (.int 2.8),Y 4.9,Y 2.00,Y (bW e.t)],S):=by
 have g4:Nf e.d [a0,a1,a2,a3,a4,a5] S=(ag 'b' 3.4) [.int 1.24,.str 6.5,.int e.m,bW e.t] [a0,a1,a2,a3,a4,a5] S:=mV;rw[g4];simp only[bH,aR,ob,cU,bY,eD,fo]
def npEnd:Option Nat->Option D->Option D->Option D->Option D->Option D->Option D->ac->se->Prop
 | some g,_,_,_,_,_,_,S,o=>o=.rt 0.2 S
 | none,a0,a1,_,_,_,_,S,o=>o=.rt .non S\/∃ b2 b3 b4 b5,o=.nx [a0,a1,b2,b3,b4,b5] S
theorem Bs(O:rq cg)(hl:R.1.length<=100):∀ (es:List En) (a2 a3 a4 a5:Option D),∃ o,cO Nf (yn cg) 7.3 [Y r.d,Y (bh R),a2,a3,a4,a5] S=Y o/\npEnd (pR r R es) (Y r.d) (Y (bh R)) a2 a3 a4 a5 S o
 | []=>λa2 a3 a4 a5=>⟨.nx [Y r.d,Y (bh R),a2,a3,a4,a5] S,by simp,.inr ⟨_,_,_,_,rfl⟩⟩
 | e::l=>λa2 a3 a4 a5=>by
  obtain⟨o,ih,q⟩:=Bs O hl l (Y (.int 2.8)) (Y 4.9) (Y 2.00) (Y (bW e.t));have c1:=O.1 S r R e.g hl;rw[aah,fz,Vv,ob,oS];simp![yn,cw,bV,c1,cC];unfold pR;cases hc:fG r R e.g with
  | true=>exact⟨.rt (.int 2.8) S,by simp,rfl⟩
  | false=>
   rw[if_neg 0.1];by_cases hb:r.b<=e.m
   ·rw[aas hb];refine⟨.rt .non S,?_,.inl rfl⟩;simp[Rl.ix2,hb]
   ·rw[if_neg hb];refine⟨o,?_,?_⟩
    ·have:¬ (e.m≥r.b):=hb;simp[Rl.ix2,this,-ge_iff_le];exact ih
    ·cases hp:pR r R l with
     | none=>rw[hp] at q;exact q
     | some g=>rw[hp] at q;exact q
theorem Do(O:rq cg){N:List Str}(hN:N.length=6)(hl:R.1.length<=100):aT N (oJ cg) 2 [r.d,bh R] S=Y (rA (pR r R R.2),S):=by
 refine abm (mP (env:=[Y r.d,Y (bh R),L,L,L,L]) hN rfl rfl) ?_;obtain⟨o,e,q⟩:=Bs (S:=S) (r:=r) O hl R.2 L L L L;have ek:tW Nf (yn cg) [Y r.d,Y (bh R),L,L,L,L] (esD R.2,S)=cO Nf (yn cg) (R.2.map En.d) [Y r.d,Y (bh R),L,L,L,L] S:=rfl;simp![oJ,lF,Rm.ix1,ek,e];cases hp:pR r R R.2 with
 | none=>
  rw[hp] at q;rcases q with rfl | ⟨b2,b3,b4,b5,rfl⟩<;>simp[rA]
 | some g=>
  rw[hp] at q;have q:o=.rt 0.2 S:=q;subst q;simp[rA]
def si(np fm cg:PF):MS:=aM (cr (aI (aB cJ 1.0 (!"passes"))) (bu (au 2 np (aa '0' 3.5))) bq) (aM (aV (au 2 fm (aa 1.0 (aa 4.7 ak))) 'b') (bu (qa (dA (au 3 cg (aa '0' (aa '1' 4.2)))) '2' 1.9)))
theorem NM(h:(mW w es).head?=L):es=[]:=by
 have:mW w es=[]:=by simpa using h
 unfold mW at this;rw[List.append_eq_nil_iff] at this;simpa using this.2
theorem Jb{np fm:PF}(hp:∀ (S:ac) (r:Rl) (R:Rm),R.1.length<=100->np [r.d,bh R] S=Y (rA (pR r R R.2),S))(hf:∀ (S:ac) (w:Rw) (es:List En),w≠.passes->es.length<=100->fm [.str w.s,esD es] S=Y (rA (mW w es).head?,S))(hc:rq cg)
  {N:List Str} (hN:N.length=3) (hl:R.1.length<=100) (hl2:R.2.length<=100):aT N (si np fm cg) 2 [r.d,bh R] S=Y (rA (vN r R),S):=by
 refine abm (mP (env:=[Y r.d,Y (bh R),L]) hN rfl rfl) ?_;have w3:(r.w.s==("passes":Str))=decide (r.w=.passes):=Rw.eq r.w .passes;unfold vN;simp![si,Rl.ix0,dC,w3];by_cases hw:r.w=.passes
 ·rw[aal hw,aas hw];simp![hp S r R hl]
 ·rw[aap hw,if_neg hw];have f1:=hf S r.w R.2 hw hl2;simp![Rl.ix0,Rm.ix1,f1,ph,cw,bV];cases hh:(mW r.w R.2).head? with
  | none=>
   obtain⟨ws,es⟩:=R;have:es=[]:=NM hh;subst this;have c2:=hc.2 S r ws hl;simp only[rA,c2,ob,cC];simp
  | some g=>
   have c1:=hc.1 S r R g hl;simp only[rA,c1,ob,cC];cases fG r R g<;>simp[rA]
end
section
variable{ws:List Wd}{es:List En}{r:Rl}{R:Rm}{g:Nat}
def OQ(ws:List Wd):List Wd:=ws.filter λw=>!decide (w=.out)
theorem Ia{α:Type}{p:α->Bool}:∀ (xs:List α) (k:Nat),((xs.zipIdx k).filter λq=>p q.1).map (·.1)=xs.filter p
 | []=>λz=>rfl
 | x::l=>λk=>by
  rw[abK,aaR,aaR];have ih:=Ia (p:=p) l (k+1);split
  ·rw[aah,ih]
  ·exact ih
theorem KC(h:ws[g]?=Y .out):dq ws g=OQ ws:=by
 unfold dq OQ;rw[<- Ia ws 0]
 congr 1
 apply acK;intro q hq;have hq':ws[q.2]?=Y q.1:=mem_zi.mp (show(q.1,q.2)∈ws.zipIdx from hq);by_cases hg:q.2=g
 ·rw[hg,h] at hq';have:=aaB hq';simp[<- this]
 ·simp[hg]
theorem besK{p:Wd->Bool}:∀ (ws:List Wd) (k g:Nat) (w:Wd),ws[g]?=Y w->p w=true->((ws.zipIdx k).filter λq=>p q.1&&!decide (q.2=k+g)).length+1=(ws.filter p).length
 | [],k,g,w,h,_=>by simp at h
 | x::l,k,0,w,h,hp=>by
  simp at h;subst h;rw[abK,aaR,aaR,aas hp,aam,<- Ia l (k+1),aai];simp only[hp,aeh,abT,aau,abt,aaQ,abP]
  congr 2
  apply acK;intro q hq;have:k+1<=q.2:=(List.mem_zipIdx hq).1;have hne:q.2≠k:=by omega
  simp[hne]
 | x::l,k,g+1,w,h,hp=>by
  have ih:=besK (p:=p) l (k+1) g w (by simpa using h) hp;have e:k+(g+1)=(k+1)+g:=by omega
  rw[e,abK,aaR,aaR];have hne:¬ (k=k+1+g):=by omega
  cases hx:p x with
  | false=>simp only[hx,abc,aaQ,abP];exact ih
  | true=>simp only[hx,hne,ach,aax,Bool.and_self,acu,aam];omega
theorem Ef:(OQ ws).length+ws.count .out=ws.length:=by
 unfold OQ;have:=List.length_eq_countP_add_countP (λw:Wd=>w==.out) (l:=ws);rw[List.count,this,adv,Nat.add_comm]
 congr 1
 rw[adv]
 congr 1
 apply acK;intro w z;cases w<;>rfl
theorem TY(h:ws[g]?=Y .rising):(dq ws g).isEmpty=decide (ws.count .out+1=ws.length):=by
 have k:=besK (p:=λw=>!decide (w=.out)) ws 0 g .rising h rfl;have l:=Ef (ws:=ws);unfold OQ at l;unfold dq;simp only[acI] at k;rw[aaH,aaV,List.isEmpty_iff,List.map_eq_nil_iff];constructor
 ·intro e;rw[e] at k;simp only[abk] at k;omega
 ·intro e;apply abv;omega
theorem cnt5:∀ ws:List Wd,ws.count .out+ws.count .reads+ws.count .rising+ws.count .writes+ws.count .raised=ws.length
 | []=>rfl
 | w::l=>by
  have:=cnt5 l;cases w<;>simp[acD]<;>omega
theorem NJ:(OQ ws).all (λw=>decide (w=.reads))=decide (ws.count .out+ws.count .reads=ws.length):=by
 have l:=Ef (ws:=ws)
 have c:(OQ ws).countP (λw=>decide (w=.reads))=ws.count .reads:=by
  unfold OQ;rw[List.countP_filter,List.count]
  congr 1
  funext w;cases w<;>rfl
 have d:=List.countP_le_length (p:=λw:Wd=>decide (w=.reads)) (l:=OQ ws);rw[aaH,aaV,aan];have e:=List.countP_eq_length (p:=λw:Wd=>decide (w=.reads)) (l:=OQ ws);constructor
 ·intro h;have:=e.mpr h;omega
 ·intro h;exact e.mp 0.0
theorem Wk(h:ROk R){e:En}(he:e∈R.2):(R.2.find? λx=>decide (x.g=e.g))=Y e:=by
 have hn:=h.nd;generalize R.2=es at hn he
 induction es with
 | nil=>cases he
 | cons x l ih=>
  rw[aah,abH] at hn;rw[abl];rcases aaG.mp he with rfl | he
  ·simp
  ·have:x.g≠e.g:=λz=>hn.1 (by rw[z];exact aaE.mpr ⟨e,he,rfl⟩);simp only[this,ach];exact ih hn.2 he
theorem qa2(h:ROk R){e:En}(he:e∈R.2):fG r R e.g=vg r R.1 e.wr:=by
 have ho:=h.out e he;unfold fG vg;rw[ho,if_neg 0.4,Wk h he,KC ho];have c:=cnt5 R.1;have l:=Ef (ws:=R.1);dsimp only;cases hw:e.wr with
 | true=>
  simp only[acu];by_cases h1:R.1.count .reads+R.1.count .rising+R.1.count .out<R.1.length
  ·rw[aas h1];cases hi:OQ R.1 with
   | nil=>rw[hi] at l;simp at l;omega
   | cons _ _=>rfl
  ·rw[if_neg h1];rw[aaH,List.isEmpty_iff,aaV];constructor
   ·intro hi;rw[hi] at l;simp at l;omega
   ·intro hi;apply abv;omega
 | false=>
  simp only[aaQ,abP,NJ];by_cases h1:R.1.count .reads+R.1.count .rising+R.1.count .out<R.1.length
  ·rw[aas h1,aap 0.0];rfl
  ·rw[if_neg h1];by_cases h2:R.1.count .rising=0
   ·have:(OQ R.1).length=R.1.count .reads+R.1.count .rising:=by omega
    rw[this,aal 0.0,aal h2]
   ·rw[aap 0.0,aap h2];rfl
theorem BI{p:Wd->Bool}:∀ (ws:List Wd) (k:Nat),((ws.zipIdx k).filter λq=>p q.1).map (·.2)=(List.range' k ws.length).filter λi=>match ws[i - k]? with | some w=>p w | none=>false
 | []=>λk=>rfl
 | w::l=>λk=>by
  have ih:=BI (p:=p) l (k+1);rw[abK,aam,List.range'_succ,aaR,aaR]
  have e:(List.range' (k+1) l.length).filter (λi=>match (w::l)[i - k]? with | some w=>p w | none=>false)=(List.range' (k+1) l.length).filter λi=>match l[i - (k+1)]? with | some w=>p w | none=>false:=by
   apply acK;intro i hi;have:k+1<=i:=(List.mem_range'_1.mp hi).1;rw[show i - k=(i - (k+1))+1 by omega,adR]
  simp only[Nat.sub_self,adQ];cases hp:p w with
  | true=>rw[aas rfl,aas rfl,aah,ih,e]
  | false=>rw[if_neg 0.1,if_neg 0.1,ih,e]
theorem zq{α:Type}{p q:α->Bool}:∀ {l:List α},(∀ x∈l,p x=q x)->l.find? p=l.find? q
 | [],_=>rfl
 | x::l,h=>by rw[abl,abl,h x aac,zq λy hy=>h y (aaf _ hy)]
theorem MH:(xC (λw=>decide (w=.rising)) R.1).find? (fG r R)=(qE R.1).head?:=by
 have e:xC (λw=>decide (w=.rising)) R.1=(List.range R.1.length).filter λi=>match R.1[i]? with | some w=>decide (w=.rising) | none=>false:=by
  have k:=BI (p:=λw=>decide (w=.rising)) R.1 0;rw[List.range_eq_range'];exact k
 rw[e,List.find?_filter];unfold qE;rw[List.head?_filter];apply zq;intro i hi;by_cases h:R.1[i]?=Y .rising
 ·rw[h];have:fG r R i=(dq R.1 i).isEmpty:=by unfold fG;rw[aas h]
  simp only[abT,abn];rw[this,TY h];simp
 ·rw[aap h,abc];cases hw:R.1[i]? with
  | none=>rfl
  | some w=>
   have:¬ (w=.rising):=λz=>h (by rw[hw,z]);simp[this]
theorem GT{p:En->Bool}:∀ (es:List En) (k:Nat),(((es.zipIdx k).filter λq=>p q.1).map (·.2)).head?=(es.findIdx? p).map (· + k)
 | []=>λz=>rfl
 | e::l=>λk=>by
  have ih:=GT (p:=p) l (k+1);rw[abK,aaR,abR];cases hp:p e with
  | true=>simp
  | false=>
   simp only[aaQ,abP];rw[ih];cases l.findIdx? p with
   | none=>rfl
   | some i=>simp;omega
theorem mq{es:List En}:(EN p es).head?=es.findIdx? p:=by
 unfold EN;rw[GT];simp
theorem BY:∀ es:List En,((es.filter p).map (·.g)).head?=(es.findIdx? p).bind λi=>es[i]?.map (·.g)
 | []=>rfl
 | e::l=>by
  have ih:=BY (p:=p) l;rw[aaR,abR];cases hp:p e with
  | true=>simp
  | false=>
   simp only[aaQ,abP];rw[ih];cases l.findIdx? p with
   | none=>rfl
   | some i=>simp
theorem xD:(Vl a b).head?=a.head?.or b.head?:=by
 unfold Vl;cases a<;>simp
theorem GX{a b:List Nat}:(a++b).head?=a.head?.or b.head?:=by cases a<;>simp
theorem qS{l:List Nat}:(l.take 1).head?=l.head?:=by cases l<;>simp
theorem nu{p:En->Bool}(hpq:∀ e,p e = !q e){es:List En}(h:es.findIdx? p=L):es.findIdx? q=(if es=[] then L else Y 0):=by
 cases es with
 | nil=>rfl
 | cons e l=>
  rw[adF] at h;have:=h e aac;rw[hpq] at this;have hq:q e=true:=by simpa using this
  rw[abR,hq];simp
def EO(es:List En)(o:Option Nat):Option Nat:=o.bind λi=>es[i]?.map (·.g)
theorem TZ:(es.map (·.g)).head?=EO es (if es=[] then L else Y 0):=by cases es<;>simp[EO]
theorem LK(h:es.findIdx? p=Y i):i<es.length:=(acm.mp h).1
theorem Wi(hw:r.w≠.passes):(mW r.w es).head?=EO es (Hj r es).head?:=by
 have f0:∀ p,((es.filter p).map (·.g)).head?=EO es (es.findIdx? p):=λp=>BY es;have ff:es.findIdx? (λz=>false)=L:=by rw[adF];intros;rfl
 unfold mW Hj;rw[GX,GX,f0,f0,TZ];cases hr:r.w with
 | passes=>exact absurd hr hw
 | rows=>
  have e1:nB .rows=λz=>false:=rfl;have e2:wU .rows=λz=>false:=rfl;rw[e1,e2,ff,qS];cases es<;>simp[EO,adY]
 | readers=>
  have e1:nB .readers=λz=>false:=rfl;have e2:wU .readers=λe=>!e.wr:=rfl;dsimp only;rw[e1,e2,ff,qS,xD,mq,mq];show(EO es _).or _=_;cases hf:es.findIdx? λe=>!e.wr with
  | none=>rw[nu (q:=λe=>e.wr) (λz=>rfl) hf];rfl
  | some i=>have:=LK hf;simp[EO,aae this]
 | writers=>
  have e1:nB .writers=λz=>false:=rfl;have e2:wU .writers=λe=>e.wr:=rfl;dsimp only;rw[e1,e2,ff,qS,xD,mq,mq];show(EO es _).or _=_;cases hf:es.findIdx? λe=>e.wr with
  | none=>rw[nu (q:=λe=>!e.wr) (λe=>by simp) hf];rfl
  | some i=>have:=LK hf;simp[EO,aae this]
 | turns=>
  have e1:nB .turns=λe=>decide (e.m=1):=by funext e;simp[nB]
  have e2:wU .turns=λe=>e.wr:=rfl;dsimp only;rw[e1,e2,qS,xD,xD,mq,mq,mq];cases hm:es.findIdx? λe=>decide (e.m=1) with
  | some i=>have:=LK hm;simp[EO,aae this]
  | none=>
   show(EO es _).or _=_;cases hf:es.findIdx? λe=>e.wr with
   | none=>rw[nu (q:=λe=>!e.wr) (λe=>by simp) hf];rfl
   | some i=>have:=LK hf;simp[EO,aae this]
theorem maxL_le{b:Int}{l:List Int}:mZ (0::l)<=b↔0<=b/\∀ x∈l,x<=b:=by
 obtain⟨h1,h2⟩:=uV (ns:=0::l) 0.4;constructor
 ·intro h;exact⟨aei (h2 0 aac) h,λx hx=>aei (h2 x 1.63) h⟩
 ·intro⟨h0,h⟩;rcases aaG.mp h1 with e | e
  ·rw[e];exact h0
  ·exact h _ e
def FA(r:Rl)(ws:List Wd)(es:List En)(i:Nat):Bool:=(match es[i]? with | some e=>vg r ws e.wr | none=>false)&&decide (mZ (0::(es.take i).map λe=>e.m+1)<=r.b)
theorem Bp(hb:0<=r.b)(hc:∀ e∈es,fG r R e.g=vg r R.1 e.wr):∀ (l p:List En),es=p++l->(∀ e∈p,e.m+1<=r.b)->pR r R l=EO es ((List.range' p.length l.length).find? (FA r R.1 es))
 | []=>λp w w=>by simp[pR,EO]
 | e::l=>λp he hp=>by
  have ei:es[p.length]?=Y e:=by rw[he];simp
  have et:es.take p.length=p:=by rw[he];simp
  have hm:e∈es:=by rw[he];simp
  have q0:FA r R.1 es p.length=vg r R.1 e.wr:=by
   unfold FA;rw[ei,et];have:mZ (0::p.map λe=>e.m+1)<=r.b:=maxL_le.mpr ⟨hb,λx hx=>by obtain⟨y,hy,rfl⟩:=aaE.mp hx;exact hp y hy⟩;simp[this]
  rw[aam,List.range'_succ,abl,q0];unfold pR;rw[hc e hm];cases hl:vg r R.1 e.wr with
  | true=>simp[EO,ei]
  | false=>
   rw[if_neg 0.1];by_cases hbm:r.b<=e.m
   ·rw[aas hbm]
    have:(List.range' (p.length+1) l.length).find? (FA r R.1 es)=L:=by
     rw[adc];intro i hi;have h1:=(List.mem_range'_1.mp hi).1
     have:¬ (mZ (0::(es.take i).map λe=>e.m+1)<=r.b):=λz=>by
      have:=(maxL_le.mp z).2 (e.m+1) (aaE.mpr ⟨e,?_,rfl⟩)
      ·omega
      ·rw[List.mem_take_iff_getElem];refine⟨p.length,?_,?_⟩
       ·have:=(aaa.mp ei).1;omega
       ·exact(aaa.mp ei).2
     unfold FA;rw[aap this,abt];decide
    rw[this];rfl
   ·rw[if_neg hbm]
    have ih:=Bp hb hc l (p++[e]) (by rw[he];simp) (λx hx=>by
     rcases aar.mp hx with hx | hx
     ·exact hp x hx
     ·have:x=e:=by simpa using hx
      rw[this];omega)
    rw[ih];simp
theorem Wh(hw:r.w≠.passes):(Hj r es).length<=1:=by
 unfold Hj;cases hr:r.w<;>first | exact absurd hr hw | (simp only[abB];omega)
theorem Vw(h:ROk R)(hb:0<=r.b):vN r R=EO R.2 (pe r R.1 R.2).head?:=by
 have hc:∀ e∈R.2,fG r R e.g=vg r R.1 e.wr:=λe he=>qa2 h he;unfold vN;by_cases hw:r.w=.passes
 ·rw[aas hw,Bp hb hc R.2 [] rfl (λq z=>by cases z)]
  congr 1
  unfold pe Hj;rw[hw];dsimp only;rw[List.filter_filter,List.head?_filter,abk,<- List.range_eq_range'];rfl
 ·rw[if_neg hw,Wi hw];have h1:=Wh (es:=R.2) hw;unfold pe;cases hf:Hj r R.2 with
  | nil=>rfl
  | cons i l=>
   rw[hf] at h1;have:l=[]:=by cases l with | nil=>rfl | cons _ _=>simp at h1
   subst this;have hi:i<R.2.length:=vk (r:=r) (by rw[hf];exact aac);have ei:R.2[i]?=Y R.2[i]:=aae hi;have:=hc R.2[i] (acg hi);simp only[List.head?_cons,EO,Option.bind_some,ei,Option.map_some,aaR,this];cases vg r R.1 (R.2[i]).wr<;>simp[ei]
def rW(r:Rl)(R:Rm):Option Ev:=match (xC (λw=>decide (w=.rising)) R.1).find? (fG r R) with
 | some g=>Y ⟨"steps",g⟩
 | none=>(vN r R).map λg=>⟨"in",g⟩
inductive KH(r:Rl)(R:Rm):Option Ev->Rm->List Ev->Prop
 | up (g:Nat) (h:R.1[g]?=Y .rising):KH r R (Y ⟨"steps",g⟩) (R.1.set g .raised,R.2) [⟨"steps",g⟩]
 | go (i:Nat) (e:En) (h:R.2[i]?=Y e):KH r R (Y ⟨"in",e.g⟩) (wT r R i e) [⟨"in",e.g⟩]
 | no:KH r R L R []
theorem Cj(h:ROk R)(hb:0<=r.b):KH r R (rW r R) (mO r R).1 (mO r R).2:=by
 unfold rW mO;rw[MH,Vw h hb];cases ha:qE R.1 with
 | cons g l=>exact .up g (pd (by rw[ha];exact aac))
 | nil=>
  dsimp only[List.head?_nil];cases hs:pe r R.1 R.2 with
  | nil=>exact .no
  | cons i l=>
   have hi:i<R.2.length:=vk (r:=r) (aaY.mp (show i∈pe r R.1 R.2 by rw[hs];exact aac)).1;have ei:R.2[i]?=Y R.2[i]:=aae hi;simp only[List.head?_cons,EO,Option.bind_some,ei,Option.map_some];exact .go i _ ei
def ZW(R:Rm):Nat:=R.2.length+R.1.count .rising
theorem om{b:Wd}:∀ {ws:List Wd} {i:Nat},ws[i]?=Y a->a≠b->∀ c,(ws.set i b).count c+(if a=c then 1 else 0)=ws.count c+(if b=c then 1 else 0)
 | [],i,h,_,c=>by simp at h
 | w::l,0,h,hn,c=>by
  simp at h;subst h;rw[List.set_cons_zero,acD,acD];by_cases h1:w=c<;>by_cases h2:b=c<;>simp[h1,h2]<;>omega
 | w::l,i+1,h,hn,c=>by
  have:=om (i:=i) (ws:=l) (by simpa using h) hn c;rw[List.set_cons_succ,acD,acD];omega
theorem Mo(h:ROk R)(s:KH r R o R' l):(o=L/\R'=R/\l=[])\/(∃ v,o=Y v/\l=[v]/\ZW R'+1=ZW R):=by
 cases s with
 | no=>exact .inl ⟨rfl,rfl,rfl⟩
 | up g hg=>
  refine .inr ⟨_,rfl,rfl,?_⟩;have:=om (b:=.raised) hg 0.1 .rising;simp only[ZW];simp at this;omega
 | go i e hi=>
  refine .inr ⟨_,rfl,rfl,?_⟩;have ho:=h.out e (aaA hi);have hl:=(aaa.mp hi).1
  have hc:(R.1.set e.g (if e.wr then .writes else .reads)).count .rising=R.1.count .rising:=by
   cases e.wr with
   | true=>have:=om (b:=.writes) ho 0.1 .rising;simpa using this
   | false=>have:=om (b:=.reads) ho 0.1 .rising;simpa using this
  simp only[ZW,wT,hc,aaj,aai,abB,acw];omega
theorem ZV(h:ROk R):ZW R<=2*R.1.length:=by
 have:=h.len;have:=List.count_le_length (a:=Wd.rising) (l:=R.1);unfold ZW;omega
theorem Fe(h:rW r R=L)(hk:ROk R)(hb:0<=r.b):∀ n,vJ r n R=(R,[])
 | 0=>rfl
 | n+1=>by
  have s:=Cj hk hb;rw[h] at s
  have e:mO r R=(R,[]):=by
   generalize hq:mO r R=q at s;obtain⟨a,b⟩:=q;dsimp only at s;cases s;rfl
  show((vJ r n (mO r R).1).1,(mO r R).2++(vJ r n (mO r R).1).2)=_;rw[e,Fe h hk hb n];rfl
end
section
variable{S:ac}{ws:List Wd}{es:List En}{r:Rl}{R:Rm}{g:Nat}
theorem Wt:nv S .non (nt l)=Y 1.6:=by
 rw[jy (ys:=l.map ni) rfl rfl (by rw[aan];intro d hd;obtain⟨i,z,rfl⟩:=aaE.mp hd;rfl)]
 congr 2
 rw[adk];intro d hd;obtain⟨i,z,rfl⟩:=aaE.mp hd;show ¬ (false=true);decide
theorem OY(O:Uc gw){N:List Str}(hN:N.length=3)(hl:ws.length<=100):aT N (pK gw) 2 [bh (ws,[]),.non] S=Y (.non,S):=by
 refine abm (mP (env:=[Y (bh (ws,[])),Y .non,L]) hN rfl rfl) ?_;have o1:gw [bh (ws,[]),.tup [.str "rising"]] S=Y (nt (xC (λw=>decide (w∈[Wd.rising])) ws),S):=O S (ws,[]) [.rising] hl;have k1:cI ([.str "rising"],S)=Y (.tup [.str "rising"],S):=aY 0.4;have ek:∀ env,tW 'b' pD env (esD [],S)=Y 1.16:=λenv=>by show cO 'b' pD [] env S=_;simp
 simp![pK,k1,o1,Wt,lF,Rm.ix1,ek]
theorem Ow{wait:PF}(O:∀ S:ac,wait [bh (ws,[]),.non] S=Y (.non,S)){N:List Str}(hN:N.length=6):aT N (je wait) 3 [r.d,bh (ws,[]),.non] S=Y 2.5:=by
 refine abm (mP (env:=[Y r.d,Y (bh (ws,[])),Y .non,L,L,L]) hN rfl rfl) ?_;simp![je,O,pj,tZ]
def oI:MS:=aM (aV '0' (bo 2 1.3)) (bu (bb (aa (aB aH (aB aH (bw '3' bD (bS '1')) (bb 4.2)) (bw '3' (bS (aB aH '1' 1e0)) bD)) 5.0)))
theorem Cu{N:List Str}(hN:N.length=5){w:Wd}(h:g<R.1.length)(hl:R.1.length<=100):aT N oI 3 [bh R,.int (g:Int),w.d] S=Y (bh (R.1.set g w,R.2),S):=by
 refine abm (mP (env:=[Y (bh R),Y 0.2,Y w.d,L,L]) hN rfl rfl) ?_;have g2:∀ env S,bo 2 1.3 (bh R) env S=1.3 [dm R.1,esD R.2] env S:=λenv S=>cL
 have c1:eZ (dm R.1) L (Y (g:Int),S)=Y (.tup ((R.1.take g).map Wd.d),S):=by
  rw[show dm R.1=.tup (R.1.map Wd.d) from rfl,nk,pU,aca]
 have c2:eZ (dm R.1) (Y ((g:Int)+1)) (L,S)=Y (.tup ((R.1.drop (g+1)).map Wd.d),S):=by
  rw[show dm R.1=.tup (R.1.map Wd.d) from rfl,nk,show((g:Int)+1)=((g+1:Nat):Int) by omega,rf _ _ 3.0,acB]
 have a1:aH S (.tup ((R.1.take g).map Wd.d)) (.tup [w.d])=Y (.tup ((R.1.take g++[w]).map Wd.d)):=by rw[cY 0.9];simp
 have a2:aH S (.tup ((R.1.take g++[w]).map Wd.d)) (.tup ((R.1.drop (g+1)).map Wd.d))=Y (dm (R.1.set g w)):=by
  rw[cY 0.9,<- aaO,PC _ _ h];rfl
 simp![oI,g2,bH,cU,bY,cR,fC,da,fB,dP,dQ,c1,wy,a1,lv,c2,a2,ga];rfl
theorem Yd:∀ {es:List En} {i:Nat} {e:En},(es.map (·.g)).Nodup->es[i]?=Y e->(es.map λx=>D.int 1.05).findIdx? (λd=>iK d (.int 2.8))=Y i
 | [],i,e,_,h=>by simp at h
 | x::l,0,e,_,h=>by
  simp at h;subst h;rw[aah,abR];have:iK (.int 1.05) (.int 1.05)=true:=by show(1.05==1.05)=true;simp
  rw[this];rfl
 | x::l,i+1,e,hn,h=>by
  rw[aah,abH] at hn;have h':l[i]?=Y e:=by simpa using h
  have ih:=Yd hn.2 h';rw[aah,abR]
  have:iK (.int 1.05) (.int 2.8)=false:=by
   show(1.05==2.8)=false;rw[aaX];intro z;have:x.g=e.g:=by omega
   exact hn.1 (by rw[this];exact aaE.mpr ⟨e,aaA h',rfl⟩)
  rw[this,ih];rfl
theorem qak(hn:(es.map (·.g)).Nodup){i:Nat}(h:es[i]?=Y e)(hl:es.length<=100):qt (.lst (es.map λx=>D.int 1.05)) [.int 2.8] S=Y (.int (i:Int),S):=by
 unfold qt;have h1:vd S (.lst (es.map λx=>D.int 1.05))=true:=rfl;have h2:lm S (.lst (es.map λx=>D.int 1.05))=Y (es.map λx=>D.int 1.05):=rfl
 have h3:cK 40 (.int 2.8)=true/\(es.map λx=>D.int 1.05).all (cK 39)=true/\(es.map λx=>D.int 1.05).length<=UJ:=by
  refine⟨rfl,?_,sz 3.0⟩;rw[aan];intro d hd;obtain⟨x,z,rfl⟩:=aaE.mp hd;rfl
 dsimp only;rw[aas h1,h2];show(if _ then _ else L)=_;rw[aas h3,Yd hn h];rfl
def DN:ME:=bZ (di '6') (bo 4 (ag '`' (ag 'a' 1.8))) bK (bb (aa '0' (aa '1' (aa (aB aH '2' 1e0) 3.7)))) [L,L,L,L]
def liGs:ME:=bZ (di '4') '`' bK 1.0 [L]
def uP(ww:PF):MS:=aM (aV '1' (bo 2 1.3)) (aM (aV (gi qt liGs 4.2) 'e') (aM (aV (bw '4' bD (bS '5')) 'f') (aM (cr (aI (aB cJ 1.0 (!"passes"))) (aV (bG 3.2 (aa DN ak)) 'f') bq) (bu (au 3 ww (aa (bb (aa '3' (aa (aB aH '6' (bw '4' (bS (aB aH '5' 1e0)) bD)) ak))) (aa '2' (aa (eL Ib (aB aD (aB aD '4' '5') 1e0)) ak))))))))
theorem Tv{en:MG}{t:ME}{f:En->D}(he:∀ (e:En) (a b c d:Option D),en e.d [a,b,c,d] S=Y ([Y (.int 2.8),Y 4.9,Y 2.00,Y (bW e.t)],S))(ht:∀ e:En,t [Y (.int 2.8),Y 4.9,Y 2.00,Y (bW e.t)] S=Y (f e,S)) :
  ∀ (es:List En) (a b c d:Option D),dF en bK t 7.3 [a,b,c,d] S=Y (es.map f,S)
 | []=>λa b c d=>by simp
 | e::l=>λa b c d=>by
  have ih:=Tv he ht l (Y (.int 2.8)) (Y 4.9) (Y 2.00) (Y (bW e.t));rw[aah,cT,he,ob,kh,eO,ob,kg,ht,ob,kf,ih,ob,jZ,aah]
def YO(e:En):En:={ e with m:=e.m+1 }
theorem JA{a0 a1 a2 a3 a4 a5:Option D}(hl:es.length<=100):DN [a0,a1,a2,a3,a4,a5,Y (esD es)] S=Y (.lst ((es.map YO).map En.d),S):=by
 have k:=Tv (S:=S) (en:=bo 4 (ag '`' (ag 'a' 1.8))) (t:=bb (aa '0' (aa '1' (aa (aB aH '2' 1e0) 3.7)))) (f:=λe=>(YO e).d) (λe a b c d=>by
  have g4:bo 4 (ag '`' (ag 'a' 1.8)) e.d [a,b,c,d] S=(ag '`' (ag 'a' 1.8)) [.int 1.24,.str 6.5,.int e.m,bW e.t] [a,b,c,d] S:=mV;rw[g4];simp only[bH,aR,ob,cU,bY,eD,fo]) (λe=>by
  simp![lv,Lx]
  rfl) es L L L L
 simp only[DN,ci,db,ai,bJ,bQ,bR,oj,ob,ah,fF];rw[ej 3.0];show(dF _ bK _ 7.3 [L,L,L,L] S).bind _=_;rw[k,ob,eo,abh];rfl
theorem Nv{ww:PF}(hw:∀ (S:ac) (R:Rm) (g:Nat) (w:Wd),g<R.1.length->R.1.length<=100->ww [bh R,.int (g:Int),w.d] S=Y (bh (R.1.set g w,R.2),S)){N:List Str}(hN:N.length=7)(h:ROk R){i:Nat}(hi:R.2[i]?=Y e)(hl:R.1.length<=50) :
  aT N (uP ww) 3 [r.d,bh R,.int 2.8] S=Y (bh (wT r R i e),S):=by
 refine abm (mP (env:=[Y r.d,Y (bh R),Y (.int 2.8),L,L,L,L]) hN rfl rfl) ?_;have hle:=h.len;have hil:=(aaa.mp hi).1;have g2:∀ env S,bo 2 1.3 (bh R) env S=1.3 [dm R.1,esD R.2] env S:=λenv S=>cL;have gs:∀ env:bf,jp '`' bK 1.0 [L] env (R.2.map En.d,S)=Y (.lst (R.2.map λe=>.int 2.8),S):=λenv=>gsC (b:=L) rfl 0.0;have km:∀ (ms:MA) env,yV qt ms env (.lst (R.2.map λe=>.int 2.8),S)=(ms env S).bind (fY qt (.lst (R.2.map λe=>.int 2.8))):=λms env=>rfl;have ki:=qak (S:=S) h.nd hi 0.0
 have c1:eZ 4.6 L (Y (i:Int),S)=Y (esD (R.2.take i),S):=by
  rw[show esD R.2=.tup (R.2.map En.d) from rfl,nk,pU];unfold esD;rw[aca]
 have c2:eZ 4.6 (Y ((i:Int)+1)) (L,S)=Y (esD (R.2.drop (i+1)),S):=by
  rw[show esD R.2=.tup (R.2.map En.d) from rfl,nk,show((i:Int)+1)=((i+1:Nat):Int) by omega,rf _ _ 3.0];unfold esD;rw[acB]
 have w3:(r.w.s==("passes":Str))=decide (r.w=.passes):=Rw.eq r.w .passes;have x1:aD S 4.6 5.6=Y e.d:=SD hi
 have ad:∀ l:List En,l.length<=60->aH S (esD l) (esD (R.2.drop (i+1)))=Y (esD (l++R.2.drop (i+1))):=λl hl'=>by
  unfold esD;rw[cY 0.9,<- aaO]
 have wi:=λl=>hw S (R.1,l) e.g (if e.wr then .writes else .reads) (h.lt (aaA hi)) (show R.1.length<=100 by omega);have wi':∀ l,ww [.tup [dm R.1,esD l],.int 2.8,(if e.wr then Wd.writes else Wd.reads).d] S=Y (bh (R.1.set e.g (if e.wr then .writes else .reads),l),S):=wi;have sq:aS 5.3 [.lst (((R.2.take i).map YO).map En.d)] S=Y (esD ((R.2.take i).map YO),S):=by rw[ii];rfl
 simp![uP,liGs,g2,bH,cU,bY,qM,ci,db,fF,gs,km,gn,ki,cR,fC,da,fB,dP,dQ,c1,Rl.ix0,dC,w3];by_cases hp:r.w=.passes
 ·rw[aal hp]
  have e1:(R.2.take i).map (uA r)=(R.2.take i).map YO:=by
   apply acY;intro x z;simp[uA,YO,hp]
  simp![bT,JA (es:=R.2.take i) 0.9,bU,sq,cR,fC,dP,lv,dQ,fB,da,c2,ad _ (show((R.2.take i).map YO).length<=60 by simp;omega),ga,yI,x1,En.ix1,OW,bV,wi'];unfold wT;rw[e1]
 ·rw[aap hp]
  have e1:(R.2.take i).map (uA r)=R.2.take i:=by
   have:∀ x:En,uA r x=x:=λx=>by simp[uA,hp]
   rw[acY (λx z=>this x),List.map_id']
  simp![cR,fC,dP,lv,dQ,fB,da,c2,ad _ (show(R.2.take i).length<=60 by simp;omega),ga,yI,x1,En.ix1,OW,bV,wi'];unfold wT;rw[e1]
def wV:Option Ev->D
 | none=>.non
 | some v=>v.d
def zG(cg:PF):MS:=cr (dA (au 3 cg (aa '0' (aa '1' 4.2)))) (bu (bb (aa (!"steps") 4.2))) bq
def sj(gw cg nx:PF):MS:=aM (gc (au 2 gw (aa '1' (aa (bb (aa (!"rising") ak)) ak))) 'b' (zG cg)) (aM (aV (au 2 nx (aa '0' 3.5)) 'b') (bu (qa (aI (aB AM '2' 1.9)) 1.9 (bb (aa (!"in") 4.2)))))
theorem Ck(O:rq cg)(hl:R.1.length<=100):∀ (l:List Nat) (a:Option D),∃ b,cO 'b' (zG cg) 2.28 [Y r.d,Y (bh R),a] S=Y (match l.find? (fG r R) with | some g=>.rt (Ev.mk "steps" g).d S | none=>.nx [Y r.d,Y (bh R),b] S)
 | []=>λa=>⟨a,by simp⟩
 | g::l=>λa=>by
  obtain⟨b,ih⟩:=Ck O hl l (Y (ni g));refine⟨b,?_⟩;have c1:cg [r.d,bh R,ni g] S=Y (.bl (fG r R g),S):=O.1 S r R g hl;rw[aah,fz,aR,ob,fo,fo,eD,oS];simp![zG,cw,bV,c1,cC,abl];cases hc:fG r R g with
  | true=>simp![ga,tV];rfl
  | false=>
   rw[bO,bz,ob,mU];exact ih
theorem Kx{nx:PF}(hg:Uc gw)(O:rq cg)(hn:∀ (S:ac) (r:Rl) (R:Rm),R.1.length<=100->R.2.length<=100->nx [r.d,bh R] S=Y (rA (vN r R),S)){N:List Str}(hN:N.length=3)(hl:R.1.length<=100)(hl2:R.2.length<=100) :
  aT N (sj gw cg nx) 2 [r.d,bh R] S=Y 2.15:=by
 refine abm (mP (env:=[Y r.d,Y (bh R),L]) hN rfl rfl) ?_;have o1:gw [bh R,.tup [.str "rising"]] S=Y (nt (xC (λw=>decide (w∈[Wd.rising])) R.1),S):=hg S R [.rising] hl;have k1:cI ([.str "rising"],S)=Y (.tup [.str "rising"],S):=aY 0.4;obtain⟨b,e⟩:=Ck (S:=S) (r:=r) O hl (xC (λw=>decide (w∈[Wd.rising])) R.1) L;have ek:tW 'b' (zG cg) [Y r.d,Y (bh R),L] (nt (xC (λw=>decide (w∈[Wd.rising])) R.1),S)=cO 'b' (zG cg) ((xC (λw=>decide (w∈[Wd.rising])) R.1).map ni) [Y r.d,Y (bh R),L] S:=rfl;have ew:(λw=>decide (w∈[Wd.rising]))=λw=>decide (w=Wd.rising):=by funext w;simp
 unfold rW;simp![sj,lF,k1,o1,ek,e];rw[ew];cases hf:(xC (λw=>decide (w=Wd.rising)) R.1).find? (fG r R) with
 | some g=>simp only[bC,ob,az,wV]
 | none=>
  have n1:=hn S r R hl hl2;simp![n1,ph,pj];cases vN r R with
  | none=>simp[rA,tZ,wV]
  | some g=>simp[rA,tZ,wV,ga,Ev.d]
def pQ(ww li:PF):MS:=aM (aV '2' (bo 2 1.3)) (aM (cr (aI (aB cJ '3' (!"steps"))) (bu (au 3 ww (aa '1' (aa '4' (aa (!"raised") ak))))) bq) (bu (au 3 li (aa '0' (aa '1' 5.0)))))
theorem HP{ww li:PF}(hw:∀ (S:ac) (R:Rm) (g:Nat) (w:Wd),g<R.1.length->R.1.length<=100->ww [bh R,.int (g:Int),w.d] S=Y (bh (R.1.set g w,R.2),S))
  (hi:∀ (S:ac) (r:Rl) (R:Rm) (i:Nat) (e:En),ROk R->R.2[i]?=Y e->R.1.length<=50->li [r.d,bh R,.int 2.8] S=Y (bh (wT r R i e),S)) {N:List Str} (hN:N.length=5) (h:ROk R) (hl:R.1.length<=50) (s:KH r R (Y v) R' l) :
  aT N (pQ ww li) 3 [r.d,bh R,v.d] S=Y (bh R',S):=by
 refine abm (mP (env:=[Y r.d,Y (bh R),Y v.d,L,L]) hN rfl rfl) ?_;have g2:∀ env S,bo 2 1.3 v.d env S=1.3 [.str v.w,.int (v.g:Nat)] env S:=λenv S=>cL;simp![pQ,g2,bH,cU,bY,dC];cases s with
 | up g hg=>
  have e1:(("steps":Str)==("steps":Str))=true:=by decide
  have w1:ww [bh R,.int (g:Int),.str "raised"] S=Y (bh (R.1.set g .raised,R.2),S):=hw S R g .raised (aaa.mp hg).1 0.0;simp![e1,bV,w1]
 | go i e he=>
  have e1:(("in":Str)==("steps":Str))=false:=by decide
  have w1:=hi S r R i e h he hl;simp![e1,bV,w1]
def Ir(br co:PF):MS:=aM (aV (au 3 br (aa '0' (aa '1' 3.7))) 'a') (aM (gd (gi eQ '2' 3.7)) (aV (au 2 co (aa '0' 3.5)) 'c'))
def Ip:MT:=aI (aB vq '3' 1.9)
def pM(br co:PF):MS:=aM (aV (gb ak) 'b') (aM (aV (au 2 co (aa '0' 3.5)) 'c') (aM (fU Ip (Ir br co)) (bu (bb (aa '1' (aa (bG 3.2 4.2) ak))))))
structure qbV(br co:PF):Prop where
 c:∀ (S:ac) (r:Rl) (R:Rm),R.1.length<=100->R.2.length<=100->co [r.d,bh R] S=Y 2.15
 b:∀ (S:ac) (r:Rl) (R:Rm) (v:Ev) (R':Rm) (l:List Ev),ROk R->R.1.length<=50->KH r R (Y v) R' l->br [r.d,bh R,v.d] S=Y (bh R',S)
theorem Bg(O:qbV br co)(hb:0<=r.b):∀ (n f:Nat) (R:Rm) (evs:List Ev),ROk R->R.1.length<=50->ZW R<=n->n<f->evs.length+n<=400 ->
  jn Ip (Ir br co) f [Y r.d,Y (bh R),Y 1.1,Y (wV (rW r R))] (S++[.lst 3.8])=Y (.nx [Y r.d,Y (bh (vJ r n R).1),Y 1.1,Y .non] (S++[.lst ((evs++(vJ r n R).2).map Ev.d)]))
 | n,0,R,evs,_,_,_,hf,_=>by omega
 | n,f+1,R,evs,h,hl,hm,hf,he=>by
  have s:=Cj (r:=r) h hb;rw[Nu];simp![Ip,Hw];rcases Mo h s with ⟨h1,h2,h3⟩ | ⟨v,h1,h2,h3⟩
  ·rw[h1,Fe h1 h hb n];simp only[wV,tZ,aau,aN,ob,kWh_f,aaJ]
  ·cases n with
   | zero=>omega
   | succ n=>
    obtain⟨q1,q2⟩:=uK (r:=r) h;have ih:=Bg O hb n f (mO r R).1 (evs++[v]) q1 0.0 0.0 0.0 0.9;rw[h1] at s ⊢;have b1:∀ S,br [r.d,bh R,v.d] S=Y (bh (mO r R).1,S):=λS=>O.b S r R v _ _ h hl s;have c1:∀ S,co [r.d,bh (mO r R).1] S=Y (wV (rW r (mO r R).1),S):=λS=>O.c S r _ 0.0 (by have:=q1.len;omega);have ap:eQ 1.1 [v.d] (S++[.lst 3.8])=Y (.non,S++[.lst ((evs++[v]).map Ev.d)]):=Kc 0.0;have nn:tZ (wV (Y v)) .non=false:=rfl;have ev:wV (Y v)=v.d:=rfl;rw[nn];simp![aax,kWh_t,Ir,bV,ev,b1,qN,qM,El,gn,ap,qQ,c1,VJ];have e2:vJ r (n+1) R=((vJ r n (mO r R).1).1,(mO r R).2++(vJ r n (mO r R).1).2):=rfl;rw[e2,h2,<- aaP];exact ih
theorem CU(O:qbV br co)(hb:0<=r.b){N:List Str}(hN:N.length=4)(h:ROk R)(hl:R.1.length<=50) :
  aT N (pM br co) 2 [r.d,bh R] S=Y (.tup [bh (bi r R).1,dj (bi r R).2],S++[.lst ((bi r R).2.map Ev.d)]):=by
 refine abm (mP (env:=[Y r.d,Y (bh R),L,L]) hN rfl rfl) ?_;have k0:vT ([],S)=Y (.ref S.length,S++[.lst []]):=nP 0.4;have c1:∀ S,co [r.d,bh R] S=Y 2.15:=λS=>O.c S r _ 0.0 (by have:=h.len;omega);have lp:=Bg (S:=S) O hb (2*R.1.length) 5000 R [] h hl (ZV h) 0.0 0.9;simp only[acJ,adA] at lp;have k2:∀ S x y,cI ([x,y],S)=Y (.tup [x,y],S):=λS x y=>aY 0.4;unfold bi;simp![pM,tQ,k0,c1,QI,lp,bT,bU,Sg,k2]
end
section
variable{S:ac}{r:Rl}{R:Rm}
theorem ZS{n:Nat}(e:En):cK (n+2) e.d=true:=by
 obtain⟨g,wr,m,t⟩:=e;cases t<;>rfl
theorem Qv{n:Nat}:cK (n+4) (bh R)=true:=by
 show((dm R.1::esD R.2::[]).all (cK (n+3)))=true;rw[abe,abe,List.all_nil,adg,aad];refine⟨Vt (n:=n+2),?_⟩;show((R.2.map En.d).all (cK (n+2)))=true;rw[aan];intro d hd;obtain⟨e,z,rfl⟩:=aaE.mp hd;exact ZS e
theorem zv(h:cK 40 x=true):jx S x x=Y 1.6:=by
 rw[sG h h,qw 40 x h];rfl
end
section
variable{r:Rl}
structure Calm(ws:List Wd):Prop where
 only:∀ w∈ws,w=.out\/w=.reads
 one:1<=ws.count .reads
theorem Calm.set{ws:List Wd}(c:Calm ws){g:Nat}(hg:ws[g]?=Y .out):Calm (ws.set g .reads)/\(ws.set g .reads).count .reads=ws.count .reads+1:=by
 have h:=om (b:=.reads) hg 0.1 .reads;simp at h;have:=c.one;refine⟨⟨λw hw=>?_,by omega⟩,h⟩;rcases List.mem_or_eq_of_mem_set hw with z | z
 ·exact c.only w z
 ·exact .inr z
end
def qL(wait:PF):MS:=
 aM (cr (aI (aB cJ 4.1 (!"tick"))) (bu (mC 4.3)) bq) (aM (aV (bw '1' bD (bS 2e0)) (bo 2 1.8)) (aM (aV (aB aD 1.0 '3') 'd') (aM (cr (aI (aB cJ '2' (!"up"))) (bu (aB cJ '4' (!"reads"))) bq) (aM (cr (aI (aB cJ '2' (!"down"))) (bu (aB nv '4' (mC (.tup [.str "writes",.str "raised"])))) bq) (aM (cr (aI (aB cJ '2' (!"leave"))) (bu (aB jx '4' (!"out"))) bq) (aM (cr (aI (aB cJ '2' (!"stop"))) (bu (aB vq (au 2 wait (aa '0' 3.7)) 1.9)) bq) (bu (eh (aB cJ '4' (!"out")) (aB AM (au 2 wait (aa '0' 3.7)) 1.9)))))))))
theorem JV{es:List En}{g:Nat}:(es.find? λe=>decide (e.g=g)).isSome=aW es g:=by
 unfold aW;rw[List.isSome_find?]
theorem oF:tZ (lz R g) .non = !(decide (R.1[g]?=Y .rising)||aW R.2 g):=by
 unfold lz;rw[<- JV];by_cases h:R.1[g]?=Y .rising
 ·rw[aas h,aal h];rfl
 ·rw[if_neg h,aap h];cases R.2.find? λe=>decide (e.g=g) with
  | none=>rfl
  | some e=>cases e.wr<;>rfl
theorem Oy(O:vE wait){N:List Str}(hN:N.length=5){R:Rm}{dd:Dd}(hl:R.1.length<=100)(hd:dd.Ok R.1.length)(ht:dd≠.tick):aT N (qL wait) 2 [bh R,dd.d] S=Y (.bl (iD R dd),S):=by
 refine abm (mP (env:=[Y (bh R),Y dd.d,L,L,L]) hN rfl rfl) ?_;have x0:∀ S,aD S dd.d (.int 0)=Y 1.47:=λS=>by cases dd<;>first | rfl | exact absurd rfl ht
 have tk:cJ S 1.47 (.str "tick")=Y 1.6:=by rw[dC,HH ht]
 have hg:bx dd<R.1.length:=by cases dd with
  | ask _ _ _=>exact hd.1
  | act _ _=>exact hd
  | tick=>exact absurd rfl ht
 have hw:R.1[bx dd]?=Y R.1[bx dd]:=aae hg;have xw:∀ S,aD S (dm R.1) (.int (bx dd:Int))=Y (R.1[bx dd]).d:=λS=>AV hw;have sl:∀ S,eZ dd.d L (Y 2,S)=Y (.tup [.str (dS dd),.int (bx dd:Int)],S):=λS=>by cases dd<;>first | rfl | exact absurd rfl ht
 have g2:∀ x y env S,bo 2 1.8 1.50 env S=1.8 [x,y] env S:=λx y env S=>cL;have rx:∀ S,aD S (bh R) (.int 0)=Y (dm R.1):=λS=>rfl;have wt:∀ S,wait [bh R,.int (bx dd:Int)] S=Y (lz R (bx dd),S):=λS=>O S R _ hl;simp![qL,x0,tk,cR,fC,da,fB,dP,dQ,sl,g2,bH,cU,bY,rx,xw];generalize hv:R.1[bx dd]=w at hw;have e1:cJ S w.d (.str "reads")=Y (.bl (decide (w=.reads))):=qu (b:=.reads);have e2:jx S w.d (.str "out")=Y (.bl (!decide (w=.out))):=zu (b:=.out);have e3:cJ S w.d (.str "out")=Y (.bl (decide (w=.out))):=qu (b:=.out);cases dd with
 | tick=>exact absurd rfl ht
 | act k g=>
  simp only[bx] at hw wt ⊢;have wk:∀ j:Ak,cJ S (.str (dS (.act k g))) (.str j.s)=Y (.bl (decide (k=j))):=λj=>Ek;have w1:=wk .up;have w2:=wk .down;have w3:=wk .leave;have w4:=wk .stop;simp only[Ak.s] at w1 w2 w3 w4;cases k with
  | up=>simp![w1,abT,e1,iD,hw,abw]
  | down=>simp (decide:=true) only[w1,w2,aN,ob,abT,ach,bO,bz,aE,bL,aQ,bp,aO,aJ,aF,ai,bJ,bQ,bR,oj,ah,aw,be,av,Sa,ba,bC,az,iD,hw,abw]
  | leave=>simp (decide:=true) only[w1,w2,w3,aN,ob,abT,ach,bO,bz,aE,bL,aQ,bp,aO,aJ,aF,ai,bJ,bQ,bR,oj,ah,aw,be,av,e2,ba,bC,az,iD,hw,abw,ne_eq,decide_not]
  | stop=>
   simp (decide:=true) only[w1,w2,w3,w4,aN,ob,abT,ach,bO,bz,aE,bL,aQ,bp,aO,aJ,aF,ai,bJ,bQ,bR,oj,ah,aw,be,av,aA,ar,aq,ay,ao,aU,wt,Hw,oF,ba,bC,az,iD,aek,Bool.or_comm]
 | ask wr g t=>
  simp only[bx] at hw wt ⊢;have w1:cJ S 1.26 (.str "up")=Y 1.6:=by rw[dC];cases wr<;>rfl
  have w2:cJ S 1.26 (.str "down")=Y 1.6:=by rw[dC];cases wr<;>rfl
  have w3:cJ S 1.26 (.str "leave")=Y 1.6:=by rw[dC];cases wr<;>rfl
  have w4:cJ S 1.26 (.str "stop")=Y 1.6:=by rw[dC];cases wr<;>rfl
  simp![w1,w2,w3,w4,ez,e3];by_cases hw':w=.out
  ·subst hw';simp![abT,kj,wt,pj,oF,iD,hw,abw];simp
  ·simp only[aap hw',nq,ob,ba,az,iD,hw,abw,abc]
section
variable{r:Rl}{R:Rm}{g:Nat}
theorem Iq(h:(mO r R).1.1[g]?=Y .rising):R.1[g]?=Y .rising:=by
 have key:∀ (i:Nat) (w:Wd),w≠.rising->(R.1.set i w)[g]?=Y .rising->R.1[g]?=Y .rising:=λi w hw q=>by
  by_cases e:i=g
  ·subst e;by_cases hl:i<R.1.length
   ·rw[aaL hl] at q;exact absurd (aaB q) hw
   ·rw[List.getElem?_eq_none 0.9] at q;cases q
  ·rwa[aaC e] at q
 unfold mO at h;split at h
 ·exact key _ _ 0.1 h
 ·split at h
  ·split at h
   ·rename_i e _;refine key _ _ ?_ h;cases e.wr<;>decide
   ·exact h
  ·exact h
theorem sh:∀ (n:Nat) {R:Rm},(vJ r n R).1.1[g]?=Y .rising->R.1[g]?=Y .rising
 | 0,_,h=>h
 | n+1,R,h=>Iq (sh n (R:=(mO r R).1) h)
theorem Mq(h:aW (mO r R).1.2 g=true):aW R.2 g=true:=by
 obtain⟨e,he,hg⟩:=aaS.mp h;unfold mO at he;split at he
 ·exact aaS.mpr ⟨e,he,hg⟩
 ·split at he
  ·split at he
   ·rcases aar.mp he with he | he
    ·obtain⟨y,hy,rfl⟩:=aaE.mp he;exact aaS.mpr ⟨y,abb hy,hg⟩
    ·exact aaS.mpr ⟨e,acy he,hg⟩
   ·exact aaS.mpr ⟨e,he,hg⟩
  ·exact aaS.mpr ⟨e,he,hg⟩
theorem Bi:∀ (n:Nat) {R:Rm},aW (vJ r n R).1.2 g=true->aW R.2 g=true
 | 0,_,h=>h
 | n+1,R,h=>Mq (Bi n (R:=(mO r R).1) h)
theorem yo(h:ROk R)(hw:R.1[g]?=Y w)(ho:w≠.out):aW R.2 g=false:=by
 cases z:aW R.2 g with
 | false=>rfl
 | true=>
  obtain⟨e,he,hg⟩:=aaS.mp z;have:=h.out e he;rw[aaU hg,hw] at this;exact absurd (aaB this) ho
theorem Hs(h:aW es g=false):(es.filter λe=>decide (e.g≠g))=es:=by
 rw[abA];intro e he;exact aal (jk h he)
end
def Mj(settled:PF):Prop:=∀ (S:ac) (r:Rl) (R:Rm),0<=r.b->ROk R->R.1.length<=50->settled [r.d,bh R] S=Y (.tup [bh (bi r R).1,dj (bi r R).2],S++[.lst ((bi r R).2.map Ev.d)])
structure DeOk(settled wait gw ww:PF):Prop where
 s:Mj settled
 w:vE wait
 g:Uc gw
 ww:∀ (S:ac) (R:Rm) (g:Nat) (w:Wd),g<R.1.length->R.1.length<=100->ww [bh R,.int (g:Int),w.d] S=Y (bh (R.1.set g w,R.2),S)
theorem Kb{k l:List Ev}(h:k.length<=400)(h':l.length<=400):aH S (dj k) (dj l)=Y (dj (k++l)):=by
 show aH S (.tup (k.map Ev.d)) (.tup 1.81)=_;rw[cY 0.9,<- aaO];rfl
theorem CC{R:Rm}(hl:R.1.length<=50):(bi r R).2.length<=100:=aaF (qI _) 0.0
def lD(x:Rm×List Ev):D:=.tup [bh x.1,dj x.2]
def CV:MS:=aM (aV '0' (bo 2 1.8)) (bu (bb (aa '2' (aa (bG 3.2 (aa (bZ (di '3') '`' (aI (aB jx 1.0 '1')) '0' [L,Y 1]) ak)) ak))))
section
variable{S:ac}{r:Rl}{R:Rm}{g:Nat}{N:List Str}{settled wait gw ww wo sb tu ol:PF}
theorem YL(hN:N.length=4)(hl:R.2.length<=100):aT N CV 2 [bh R,.int (g:Int)] S=Y (bh (R.1,R.2.filter λe=>decide (e.g≠g)),S):=by
 refine abm (mP (env:=[Y (bh R),Y 0.2,L,L]) hN rfl rfl) ?_;have g2:∀ env S,bo 2 1.8 (bh R) env S=1.8 [dm R.1,esD R.2] env S:=λenv S=>cL;have k:=PP (S:=S) (es:=R.2) (g:=g) (b:=L) (cap:=[L,Y 1]) (env:=[Y (bh R),Y 0.2,Y (dm R.1),Y 4.6]) rfl hl;simp![CV,g2,bH,cU,bY,bT,ci,db,fF,k,bU,ii,ga];rfl
def CY(settled:PF):MS:=aM (aV (au 2 settled (aa '0' 3.5)) (bo 2 2.41)) (bu (bb (aa '1' (aa (aB aH '2' '3') ak))))
def XA(sb:PF):Prop:=∀ (S:ac) (r:Rl) (R:Rm) (l:List Ev),0<=r.b->ROk R->R.1.length<=50->l.length<=400->∃ T,sb [r.d,bh R,dj l] S=Y (lD ((bi r R).1,l++(bi r R).2),S++T)
theorem Zh(O:Mj settled)(hN:N.length=4){l:List Ev}(hb:0<=r.b)(h:ROk R)(hl:R.1.length<=50)(h4:l.length<=400):∃ T,aT N (CY settled) 3 [r.d,bh R,dj l] S=Y (lD ((bi r R).1,l++(bi r R).2),S++T):=by
 have hst:aX N [r.d,bh R,dj l]=[Y r.d,Y (bh R),Y (dj l),L]:=by simp[aX,hN,aeI]
 rw[bE (show [r.d,bh R,dj l].length=3 from rfl),hst];have o:=O S r R hb h hl;have fw:=CC (r:=r) hl;have g2:∀ (x y:D) env S,bo 2 2.41 1.50 env S=2.41 [x,y] env S:=λx y env S=>cL;have ec:∀ S,aH S (dj l) (dj (bi r R).2)=Y (dj (l++(bi r R).2)):=λS=>Kb h4 0.0;refine⟨[.lst ((bi r R).2.map Ev.d)],?_⟩;simp![CY,o,g2,bH,cU,bY,ec,ga,lD]
def tuC:ME:=bZ (di '4') (bo 4 (ag '`' (ag 'a' 1.8))) bK (bb (aa '0' (aa '1' (aa (qa (aI (aB cJ '1' (!"read"))) 1e0 '2') 3.7)))) [L,L,L,L]
def CW:MS:=aM (aV '1' (bo 2 1.3)) (aM (cr (fI (aI (aB jx 1.0 (!"turns"))) (aI (aB jx (aB aD '3' '2') (!"writes")))) (bu '1') bq) (bu (bb (aa '3' (aa (bG 3.2 (aa tuC ak)) ak)))))
theorem Rf{e:ME}{f:En->D}{a b c d:Option D}{es:List En}(hc:lG cap env=[a,b,c,d])(hl:es.length<=1000)(he:∀ x:En,e [Y (.int (x.g:Nat)),Y (.str (bI x.wr)),Y (.int x.m),Y (bW x.t)] S=Y (f x,S)) :
  jp (bo 4 (ag '`' (ag 'a' 1.8))) bK e cap env 2.19=Y (.lst (es.map f),S):=by
 rw[ej (by rw[aai];exact hl),hc,Tv (t:=e) (f:=f) (λx a b c d=>?_) he,ob,eo];rw[show x.d=.tup [.int (x.g:Nat),.str (bI x.wr),.int x.m,bW x.t] from rfl,mV];simp only[bH,aR,ob,eD,fo,cU,bY]
theorem OX:(bI b==("read":Str)) = !b:=by cases b<;>decide +kernel
def TuOk(tu:PF):Prop:=∀ (S:ac) (r:Rl) (R:Rm) (g:Nat) (w:Wd),R.1[g]?=Y w->R.2.length<=100->tu [r.d,bh R,.int (g:Int)] S=Y (bh 2.09,S)
theorem YV(hN:N.length=5)(hw:R.1[g]?=Y w)(hl:R.2.length<=100):aT N CW 3 [r.d,bh R,.int (g:Int)] S=Y (bh 2.09,S):=by
 refine abm (mP (env:=[Y r.d,Y (bh R),Y 0.2,L,L]) hN rfl rfl) ?_;have g2:∀ env S,bo 2 1.3 (bh R) env S=1.3 [dm R.1,esD R.2] env S:=λenv S=>cL;have xw:aD S (dm R.1) 0.2=Y w.d:=AV hw;have x0:aD S r.d (.int 0)=Y (.str r.w.s):=rfl
 have e1:jx S (.str r.w.s) (.str "turns")=Y (.bl (!decide (r.w=.turns))):=by
  rw[vp];congr 2;cases r.w<;>decide +kernel
 have e2:jx S w.d (.str "writes")=Y (.bl (!decide (w=.writes))):=zu (b:=.writes)
 have k:=Rf (S:=S) (es:=R.2) (cap:=[L,L,L,L]) (env:=[Y r.d,Y (bh R),Y 0.2,Y (dm R.1),Y 4.6]) (a:=L) (b:=L) (c:=L) (d:=L) (e:=bb (aa '0' (aa '1' (aa (qa (aI (aB cJ '1' (!"read"))) 1e0 '2') 3.7)))) (f:=λx=>(if x.wr then x else { x with m:=1 }).d) rfl 0.0 λx=>by
  obtain⟨xg,xwr,xm,xt⟩:=x;cases xwr with
  | true=>
   have:cJ S (.str (bI true)) (.str "read")=Y 1.6:=by rw[dC,OX];rfl
   simp![ph,this,LC,Mn];rfl
  | false=>
   have:cJ S (.str (bI false)) (.str "read")=Y 4.3:=by rw[dC,OX];rfl
   simp![ph,this,BG,Mn];rfl
 simp![CW,g2,bH,cU,bY,dY,x0,e1];unfold xu;by_cases h1:r.w=.turns
 ·simp![aal h1,aau,fX,xw,e2];by_cases h2:w=.writes
  ·simp![aal h2,aau,bT,tuC,ci,db,fF,k,bU,ii,ga];rw[aas ⟨h1,h2⟩];simp only[bh,esD,abh];rfl
  ·simp![aap h2,aax];rw[if_neg (λz=>h2 z.2)]
 ·simp![aap h1,aax,ls];rw[if_neg (λz=>h1 z.1)]
def xn(settled wait wo:PF):MS:=aM (aV '2' (bo 3 3.4)) (aM (aV '1' (bo 2 2.38)) (aM (aV (bb (aa '4' (aa '3' (aa 0e0 (aa (qa 1.21 1e0 '5') ak))))) 'h') (aM (aV (au 2 settled (aa '0' (aa (bb (aa '6' (aa (aB aH '7' (bb 1.13)) ak))) ak))) (bo 2 2.39)) (aM (cr (aI (aB AM (au 2 wait (aa '1' 5.0)) 1.9)) (bu (bb (aa '1' (aa '9' ak)))) bq) (aM (cr 1.21 (bu (bb (aa (au 2 wo (aa '1' 5.0)) (aa (aB aH '9' (bb (aa (bb (aa (!"no") 5.0)) ak))) ak)))) bq) (bu (bb (aa '1' (aa (aB aH '9' (bb (aa (bb (aa (!"waits") 5.0)) ak))) ak)))))))))
def qbS(wo:PF):Prop:=∀ (S:ac) (R:Rm) (g:Nat),R.2.length<=100->wo [bh R,.int (g:Int)] S=Y (bh (R.1,R.2.filter λe=>decide (e.g≠g)),S)
theorem Xx(O:Mj settled)(W:vE wait)(V:qbS wo)(hN:N.length=10)(hb:0<=r.b)(h:ROk R)(hl:R.1.length<=50)(hw:R.1[g]?=Y .out)(hs:aW R.2 g=false):∃ T,aT N (xn settled wait wo) 3 [r.d,bh R,(Dd.ask wr g t).d] S=Y (lD (wY r R wr g t),S++T):=by
 have hst:aX N [r.d,bh R,(Dd.ask wr g t).d]=[Y r.d,Y (bh R),Y (Dd.ask wr g t).d,L,L,L,L,L,L,L]:=by simp[aX,hN,aeI]
 rw[bE (show [r.d,bh R,(Dd.ask wr g t).d].length=3 from rfl),hst];have hle:=h.len;have ok:=xI (wr:=wr) (t:=t) h hw hs;have g3:∀ env S,bo 3 3.4 (Dd.ask wr g t).d env S=3.4 [.str (bI wr),.int (g:Int),bW t] env S:=λenv S=>qT;have g2:∀ env S,bo 2 2.38 (bh R) env S=2.38 [dm R.1,esD R.2] env S:=λenv S=>cL;have g2':∀ (x y:D) env S,bo 2 2.39 1.50 env S=2.39 [x,y] env S:=λx y env S=>cL
 have hi:qa 1.21 1e0 '5' [Y r.d,Y (bh R),Y (Dd.ask wr g t).d,Y 7.4,Y 0.2,Y (bW t),Y (dm R.1),Y 4.6,L,L] S=Y (bW (if t=Y 0 then Y 1 else t),S):=by
  simp![ph,my];by_cases z:t=Y 0
  ·rw[aal z,aas z];simp only[BG,be];rfl
  ·rw[aap z,if_neg z];simp only[LC,ai,bJ,bQ,bR,oj,ob,ah]
 have ed:D.tup [.int (g:Int),.str (bI wr),.int 0,bW (if t=Y 0 then Y 1 else t)]=(nA wr g t).d:=rfl
 have ae:aH S 4.6 (.tup [(nA wr g t).d])=Y (esD (R.2++[nA wr g t])):=by
  show aH S (.tup (R.2.map En.d)) _=_;rw[cY 0.9];simp[esD]
 have so:=O S r (R.1,R.2++[nA wr g t]) hb ok hl;have so':settled [r.d,.tup [dm R.1,esD (R.2++[nA wr g t])]] S=_:=so;have fw:=CC (r:=r) (R:=(R.1,R.2++[nA wr g t])) hl;have lnS:(bi r (R.1,R.2++[nA wr g t])).1.1.length=R.1.length:=(fq (r:=r) ok).2;have okS:=(fq (r:=r) ok).1;have ln2:=okS.len;generalize hA:bi r (R.1,R.2++[nA wr g t])=A at so' fw lnS okS ln2
 have nr:¬ A.1.1[g]?=Y .rising:=λz=>by
  rw[<- hA] at z;have:=sh _ z;rw[hw] at this;cases this
 have wt:∀ S,wait [bh A.1,.int (g:Int)] S=Y (lz A.1 g,S):=λS=>W S A.1 g 0.0;have vo:∀ S,wo [bh A.1,.int (g:Int)] S=Y (bh (A.1.1,A.1.2.filter λe=>decide (e.g≠g)),S):=λS=>V S A.1 g 0.0;have e1:∀ S (w:Str),aH S (dj A.2) (.tup [.tup [.str w,.int (g:Int)]])=Y (dj (A.2++[⟨w,g⟩])):=λS w=>Kb (l:=[⟨w,g⟩]) 0.0 0.4;have wb:tZ (lz A.1 g) .non = !aW A.1.2 g:=by rw[oF,aap nr,Bool.false_or]
 refine⟨[.lst (A.2.map Ev.d)],?_⟩;simp![xn,g3,bH,cU,bY,g2,hi,Mn,ed,wy,ae,ga,so',g2',wt,pj,wb];unfold wY;rw[hA];dsimp only;cases hst:aW A.1.2 g with
 | false=>
  rw[aas rfl];simp![aax,ga,lD]
 | true=>
  rw[if_neg 0.1];simp![aau,my];by_cases z:t=Y 0
  ·rw[aal z,aas z];simp![vo,ga,wy,e1,lD]
  ·rw[aap z,if_neg z];simp![ga,wy,e1,lD]
theorem KG(h:ROk R){k:Ak}(hs:aW R.2 g=false):vD r k w g R.2=if k=.down\/k=.leave then xu r w R.2 else R.2:=by
 unfold vD;refine Hs ?_;split
 ·unfold xu;split
  ·unfold aW;rw[abX];refine abm ?_ hs;unfold aW
   congr 1
   funext e;show decide ((if e.wr=true then e else { e with m:=1 }).g=g)=_;cases e.wr<;>rfl
  ·exact hs
 ·exact hs
def ye(settled wait gw ww:PF):MS:=aM 1.93 (aM (cr (fI (aI (aB cJ 3.6 0e0)) (dA (au 2 gw (aa '1' (aa (bb (aa (!"rising") ak)) ak))))) (bu (bb (aa '1' (aa (bb (aa (bb (aa (!"no") 3.7)) ak)) ak)))) bq) (aM (aV (au 2 settled (aa '0' (aa (au 3 ww (aa '1' (aa '3' (aa (!"rising") ak)))) ak))) (bo 2 2.40)) (aM (cr (aI (aB AM (au 2 wait (aa '1' 3.7)) 1.9)) (bu (bb (aa '1' 5.0))) bq) (bu (bb (aa '1' (aa (aB aH '4' (bb (aa (bb (aa (!"waits") 3.7)) ak))) ak)))))))
theorem YN(O:DeOk settled wait gw ww)(hN:N.length=5)(hb:0<=r.b)(h:ROk R)(hl:R.1.length<=50)(hw:R.1[g]?=Y .reads):∃ T,aT N (ye settled wait gw ww) 3 [r.d,bh R,(Dd.act .up g).d] S=Y (lD (if r.c=0\/Wd.rising∈R.1 then(R,[⟨"no",g⟩]) else pB r R .up g .reads),S++T):=by
 have hst:aX N [r.d,bh R,(Dd.act .up g).d]=[Y r.d,Y (bh R),Y (Dd.act .up g).d,L,L]:=by simp[aX,hN,aeI]
 rw[bE (show [r.d,bh R,(Dd.act .up g).d].length=3 from rfl),hst];have hg:g<R.1.length:=(aaa.mp hw).1;have x1:aD S (Dd.act .up g).d (.int 1)=Y 0.2:=rfl;have x3:aD S r.d (.int 3)=Y (.int r.c):=rfl;have gr:gw [bh R,.tup [.str "rising"]] S=Y (nt (xC (λw=>decide (w∈[Wd.rising])) R.1),S):=O.g S R [.rising] 0.0
 have tr:GN (nt (xC (λw=>decide (w∈[Wd.rising])) R.1),S)=Y (decide (Wd.rising∈R.1),S):=by
  cases hx:xC (λw=>decide (w∈[Wd.rising])) R.1 with
  | nil=>
   have:¬ Wd.rising∈R.1:=λz=>by
    obtain⟨i,hi⟩:=acs.mp z;have:i∈xC (λw=>decide (w∈[Wd.rising])) R.1:=mem_ixW.mpr ⟨_,hi,by simp⟩;rw[hx] at this;cases this
   rw[aap this];rfl
  | cons i l=>
   have:i∈xC (λw=>decide (w∈[Wd.rising])) R.1:=by rw[hx];exact aac
   obtain⟨w,h1,h2⟩:=mem_ixW.mp this;have e:w=.rising:=by simpa using h2
   subst e;rw[aal (aaA h1)];rfl
 have ref:(r.c=0\/Wd.rising∈R.1)->∀ env,env=[Y r.d,Y (bh R),Y (Dd.act .up g).d,Y 0.2,L]->fI (aI (aB cJ 3.6 0e0)) (dA (au 2 gw (aa '1' (aa (bb (aa (!"rising") ak)) ak)))) env S=Y (true,S):=λz env he=>by
  subst he;by_cases hc:r.c=0
  ·have:(r.c==0)=true:=by rw[hc];rfl
   simp![dY,x3,lu,this,ls]
  ·have q:(r.c==0)=false:=aaX.mpr hc;simp![dY,x3,lu,q,fX,cw,wy,gr,tr,aal (z.resolve_left hc)]
 by_cases z:r.c=0\/Wd.rising∈R.1
 ·rw[aas z];refine⟨[],?_⟩;simp![ye,x1,ref z _ rfl,ga,wy,aaJ];rfl
 ·rw[if_neg z];have hc:(r.c==0)=false:=aaX.mpr λq=>z (.inl q);have hr:¬ Wd.rising∈R.1:=λq=>z (.inr q);have hs:=yo h hw 0.1;have wwo:ww [bh R,.int (g:Int),.str "rising"] S=Y (bh (R.1.set g .rising,R.2),S):=O.ww S R g .rising hg 0.0;have ok:ROk (R.1.set g .rising,R.2):=h.setW g .rising λe he=>jk hs he;have so:=O.s S r (R.1.set g .rising,R.2) hb ok 0.9;have fw:=CC (r:=r) (R:=(R.1.set g .rising,R.2)) 0.9;have lnS:(bi r (R.1.set g .rising,R.2)).1.1.length=R.1.length:=(fq (r:=r) ok).2.trans 0.4
  have ns:aW (bi r (R.1.set g .rising,R.2)).1.2 g=false:=by
   cases q:aW (bi r (R.1.set g .rising,R.2)).1.2 g with
   | false=>rfl
   | true=>have:=Bi _ q;rw[hs] at this;cases this
  have aL:pB r R .up g .reads=((bi r (R.1.set g .rising,R.2)).1,(bi r (R.1.set g .rising,R.2)).2++(if (bi r (R.1.set g .rising,R.2)).1.1[g]?=Y .rising then [⟨"waits",g⟩] else [])):=by
   unfold pB;rw[KG h hs,if_neg 0.1];rfl
  rw[aL];generalize bi r (R.1.set g .rising,R.2)=A at so fw lnS ns;have wt:∀ S,wait [bh A.1,.int (g:Int)] S=Y (lz A.1 g,S):=λS=>O.w S A.1 g 0.0;have g2:∀ (x y:D) env S,bo 2 2.40 1.50 env S=2.40 [x,y] env S:=λx y env S=>cL;have e1:∀ S (w:Str),aH S (dj A.2) (.tup [.tup [.str w,.int (g:Int)]])=Y (dj (A.2++[⟨w,g⟩])):=λS w=>Kb (l:=[⟨w,g⟩]) 0.0 0.4;have wb:tZ (lz A.1 g) .non = !decide (A.1.1[g]?=Y .rising):=by rw[oF,ns,Bool.or_false]
  refine⟨[.lst (A.2.map Ev.d)],?_⟩;simp![ye,x1,dY,x3,lu,hc,fX,cw,wy,gr,tr,aap hr,bV,wwo,so,g2,bH,cU,bY,wt,pj,wb];by_cases q:A.1.1[g]?=Y .rising
  ·rw[aal q,aas q];simp![aau,ga,wy,e1,lD]
  ·rw[aap q,if_neg q,aaJ];simp![aax,ga,lD]
def nK(sb ww tu:PF)(x y:Str):MS:=aM 1.93 (bu (au 3 sb (aa '0' (aa (au 3 ww (aa (au 3 tu (aa '0' (aa '1' 3.7))) (aa '3' (aa (mC (.str x)) ak)))) (aa (bb (aa (bb (aa (mC (.str y)) 3.7)) ak)) ak)))))
theorem EH{k:Ak}{w':Wd}{es:List En}(hg:g<R.1.length)(hk:jj k w=w')(hr:w'≠.rising)(he:vD r k w g R.2=es):pB r R k g w=((bi r (R.1.set g w',es)).1,iP k g++(bi r (R.1.set g w',es)).2):=by
 unfold pB;rw[hk,he];dsimp only;rw[if_neg,aaJ];intro z;have:=sh _ z;rw[aaL hg] at this;exact hr (aaB this)
theorem HE(SB:XA sb)(WW:∀ (S:ac) (R:Rm) (g:Nat) (w:Wd),g<R.1.length->R.1.length<=100->ww [bh R,.int (g:Int),w.d] S=Y (bh (R.1.set g w,R.2),S))(TU:TuOk tu)(hN:N.length=4)(hb:0<=r.b)(h:ROk R)(hl:R.1.length<=50){w':Wd}{k:Ak}{y:Str}(hw:R.1[g]?=Y w)(ho:w≠.out)(hk:k=.down\/k=.leave)(ht:jj k w=w')(hr:w'≠.rising)(hf:iP k g=[⟨y,g⟩]) :
  ∃ T,aT N (nK sb ww tu w'.s y) 3 [r.d,bh R,(Dd.act k g).d] S=Y (lD (pB r R k g w),S++T):=by
 have hst:aX N [r.d,bh R,(Dd.act k g).d]=[Y r.d,Y (bh R),Y (Dd.act k g).d,L]:=by simp[aX,hN,aeI]
 rw[bE (show [r.d,bh R,(Dd.act k g).d].length=3 from rfl),hst];have hg:g<R.1.length:=(aaa.mp hw).1;have hle:=h.len;have hs:=yo h hw ho;have he:vD r k w g R.2=xu r w R.2:=by rw[KG h hs,aas hk]
 rw[EH hg ht hr he,hf];have x1:aD S (Dd.act k g).d (.int 1)=Y 0.2:=rfl;have t1:=TU S r R g w hw 0.0;have w1:ww [bh 2.09,.int (g:Int),.str w'.s] S=Y (bh (R.1.set g w',xu r w R.2),S):=WW S 2.09 g w' hg (by show R.1.length<=100;omega);have ok:ROk (R.1.set g w',xu r w R.2):=by rw[<- he];exact xJ h _
 obtain⟨T,s1⟩:=SB S r (R.1.set g w',xu r w R.2) [⟨y,g⟩] hb ok 0.9 0.4;refine⟨T,?_⟩;have s1':sb [r.d,bh (R.1.set g w',xu r w R.2),.tup [.tup [.str y,.int (g:Int)]]] S=_:=s1;simp![nK,x1,bV,t1,w1,ga,wy,s1']
def pL(sb ww wo wait:PF):MS:=aM 1.93 (aM (cr (aI (aB cJ (au 2 wait (aa '1' 3.7)) (!"up"))) (aV (au 3 ww (aa '1' (aa '3' (aa (!"reads") ak)))) 'd') (aV (au 2 wo (aa '1' 3.7)) 'd')) (bu (au 3 sb (aa '0' (aa '4' (aa (bb (aa (bb (aa (!"ends") 3.7)) ak)) ak))))))
theorem KO:cJ S (lz R g) (.str "up")=Y (.bl (decide (R.1[g]?=Y .rising))):=by
 unfold lz;by_cases h:R.1[g]?=Y .rising
 ·rw[aas h,aal h,dC];rfl
 ·rw[if_neg h,aap h];cases R.2.find? λe=>decide (e.g=g) with
  | none=>rw[nw rfl rfl];rfl
  | some e=>
   show cJ S 4.9 (.str "up")=_;rw[dC];cases e.wr<;>rfl
theorem Po(SB:XA sb)(WW:∀ (S:ac) (R:Rm) (g:Nat) (w:Wd),g<R.1.length->R.1.length<=100->ww [bh R,.int (g:Int),w.d] S=Y (bh (R.1.set g w,R.2),S))(V:qbS wo)(W:vE wait)(hN:N.length=5)(hb:0<=r.b)(h:ROk R)(hl:R.1.length<=50)(hw:R.1[g]?=Y w)(hc:iD R (.act .stop g)=true) :
  ∃ T,aT N (pL sb ww wo wait) 3 [r.d,bh R,(Dd.act .stop g).d] S=Y (lD (pB r R .stop g w),S++T):=by
 have hst:aX N [r.d,bh R,(Dd.act .stop g).d]=[Y r.d,Y (bh R),Y (Dd.act .stop g).d,L,L]:=by simp[aX,hN,aeI]
 rw[bE (show [r.d,bh R,(Dd.act .stop g).d].length=3 from rfl),hst];have hg:g<R.1.length:=(aaa.mp hw).1;have hle:=h.len;have x1:aD S (Dd.act .stop g).d (.int 1)=Y 0.2:=rfl;have wt:wait [bh R,.int (g:Int)] S=Y (lz R g,S):=W S R g 0.0
 have fin:∀ R':Rm,ROk R'->R'.1.length=R.1.length->pB r R .stop g w=((bi r R').1,iP .stop g++(bi r R').2)->∃ T,sb [r.d,bh R',.tup [.tup [.str "ends",.int (g:Int)]]] S=Y (lD (pB r R .stop g w),S++T):=λR' ok hl' ha=>by
  obtain⟨T,s1⟩:=SB S r R' [⟨"ends",g⟩] hb ok 0.0 0.4;refine⟨T,?_⟩;rw[ha];exact s1
 by_cases hr:w=.rising
 ·subst hr;have hs:=yo h hw 0.1;have he:vD r .stop .rising g R.2=R.2:=by rw[KG h hs,if_neg 0.1]
  have w1:ww [bh R,.int (g:Int),.str "reads"] S=Y (bh (R.1.set g .reads,R.2),S):=WW S R g .reads hg 0.0;obtain⟨T,s1⟩:=fin (R.1.set g .reads,R.2) (h.setW g .reads λe q=>jk hs q) 0.4 (EH hg rfl 0.1 he);refine⟨T,?_⟩;simp![pL,x1,wt,KO,aal hw,bV,w1,ga,wy,s1]
 ·have ho:w=.out:=by
   unfold iD at hc;rw[acE] at hc;rcases hc with q | q
   ·obtain⟨e,he,hge⟩:=aaS.mp q;have:=h.out e he;rw[aaU hge,hw] at this;exact aaB this
   ·have:=aaU q;rw[hw] at this;exact absurd (aaB this) hr
  subst ho;have hn:¬ R.1[g]?=Y .rising:=by rw[hw];intro z;cases z
  have v1:wo [bh R,.int (g:Int)] S=Y (bh (R.1,R.2.filter λe=>decide (e.g≠g)),S):=V S R g 0.0
  have hset:R.1.set g .out=R.1:=by
   obtain⟨q,e⟩:=aaa.mp hw;rw[<- e];exact List.set_getElem_self q
  have ha:=EH (r:=r) (R:=R) (g:=g) (k:=.stop) (w:=.out) (w':=.out) (es:=R.2.filter λe=>decide (e.g≠g)) hg rfl 0.1 (by unfold vD;rw[if_neg 0.1]);rw[hset] at ha;obtain⟨T,s1⟩:=fin (R.1,R.2.filter λe=>decide (e.g≠g)) (ROk.filter h _) rfl ha;refine⟨T,?_⟩;simp![pL,x1,wt,KO,aap hn,v1,ga,wy,bV,s1]
def pN:MS:=bu (qa (aI (aB AM '0' 1.9)) 1.9 (aB pz '0' 1e0))
theorem QY(hN:N.length=1):aT N pN 1 [bW t] S=Y (bW (t.map (· - 1)),S):=by
 have hst:aX N [bW t]=[Y (bW t)]:=by simp[aX,hN]
 rw[bE (show [bW t].length=1 from rfl),hst];cases t with
 | none=>
  have i1:tZ (bW L) .non=true:=rfl;simp![pN,ph,pj,i1,BG];rfl
 | some t=>
  have i1:tZ (bW (Y t)) .non=false:=rfl;have s1:pz S (bW (Y t)) (.int 1)=Y (bW (Y (t - 1))):=qp;simp![pN,ph,pj,i1,LC,s1];rfl
def tkA(ol:PF):ME:=bZ (di '4') (bo 4 (ag '`' (ag 'a' 1.8))) bK (bb (aa '0' (aa '1' (aa '2' (aa (au 1 ol 3.7) ak))))) [L,L,L,L]
def tkB:ME:=bZ (di '5') '`' (aI (aB cJ 3.6 0e0)) (bb (aa (!"ends") (aa 1.0 ak))) [L]
def tkC:ME:=bZ (di '5') '`' (aI (aB jx 3.6 0e0)) '0' [L]
def sY(sb ol:PF):MS:=aM (aV '1' (bo 2 1.3)) (aM (aV (tkA ol) 'e') (aM (aV (bG 3.2 (aa tkB ak)) 'f') (aM (aV (bG 3.2 (aa tkC ak)) 'g') (bu (au 3 sb (aa '0' (aa (bb (aa '3' (aa '7' ak))) 1.03)))))))
theorem Pd(SB:XA sb)(L4:∀ (S:ac) (t:Option Int),ol [bW t] S=Y (bW (t.map (· - 1)),S))(hN:N.length=8)(hb:0<=r.b)(h:ROk R)(hl:R.1.length<=50):∃ T,aT N (sY sb ol) 3 [r.d,bh R,Dd.tick.d] S=Y (lD (rH r R),S++T):=by
 have hst:aX N [r.d,bh R,Dd.tick.d]=[Y r.d,Y (bh R),Y Dd.tick.d,L,L,L,L,L]:=by simp[aX,hN,aeI]
 rw[bE (show [r.d,bh R,Dd.tick.d].length=3 from rfl),hst];have hle:=h.len;have g2:∀ env S,bo 2 1.3 (bh R) env S=1.3 [dm R.1,esD R.2] env S:=λenv S=>cL
 have a:=Rf (S:=S) (es:=R.2) (cap:=[L,L,L,L]) (env:=[Y r.d,Y (bh R),Y Dd.tick.d,Y (dm R.1),Y 4.6,L,L,L]) (a:=L) (b:=L) (c:=L) (d:=L) (e:=bb (aa '0' (aa '1' (aa '2' (aa (au 1 ol 3.7) ak))))) (f:=λx=>(iQ x).d) rfl 0.0 λx=>by
  simp![jq,L4,Mn];rfl
 have b:=ip (S:=S) (t:=aI (aB cJ 3.6 0e0)) (e:=bb (aa (!"ends") (aa 1.0 ak))) (cap:=[L]) (env:=[Y r.d,Y (bh R),Y Dd.tick.d,Y (dm R.1),Y 4.6,Y (.lst ((R.2.map iQ).map En.d)),L,L]) (rest:=[]) (a:=L) (enc:=En.d) (p:=λe=>decide (e.t=Y 0)) (f:=λe=>Ev.d ⟨"ends",e.g⟩) (xs:=R.2.map iQ) rfl 3.0 (λe z=>by
  have x3:aD S e.d (.int 3)=Y (bW e.t):=rfl;simp![x3,my]) (λe z z=>by
  simp![En.ix0,ga];rfl)
 have c:=ip (S:=S) (t:=aI (aB jx 3.6 0e0)) (e:=af 0) (cap:=[L]) (env:=[Y r.d,Y (bh R),Y Dd.tick.d,Y (dm R.1),Y 4.6,Y (.lst ((R.2.map iQ).map En.d)),Y (dj (((R.2.map iQ).filter λe=>decide (e.t=Y 0)).map λe=>⟨"ends",e.g⟩)),L]) (rest:=[]) (a:=L) (enc:=En.d) (p:=λe=>decide (e.t≠Y 0)) (f:=En.d) (xs:=R.2.map iQ) rfl 3.0 (λe z=>by
  have x3:aD S e.d (.int 3)=Y (bW e.t):=rfl
  simp![x3,Hv,ne_eq,decide_not]) (λe z z=>by simp only[ai,bJ,oj,ob,ah])
 have ma:(R.2.map λx=>(iQ x).d)=(R.2.map iQ).map En.d:=by rw[abh];rfl
 rw[ma] at a;have it:∀ l:List D,GR (.lst l,S)=Y (l,S):=λl=>sB
 have sb1:aS 5.3 [.lst (((R.2.map iQ).filter λe=>decide (e.t=Y 0)).map λe=>Ev.d ⟨"ends",e.g⟩)] S=Y (dj (((R.2.map iQ).filter λe=>decide (e.t=Y 0)).map λe=>⟨"ends",e.g⟩),S):=by
  rw[ii];unfold dj;rw[abh];rfl
 have sc1:aS 5.3 [.lst (((R.2.map iQ).filter λe=>decide (e.t≠Y 0)).map En.d)] S=Y (esD ((R.2.map iQ).filter λe=>decide (e.t≠Y 0)),S):=ii
 obtain⟨T,s1⟩:=SB S r (R.1,(R.2.map iQ).filter λe=>decide (e.t≠Y 0)) (((R.2.map iQ).filter λ(e:En)=>decide (e.t=Y 0)).map λ(e:En)=>Ev.mk "ends" e.g) hb (ROk.filter (ROk.mapE h iQ λe=>rfl) _) hl (by
  rw[aai];exact aaF (abu _ _) 3.0)
 refine⟨T,?_⟩;have s1':sb [r.d,.tup [dm R.1,esD ((R.2.map iQ).filter λe=>decide (e.t≠Y 0))],dj (((R.2.map iQ).filter λe=>decide (e.t=Y 0)).map λe=>⟨"ends",e.g⟩)] S=Y (lD (rH r R),S++T):=s1;simp![sY,g2,bH,cU,bY,tkA,ci,db,fF,a,bT,tkB,it,b,bU,sb1,tkC,c,sc1,ga,bV,s1']
structure BrOk(ask up down leave stop tick:PF):Prop where
 a:∀ (S:ac) (r:Rl) (R:Rm) (wr:Bool) (g:Nat) (t:Option Int),0<=r.b->ROk R->R.1.length<=50->R.1[g]?=Y .out->aW R.2 g=false->∃ T,ask [r.d,bh R,(Dd.ask wr g t).d] S=Y (lD (wY r R wr g t),S++T)
 u:∀ (S:ac) (r:Rl) (R:Rm) (g:Nat),0<=r.b->ROk R->R.1.length<=50->R.1[g]?=Y .reads->∃ T,up [r.d,bh R,(Dd.act .up g).d] S=Y (lD (if r.c=0\/Wd.rising∈R.1 then(R,[⟨"no",g⟩]) else pB r R .up g .reads),S++T)
 d:∀ (S:ac) (r:Rl) (R:Rm) (g:Nat) (w:Wd),0<=r.b->ROk R->R.1.length<=50->R.1[g]?=Y w->w≠.out->∃ T,down [r.d,bh R,(Dd.act .down g).d] S=Y (lD (pB r R .down g w),S++T)
 l:∀ (S:ac) (r:Rl) (R:Rm) (g:Nat) (w:Wd),0<=r.b->ROk R->R.1.length<=50->R.1[g]?=Y w->w≠.out->∃ T,leave [r.d,bh R,(Dd.act .leave g).d] S=Y (lD (pB r R .leave g w),S++T)
 s:∀ (S:ac) (r:Rl) (R:Rm) (g:Nat) (w:Wd),0<=r.b->ROk R->R.1.length<=50->R.1[g]?=Y w->iD R (.act .stop g)=true->∃ T,stop [r.d,bh R,(Dd.act .stop g).d] S=Y (lD (pB r R .stop g w),S++T)
 t:∀ (S:ac) (r:Rl) (R:Rm),0<=r.b->ROk R->R.1.length<=50->∃ T,tick [r.d,bh R,Dd.tick.d] S=Y (lD (rH r R),S++T)
def brL(ask up down leave stop tick:PF):List (cj×Nat×PF):=[(.inr "read",3,ask),(.inr "write",3,ask),(.inr "up",3,up),(.inr "down",3,down),(.inr "leave",3,leave),(.inr "stop",3,stop),(.inr "tick",3,tick)]
def pO(l:List (cj×Nat×PF)):MS:=kK l 3 1.70 (aa '0' (aa '1' 4.2))
theorem mB{l:List (cj×Nat×PF)}{f:PF}{x y z d:D}{w:Str}(hN:N.length=4)(hx:aD S z (.int 0)=Y (.str w))(hv:ES l (.inr w)=Y (3,f)){S':ac}(hf:f [x,y,z] S=Y (d,S')):aT N (pO l) 3 [x,y,z] S=Y (d,S'):=by
 refine abm (mP (env:=[Y x,Y y,Y z,L]) hN rfl rfl) ?_;have kd:=λms env=>Rp (S:=S) (d:=.str w) (ms:=ms) (env:=env) (i:=3) (l:=l) DV hv;have k3:Eb 3 f ([x,y,z],S)=(f [x,y,z] S).bind kRt:=NC rfl;simp![pO,VD,hx,kd,k3,hf]
theorem MW{ask up:PF}(B:BrOk ask up down leave stop tick)(hN:N.length=4){dd:Dd}(hb:0<=r.b)(h:ROk R)(hl:R.1.length<=50)(hd:dd.Ok R.1.length)(hx:dh r R dd=Y x):∃ T,aT N (pO (brL ask up down leave stop tick)) 3 [r.d,bh R,dd.d] S=Y (lD x,S++T):=by
 unfold dh at hx;split at hx
 ·cases hx
 rename_i hcan;rw[Bool.not_eq_false] at hcan;split at hx
 ·cases hx;obtain⟨T,e⟩:=B.t S r R hb h hl;exact⟨T,mB (w:="tick") hN rfl (by rfl) e⟩
 ·rename_i wr g t;cases hx;unfold iD at hcan;rw[aad] at hcan;obtain⟨T,e⟩:=B.a S r R wr g t hb h hl (aaU hcan.1) (by simpa using hcan.2);refine⟨T,?_⟩;cases wr
  ·exact mB (w:="read") hN rfl (by rfl) e
  ·exact mB (w:="write") hN rfl (by rfl) e
 ·rename_i k g;have hg:g<R.1.length:=hd;obtain⟨w,hw⟩:∃ w,R.1[g]?=Y w:=⟨_,aae hg⟩
  rw[hw] at hx;dsimp only at hx;cases k with
  | up=>
   have hr:R.1[g]?=Y .reads:=aaU hcan;rw[hw] at hr;cases hr;obtain⟨T,e⟩:=B.u S r R g hb h hl hw;refine⟨T,mB (w:="up") hN rfl (by rfl) ?_⟩;rw[e];by_cases z:r.c=0\/Wd.rising∈R.1
   ·rw[aas ⟨rfl,z⟩] at hx;cases hx;rw[aas z]
   ·rw[if_neg (λq=>z q.2)] at hx;cases hx;rw[if_neg z]
  | down=>
   rw[if_neg (λq=>by cases q.1)] at hx;cases hx
   have ho:w≠.out:=λz=>by
    subst z;have hc2:(decide (R.1[g]?=Y Wd.writes)||decide (R.1[g]?=Y Wd.raised))=true:=hcan;rw[hw] at hc2;revert hc2;decide
   obtain⟨T,e⟩:=B.d S r R g w hb h hl hw ho;exact⟨T,mB (w:="down") hN rfl (by rfl) e⟩
  | leave=>
   rw[if_neg (λq=>by cases q.1)] at hx;cases hx
   have ho:w≠.out:=λz=>by
    subst z;exact(aaU hcan) hw
   obtain⟨T,e⟩:=B.l S r R g w hb h hl hw ho;exact⟨T,mB (w:="leave") hN rfl (by rfl) e⟩
  | stop=>
   rw[if_neg (λq=>by cases q.1)] at hx;cases hx;obtain⟨T,e⟩:=B.s S r R g w hb h hl hw hcan;exact⟨T,mB (w:="stop") hN rfl (by rfl) e⟩
end
section
variable{S:ac}{N:List Str}{r:Rl}{R:Rm}{n:Nat}{dd:Dd}
def YF(f:PF):Prop:=∀ (S:ac) (xs:List D) (k:Int),f [.tup xs,.int k] S=Y (.bl (decide ((xs.length:Int)=k)),S)
def yd:MS:=bu (eh (iw "str" '0') 9.9)
def Ua(f:PF):Prop:=∀ (S:ac) (x:Str) (ys:List Str),x∈ys->f [.str x,.tup 1.59] S=Y 2.9
theorem OU(hN:N.length=2){x:Str}{ys:List Str}(h:x∈ys):aT N yd 2 [.str x,.tup 1.59] S=Y 2.9:=by
 have hst:aX N [D.str x,D.tup 1.59]=[Y (.str x),Y (.tup 1.59)]:=by simp[aX,hN]
 rw[bE (show [D.str x,D.tup 1.59].length=2 from rfl),hst];have it:og "str" S (.str x)=Y 4.3:=rfl
 have fi:nv S (.str x) (.tup 1.59)=Y 4.3:=by
  rw[jy (ys:=ys.map .str) rfl rfl (by rw[aan];intro d hd;obtain⟨y,z,rfl⟩:=aaE.mp hd;rfl)];have:((ys.map D.str).any λd=>iK d (.str x))=true:=aaS.mpr ⟨.str x,aaE.mpr ⟨x,h,rfl⟩,by show(x==x)=true;simp⟩;rw[this]
 simp![yd,ez,gj,gq,it,kj,fi]
def YJ(f:PF):Prop:=∀ (S:ac) (i lo hi:Int),f [.int i,.int lo,.int hi] S=Y (.bl (decide (lo<=i)&&decide (i<=hi)),S)
def pP(tof word bet:PF):MS:=aM (cr (dA (au 2 tof (aa '1' (aa 1e0 ak)))) (bu (au 2 word (aa 4.1 (aa (bb (aa (!"tick") ak)) ak)))) bq) (aM (cr (dA (au 2 tof (aa '1' (aa 2e0 ak)))) (bu (eh (au 2 word (aa 4.1 (aa (mC (.tup [.str "up",.str "down",.str "leave",.str "stop"])) ak))) (au 3 bet (aa 4.7 6.8)))) bq) (aM (cr (cS (dA (au 2 tof (aa '1' (aa 3e0 ak))))) (bu (mC 1.6)) bq) (aM (aV '1' (bo 3 (ag 'b' 1.3))) (bu (eh (au 2 word (aa '2' (aa (mC (.tup [.str "read",.str "write"])) ak))) (eh (au 3 bet (aa '3' 6.8)) (wQ (aB AM '4' 1.9) (au 3 bet (aa '4' (aa 0e0 (aa 9e0 ak)))))))))))
theorem On(T:YF tof)(W:Ua word)(B:YJ bet)(hN:N.length=5)(hd:dd.Ok n):aT N (pP tof word bet) 2 [.int (n:Int),dd.d] S=Y 2.9:=by
 refine abm (mP (env:=[Y 0.5,Y dd.d,L,L,L]) hN rfl rfl) ?_;cases dd with
 | tick=>
  have t1:tof [Dd.tick.d,.int 1] S=Y 2.9:=T S [.str "tick"] 1;have x0:aD S Dd.tick.d (.int 0)=Y (.str "tick"):=rfl;have k1:cI ([.str "tick"],S)=Y (.tup [.str "tick"],S):=aY 0.4;have w1:word [.str "tick",.tup [.str "tick"]] S=Y 2.9:=W S "tick" ["tick"] 0.4;simp![pP,cw,t1,cC,x0,k1,w1]
 | act k g=>
  have hg:g<n:=hd;have t1:tof [(Dd.act k g).d,.int 1] S=Y 2.5:=T S [.str k.s,.int (g:Int)] 1;have t2:tof [(Dd.act k g).d,.int 2] S=Y 2.9:=T S [.str k.s,.int (g:Int)] 2;have x0:aD S (Dd.act k g).d (.int 0)=Y 6.2:=rfl;have x1:aD S (Dd.act k g).d (.int 1)=Y 0.2:=rfl;have w1:word [.str k.s,.tup [.str "up",.str "down",.str "leave",.str "stop"]] S=Y 2.9:=W S k.s ["up","down","leave","stop"] (by cases k<;>simp[Ak.s])
  have b1:bet [.int (g:Int),.int 0,.int ((n:Int) - 1)] S=Y 2.9:=by
   rw[B];congr 3;rw[aal 0.0,aal 0.0];rfl
  simp![pP,cw,t1,cC,t2,ez,x0,w1,kj,x1,qp,bV,b1]
 | ask wr g t=>
  have hg:g<n:=hd.1;have t1:tof [(Dd.ask wr g t).d,.int 1] S=Y 2.5:=T S [.str (bI wr),.int (g:Int),bW t] 1;have t2:tof [(Dd.ask wr g t).d,.int 2] S=Y 2.5:=T S [.str (bI wr),.int (g:Int),bW t] 2;have t3:tof [(Dd.ask wr g t).d,.int 3] S=Y 2.9:=T S [.str (bI wr),.int (g:Int),bW t] 3;have g3:∀ env S,bo 3 (ag 'b' 1.3) (Dd.ask wr g t).d env S=(ag 'b' 1.3) [.str (bI wr),.int (g:Int),bW t] env S:=λenv S=>qT;have w1:word [.str (bI wr),.tup [.str "read",.str "write"]] S=Y 2.9:=W S (bI wr) ["read","write"] (by cases wr<;>simp[bI])
  have b1:bet [.int (g:Int),.int 0,.int ((n:Int) - 1)] S=Y 2.9:=by
   rw[B];congr 3;rw[aal 0.0,aal 0.0];rfl
  simp![pP,cw,t1,cC,t2,cx,t3,cy,aau,g3,bH,cU,bY,ez,w1,kj,qp,bV,b1,Gq,pj];cases t with
  | none=>
   have i1:tZ (bW L) .non=true:=rfl;simp only[i1,LB,ob,ba,az]
  | some t=>
   have i1:tZ (bW (Y t)) .non=false:=rfl;obtain⟨l0,l9⟩:=hd.2 t rfl
   have b2:bet [bW (Y t),.int 0,.int 9] S=Y 2.9:=by
    rw[show bW (Y t)=.int t from rfl,B];congr 3;rw[aal l0,aal l9];rfl
   simp![i1,Rj,bV,b2]
theorem Ce(h:dh r R dd=Y x):iD R dd=true:=by
 unfold dh at h;split at h
 ·cases h
 ·rename_i q;rw[Bool.not_eq_false] at q;exact q
theorem Kz(hN:N.length=5):aT N (qL wait) 2 [bh R,Dd.tick.d] S=Y 2.9:=by
 refine abm (mP (env:=[Y (bh R),Y Dd.tick.d,L,L,L]) hN rfl rfl) ?_;have x0:aD S Dd.tick.d (.int 0)=Y (.str "tick"):=rfl;have tk:cJ S (.str "tick") (.str "tick")=Y 4.3:=by rw[dC];rfl
 simp![qL,x0,tk]
theorem vy(h:ROk R)(hl:R.1.length<=5)(hx:dh r R dd=Y x):x.2.length<=15:=by
 have hle:=h.len;have sf:∀ R':Rm,R'.1.length=R.1.length->(bi r R').2.length<=10:=λR' q=>aaF (qI _) 0.0;unfold dh at hx;split at hx
 ·cases hx
 rename_i hcan;split at hx
 ·cases hx;have:=sf (R.1,(R.2.map iQ).filter λe=>decide (e.t≠Y 0)) rfl;have q:((R.2.map iQ).filter λe=>decide (e.t=Y 0)).length<=R.2.length:=aaF (abu _ _) 0.4;unfold rH;dsimp only;rw[aaj,aai];omega
 ·rename_i wr g t;cases hx;have:=sf (R.1,R.2++[nA wr g t]) rfl;unfold wY;dsimp only;split
  ·omega
  ·split
   ·rw[aaj,aaZ];omega
   ·rw[aaj,aaZ];omega
 ·rename_i k g;split at hx
  ·cases hx;simp
  ·split at hx
   ·rename_i w hw;cases hx;have:=sf (R.1.set g (jj k w),vD r k w g R.2) 0.4;have f1:(iP k g).length<=1:=by cases k<;>simp[iP]
    unfold pB;dsimp only;rw[aaj,aaj];split
    ·rw[aaZ];omega
    ·rw[abk];omega
   ·cases hx
end
noncomputable abbrev Rs:=List (Rm×List Ev)
inductive Ws(r:Rl):Rm->List Dd->Rs->Prop
 | nil {R:Rm}:Ws r R [] []
 | cons {R:Rm} {d:Dd} {x:Rm×List Ev} {l:List Dd} {xs:Rs} (h:dh r R d=Y x) (t:Ws r x.1 l xs):Ws r R (d::l) (x::xs)
def dG:Rm->Rs->Rm
 | R,[]=>R
 | _,x::xs=>dG x.1 xs
def sS:Rm->Rs->List (Rm×Rm×List Ev)
 | _,[]=>[]
 | R,x::xs=>(R,x.1,x.2)::sS x.1 xs
def vH(z:Rm×Rm×List Ev):D:=.tup [bh z.1,bh z.2.1,dj z.2.2]
section
variable{r:Rl}{R:Rm}{l:List Dd}{xs:Rs}{n:Nat}
theorem Ws.len(h:Ws r R l xs):xs.length=l.length:=by
 induction h with
 | nil=>rfl
 | cons _ _ ih=>rw[aam,aam,ih]
theorem Ws.snoc(h:Ws r R l xs){d:Dd}(hx:dh r (dG R xs) d=Y x):Ws r R (l++[d]) (xs++[x])/\dG R (xs++[x])=x.1:=by
 induction h with
 | nil=>exact⟨.cons hx .nil,rfl⟩
 | cons q t ih=>exact⟨.cons q (ih hx).1,(ih hx).2⟩
theorem Ws.take(h:Ws r R l xs):∀ c:Nat,Ws r R (l.take c) (xs.take c):=by
 induction h with
 | nil=>intro c;rw[adP,adP];exact .nil
 | cons q t ih=>
  intro c;cases c with
  | zero=>exact .nil
  | succ c=>exact .cons q (ih c)
theorem Behind.ws(h:Behind r n l R):(∃ xs,Ws r (cz n) l xs/\dG (cz n) xs=R)/\∀ d∈l,d.Ok n:=by
 induction h with
 | nil=>exact⟨⟨[],.nil,rfl⟩,λd z=>by cases z⟩
 | snoc h hd e ih=>
  obtain⟨⟨xs,w,q⟩,o⟩:=ih;rw[<- q] at e;obtain⟨w',q'⟩:=w.snoc e;refine⟨⟨_,w',q'⟩,λd hd'=>?_⟩;rcases aar.mp hd' with z | z
  ·exact o d z
  ·rw[aav.mp z];exact hd
theorem Ws.ok(h:Ws r R l xs):ROk R->ROk (dG R xs)/\(dG R xs).1.length=R.1.length:=by
 induction h with
 | nil=>exact λh=>⟨h,rfl⟩
 | cons q t ih=>exact λh=>⟨(ih (fL h q).1).1,(ih (fL h q).1).2.trans (fL h q).2⟩
theorem Ws.few(h:Ws r R l xs):ROk R->R.1.length<=5->∀ x∈xs,x.2.length<=100:=by
 induction h with
 | nil=>exact λw w x z=>by cases z
 | cons q t ih=>
  intro h h5 x hx;rcases aaG.mp hx with rfl | hx
  ·exact aaF (vy h h5 q) 0.1
  ·exact ih (fL h q).1 (by rw[(fL h q).2];exact h5) x hx
end
def uQ:MS:=bu (bb (aa (aB dg (bb (aa (!"out") ak)) '0') 2.22))
theorem SE{n:Nat}(h5:n<=5)(hv:af i env S=Y (.int (n:Int),S)):bb (aa (aB dg (bb (aa (!"out") ak)) (af i)) 2.22) env S=Y (bh (cz n),S):=by
 have k0:cI ([],S)=Y (.tup [],S):=aY 0.4
 have m:dg S (.tup [.str "out"]) 0.5=Y (dm (aeI n .out)):=by
  rw[Wo 0.0 0.0 (by rw[abp,aaZ];omega),abp,Hr];simp[dm,Wd.d,Wd.s]
 simp only[bv,ar,aF,be,ob,aq,ay,ao,wy,aw,hv,av,m,ah,k0,ga];rfl
theorem Og{N:List Str}(hN:N.length=1){n:Nat}(h5:n<=5):aT N uQ 1 [.int (n:Int)] S=Y (bh (cz n),S):=by
 have hst:aX N [D.int (n:Int)]=[Y 0.5]:=by simp[aX,hN]
 rw[bE (show [D.int (n:Int)].length=1 from rfl),hst];have e:=SE (S:=S) (n:=n) (i:=0) (env:=[Y 0.5]) h5 (by simp only[ai,bJ,oj,ob,ah]);rw[uQ,aJ,e];simp only[ob,ba,az]
def Kp(q:Nat)(S S':ac):Prop:=∀ i,i≠q->i<S.length->S'[i]?=S[i]?/\i<S'.length
theorem Kp.trans(a:Kp q S S1)(b:Kp q S1 S2):Kp q S S2:=λi h h'=>⟨(b i h (a i h h').2).1.trans (a i h h').1,(b i h (a i h h').2).2⟩
section
variable{r:Rl}{n q:Nat}{deed can done emp:PF}
theorem xj:∀ (R:Rm) (xs:Rs),(sS R xs).length=xs.length
 | _,[]=>rfl
 | R,x::xs=>by rw[sS,aam,xj x.1 xs,aam]
theorem EU:∀ (R:Rm) (xs:Rs),xs≠[]->∃ R0 e,(sS R xs)[xs.length - 1]?=Y (R0,dG R xs,e)
 | _,[],h=>absurd rfl h
 | R,[x],_=>⟨R,x.2,rfl⟩
 | R,x::y::xs,_=>by
  obtain⟨R0,e,h⟩:=EU x.1 (y::xs) 0.4;exact⟨R0,e,by rw[sS];simpa[dG] using h⟩
end
def rB:Str:="in"
def goW(wr:Bool):Wd:=if wr then .writes else .reads
section
variable{r:Rl}{R:Rm}
theorem Pw{g:Nat}(h:ROk R)(hw:R.1[g]?=Y w)(hn:w≠.out)(hr:w≠.rising):(mO r R).1.1[g]?=Y w:=by
 unfold mO;split
 ·rename_i g' l hg;have h1:=pd (ws:=R.1) (g:=g') (by rw[hg];exact aac);show(R.1.set g' .raised)[g]?=_;rw[aaC (λz=>by rw[z,hw] at h1;exact hr (aaB h1))];exact hw
 ·split
  ·split
   ·rename_i e he;have h1:=h.out e (aaA he);show(R.1.set e.g _)[g]?=_;rw[aaC (λz=>by rw[z,hw] at h1;exact hn (aaB h1))];exact hw
   ·exact hw
  ·exact hw
theorem Zd(h:ROk R){e:Ev}(he:e∈(mO r R).2)(hi:(e.w==rB)=true):∃ x∈R.2,x.g=e.g/\(mO r R).1.1[e.g]?=Y (goW x.wr):=by
 unfold mO at he ⊢;split
 ·rename_i g' l hg;rw[hg] at he;rw[aav.mp he] at hi;exact absurd hi (show ¬ (("steps":Str)==rB)=true by decide +kernel)
 ·rename_i hg;rw[hg] at he;dsimp only at he;split
  ·rename_i i l hs;rw[hs] at he;dsimp only at he;split
   ·rename_i x hx;rw[hx] at he;rw[aav.mp he];have hm:=aaA hx;refine⟨x,hm,rfl,?_⟩;show(R.1.set x.g _)[x.g]?=_;rw[aaL (h.lt hm)];rfl
   ·rename_i hx;rw[hx] at he;cases he
  ·rename_i hs;rw[hs] at he;cases he
theorem UA{y:En}(hy:y∈(mO r R).1.2):∃ x∈R.2,x.g=y.g/\x.wr=y.wr:=by
 unfold mO at hy;split at hy
 ·exact⟨y,hy,rfl,rfl⟩
 ·split at hy
  ·split at hy
   ·rcases aar.mp hy with z | z
    ·obtain⟨x,hx,rfl⟩:=aaE.mp z;exact⟨x,abb hx,rfl,rfl⟩
    ·exact⟨y,acy z,rfl,rfl⟩
   ·exact⟨y,hy,rfl,rfl⟩
  ·exact⟨y,hy,rfl,rfl⟩
theorem Ff{g:Nat}{w:Wd}(hn:w≠.out)(hr:w≠.rising):∀ (n:Nat) {R:Rm},ROk R->R.1[g]?=Y w->(vJ r n R).1.1[g]?=Y w
 | 0,R,_,hw=>hw
 | n+1,R,h,hw=>Ff hn hr n (R:=(mO r R).1) (uK h).1 (Pw h hw hn hr)
theorem JS(wr:Bool):goW wr≠.out/\goW wr≠.rising:=by cases wr<;>exact⟨by decide,by decide⟩
theorem Iw:∀ (n:Nat) {R:Rm},ROk R->∀ {e:Ev},e∈(vJ r n R).2->(e.w==rB)=true->∃ x∈R.2,x.g=e.g/\(vJ r n R).1.1[e.g]?=Y (goW x.wr)
 | 0,R,_,e,he,_=>by cases he
 | n+1,R,h,e,he,hi=>by
  rcases aar.mp he with z | z
  ·obtain⟨x,hx,hg,hw⟩:=Zd h z hi;exact⟨x,hx,hg,Ff (JS _).1 (JS _).2 n (R:=(mO r R).1) (uK h).1 hw⟩
  ·obtain⟨x,hx,hg,hw⟩:=Iw n (R:=(mO r R).1) (uK h).1 z hi;obtain⟨y,hy,e1,e2⟩:=UA hx;exact⟨y,hy,e1.trans hg,by rw[e2];exact hw⟩
def AX(R:Rm)(d:Dd)(g:Nat):Str:=match R.2.find? λe=>decide (e.g=g) with
 | some e=>bI e.wr
 | none=>dS d
theorem LJ:∀ {es:List En},(es.map (·.g)).Nodup->∀ {x:En},x∈es->es.find? (λe=>decide (e.g=x.g))=Y x
 | y::es,hn,x,hx=>by
  rw[aah,abH] at hn;rw[abl];rcases aaG.mp hx with rfl | hx
  ·rw[aal rfl]
  ·rw[aap (λz=>hn.1 (aaE.mpr ⟨x,hx,z.symm⟩))];exact LJ hn.2 hx
theorem AW{d:Dd}{g:Nat}{x:En}(h:ROk R)(hx:x∈R.2)(hg:x.g=g):AX R d g=bI x.wr:=by
 subst hg;unfold AX;rw[LJ h.nd hx]
theorem WP{d:Dd}(h:ROk R)(hx:dh r R d=Y x){e:Ev}(he:e∈x.2)(hi:(e.w==rB)=true):∃ wr,x.1.1[e.g]?=Y (goW wr)/\AX R d e.g=bI wr:=by
 have base:∀ R':Rm,ROk R'->(∀ y∈R'.2,∃ x∈R.2,x.g=y.g/\x.wr=y.wr)->e∈(bi r R').2->∃ wr,(bi r R').1.1[e.g]?=Y (goW wr)/\AX R d e.g=bI wr:=λR' h' hm he=>by
  obtain⟨y,hy,hg,hw⟩:=Iw _ h' he hi;obtain⟨z,hz,e1,e2⟩:=hm y hy;exact⟨y.wr,hw,by rw[AW h hz (e1.trans hg),e2]⟩
 have no:∀ {w:Str} {g:Nat},(w==rB)=false->e=⟨w,g⟩->False:=λhw z=>by rw[z] at hi;rw[show((⟨_,_⟩:Ev).w==rB)=_ from hw] at hi;cases hi
 unfold dh at hx;split at hx
 ·cases hx
 rename_i hc;have hc:iD R d=true:=by simpa using hc
 cases d with
 | tick=>
  cases hx;rcases aar.mp he with z | z
  ·obtain⟨y,u,q⟩:=aaE.mp z;exact(no (show(("ends":Str)==rB)=false by decide +kernel) q.symm).elim
  ·refine base _ (ROk.filter (ROk.mapE h iQ λe=>rfl) _) (λy hy=>?_) z;obtain⟨q,hq,rfl⟩:=aaE.mp (aaY.mp hy).1;exact⟨q,hq,rfl,rfl⟩
 | ask wr g t=>
  cases hx;simp only[iD,aad,aaV,Bool.not_eq_true'] at hc;have ok:=xI (wr:=wr) (t:=t) h hc.1 hc.2
  have main:e∈(bi r (R.1,R.2++[nA wr g t])).2->∃ wr',(bi r (R.1,R.2++[nA wr g t])).1.1[e.g]?=Y (goW wr')/\AX R (.ask wr g t) e.g=bI wr':=λhe=>by
   obtain⟨y,hy,hg,hw⟩:=Iw _ ok he hi;refine⟨y.wr,hw,?_⟩;rcases aar.mp hy with z | z
   ·exact AW h z hg
   ·rw[aav.mp z] at hg ⊢;unfold AX;rw[adc.mpr (λa ha=>by rw[<- hg];exact λz=>jk hc.2 ha (aaU z))];rfl
  unfold wY at he ⊢;dsimp only at he ⊢;split
  ·rename_i hs;rw[aas hs] at he;exact main he
  ·rename_i hs;rw[if_neg hs] at he;split
   ·rename_i ht;rw[aas ht] at he;rcases aar.mp he with z | z
    ·exact main z
    ·exact(no (show(("no":Str)==rB)=false by decide +kernel) 2.30).elim
   ·rename_i ht;rw[if_neg ht] at he;rcases aar.mp he with z | z
    ·exact main z
    ·exact(no (show(("waits":Str)==rB)=false by decide +kernel) 2.30).elim
 | act k g=>
  dsimp only at hx;split at hx
  ·cases hx;exact(no (show(("no":Str)==rB)=false by decide +kernel) (aav.mp he)).elim
  ·split at hx
   ·rename_i w hw;cases hx;rcases aar.mp he with z | z
    ·rcases aar.mp z with z | z
     ·cases k with
      | up=>cases z
      | down=>exact(no (show(("down":Str)==rB)=false by decide +kernel) 2.30).elim
      | leave=>exact(no (show(("out":Str)==rB)=false by decide +kernel) 2.30).elim
      | stop=>exact(no (show(("ends":Str)==rB)=false by decide +kernel) 2.30).elim
     ·refine base _ (xJ h _) (λy hy=>?_) z;have hy:=(aaY.mp hy).1;split at hy
      ·unfold xu at hy;split at hy
       ·obtain⟨q,hq,rfl⟩:=aaE.mp hy;exact⟨q,hq,by split<;>rfl,by split<;>rfl⟩
       ·exact⟨y,hy,rfl,rfl⟩
      ·exact⟨y,hy,rfl,rfl⟩
    ·split at z
     ·exact(no (show(("waits":Str)==rB)=false by decide +kernel) 2.30).elim
     ·cases z
   ·cases hx
end
def ahL(f:Bool):List Dd:=[.ask f 1 L,.ask (!f) 0 L]
def agL(f:Bool):List Dd:=[.ask f 2 L,.act .leave 1,.ask f 1 L,.act .leave 2]
def cE(r:Rl):List Dd->Rm->Option Rs
 | [],_=>Y []
 | d::l,R=>(dh r R d).bind λx=>(cE r l x.1).bind λxs=>Y (x::xs)
theorem pC:∀ {l:List Dd} {R:Rm} {xs:Rs},cE r l R=Y xs->Ws r R l xs
 | [],R,xs,h=>by cases h;exact .nil
 | d::l,R,xs,h=>by
  obtain⟨x,h1,h⟩:=acl.mp h;obtain⟨ys,h2,h⟩:=acl.mp h;cases h;exact .cons h1 (pC h2)
theorem Ws.app(h:Ws r R l xs)(h':Ws r (dG R xs) m ys):Ws r R (l++m) (xs++ys):=by
 induction h with
 | nil=>exact h'
 | cons q t ih=>exact .cons q (ih h')
def eqEs:List En->List En->Bool
 | [],[]=>true
 | a::l,b::m=>decide (a.g=b.g)&&decide (a.wr=b.wr)&&decide (a.m=b.m)&&decide (a.t=b.t)&&eqEs l m
 | _,_=>false
def stB(z:Rm×List Ev):Bool:=aW z.1.2 0&&!decide (z.1.1[0]?=Y .rising)
def ioB(es:List Ev):Bool:=es.any λe=>(e.w==rB)&&!decide (e.g=0)
def okS(r:Rl)(n:Nat)(f:Bool):Bool:=match cE r (ahL f) (cz n) with
 | some [x1,x2]=>match cE r (agL f) x2.1 with
  | some [y1,y2,y3,y4]=>decide (y4.1.1=x2.1.1)&&eqEs y4.1.2 x2.1.2&&[x2,y1,y2,y3,y4].all stB&&ioB (y1.2++(y2.2++(y3.2++y4.2)))
  | _=>false
 | _=>false
section
variable{S:ac}
theorem qb7{bs:List Bool}(h:jz xs=Y bs):aS Ka [.lst xs] S=Y (.bl (bs.any id),S):=by
 show((jz xs).bind _).bind _=_;rw[h];rfl
theorem lS{α:Type}(f:α->Bool):∀ xs:List α,jz (xs.map λx=>D.bl (f x))=Y (xs.map f)
 | []=>rfl
 | x::xs=>by rw[aah,jz,lS f xs];rfl
theorem yY{x y z u v:D}:qd 5 f ([x,y,z,u,v],S)=f [x,y,z,u,v] S:=id rfl
noncomputable abbrev Tz:=Rm×Rm×List Ev
def leE:ME:=aB cJ '3' (!"in")
def leG:MG:=bo 2 1.3
def AJ:MG:=bo 3 (ag '`' (ag 'a' (ag 'b' aZ)))
def yf:MS:=bu (bG (aS Ka) (aa (dZ (di '0') AJ bK (di '2') leG bK leE [L,L,L,L,L]) ak))
theorem leIn{a b c:Option D}:∀ (es:List Ev) (u v:Option D),∃ u' v',lq leG bK leE (es.map Ev.d) [a,b,c,u,v] S=Y (es.map (λe=>.bl (e.w==rB)),[a,b,c,u',v'],S)
 | []=>λu v=>⟨u,v,Jy⟩
 | e::es=>λu v=>by
  obtain⟨u',v',ih⟩:=leIn (a:=a) (b:=b) (c:=c) es (Y (.str e.w)) (Y (.int 2.8));refine⟨u',v',?_⟩;have fe:cJ S (.str e.w) (.str "in")=Y (.bl (e.w==rB)):=dC;rw[aah,GG,show Ev.d e=.tup [.str e.w,.int 2.8] from rfl,leG,cL];simp only[bH,aR,ob,eD,fo,cU,bY,qaH,eO,qaF];rw[show leE [a,b,c,Y (.str e.w),Y (.int 2.8)] S=Y (.bl (e.w==rB),S) by simp![leE,fe],ob,qaD];rw[leG] at ih;rw[ih,ob,qaB];rfl
theorem XU:∀ (zs:List Tz) (a b c u v:Option D),jY AJ bK (di '2') leG bK leE 1.65 [a,b,c,u,v] S=Y ((zs.flatMap (·.2.2)).map (λe=>.bl (e.w==rB)),S)
 | []=>λa b c u v=>by rw[acJ,Jx];rfl
 | z::zs=>λa b c u v=>by
  obtain⟨u',v',e1⟩:=leIn (S:=S) (a:=Y (bh z.1)) (b:=Y (bh z.2.1)) (c:=Y (dj z.2.2)) z.2.2 u v;have ih:=XU zs (Y (bh z.1)) (Y (bh z.2.1)) (Y (dj z.2.2)) u' v'
  rw[aah,GF,show vH z=.tup [bh z.1,bh z.2.1,dj z.2.2] from rfl,show AJ (.tup [bh z.1,bh z.2.1,dj z.2.2]) [a,b,c,u,v] S=Y ([Y (bh z.1),Y (bh z.2.1),Y (dj z.2.2),u,v],S) by
   rw[AJ,qT];simp only[bH,aR,ob,eD,fo,cU,bY]]
  have it:di '2' [Y (bh z.1),Y (bh z.2.1),Y (dj z.2.2),u,v] S=Y (z.2.2.map Ev.d,S):=by
   simp only[db,ai,bJ,bQ,bR,oj,ob,ah,dj,vj]
  simp only[ob,qav,eO,qat,it,qar,e1,qap,ih,qan];rw[adj,aaO]
theorem JB{N:List Str}(hN:N.length=1){zs:List Tz}(hz:(zs.flatMap (·.2.2)).length<=1000):aT N yf 1 [.lst 1.65] S=Y (.bl ((zs.flatMap (·.2.2)).any λe=>e.w==rB),S):=by
 refine abm (mP (env:=[Y (.lst 1.65)]) hN rfl rfl) ?_;have fa:=qb7 (S:=S) (lS (λe:Ev=>e.w==rB) (zs.flatMap (·.2.2)));have e:=XU (S:=S) zs L L L L L;have e':jY AJ bK (di '2') leG bK leE 1.65 (lG [L,L,L,L,L] [Y (.lst 1.65)]) S=_:=e;simp only[yf,aJ,bT,ar,QQ,db,ai,bJ,oj,ob,ah,sB,qaw,e'];rw[VQ (by rw[aai];exact hz)];simp only[ob,aq,ay,ao,bU,fa,ba,az];rw[abX];rfl
end
end MI
section
set_option maxHeartbeats 4000000
namespace K34
open L2 MI
open M hiding nU mC af aB aI dL dA eg fI cS eh wQ jf qa ak aa bb eu gb AH bD bS bw bG iw au bq aM bu gd cr aj aZ ag bo il aV cB mQ bZ di bK gi gk nN mn ik eM eY gc fV fU eL dZ kK mj
@[inline]def dO(i:Nat):QP:=PySem.Challenge.pw_manyreaders_k34_starving_rows_shown.main.body.getD i (.Pass ⟨0,0,0,0⟩)
abbrev eX:QP:=dO 73
abbrev jR:QP:=dO 75
abbrev iY:QP:=dO 74
abbrev iW:QP:=dO 76
abbrev iU:QP:=dO 77
abbrev gQ:QP:=dO 92
abbrev iV:QP:=dO 93
abbrev gS:QP:=dO 88
abbrev jQ:QP:=dO 81
abbrev fQ:QP:=dO 79
abbrev iX:QP:=dO 80
abbrev eV:QP:=dO 82
abbrev jS:QP:=dO 83
abbrev gW:QP:=dO 86
abbrev fP:QP:=dO 84
abbrev iZ:QP:=dO 85
abbrev jc:QP:=dO 87
abbrev eU:QP:=dO 89
abbrev gR:QP:=dO 90
abbrev eW:QP:=dO 91
abbrev dU:QP:=dO 94
abbrev gU:QP:=dO 95
abbrev lN:QP:=dO 3
abbrev fM:QP:=dO 4
abbrev jN:QP:=dO 1
abbrev gK:QP:=dO 70
abbrev fN:QP:=dO 18
abbrev lI:QP:=dO 21
abbrev jL:QP:=dO 22
abbrev eS:QP:=dO 69
abbrev qJ:QP:=dO 16
abbrev jO:QP:=dO 29
abbrev nI:QP:=dO 27
abbrev iS:QP:=dO 30
abbrev lL:QP:=dO 28
abbrev nH:QP:=dO 32
abbrev iR:QP:=dO 19
abbrev nG:QP:=dO 34
abbrev gM:QP:=dO 33
abbrev lK:QP:=dO 31
abbrev eR:QP:=dO 20
abbrev iT:QP:=dO 43
abbrev jP:QP:=dO 44
abbrev dT:QP:=dO 51
abbrev nD:QP:=dO 50
abbrev gP:QP:=dO 45
abbrev fO:QP:=dO 46
abbrev gO:QP:=dO 47
abbrev jM:QP:=dO 49
abbrev gN:QP:=dO 48
abbrev uN:QP:=dO 42
abbrev gL:QP:=dO 2
abbrev lO:QP:=dO 40
abbrev nJ:QP:=dO 41
abbrev kG:QP:=dO 62
abbrev lM:QP:=dO 66
abbrev lJ:QP:=dO 65
abbrev gJ:QP:=dO 64
abbrev eE:QP:=dO 68
abbrev ja:QP:=dO 78
abbrev jd:QP:=dO 96
abbrev Bk:QP:=dO 97
def zJ:List (cj×D):=[(.inr "rows",.non),(.inr "readers",(.str "read")),(.inr "writers",(.str "write")),(.inr "turns",(.str "write"))]
def ly:D:=(.int 9)
def nz:D:=(.tup [(.str "up"),(.str "down"),(.str "leave"),(.str "stop")])
def rh:D:=(.tup [(.str "read"),(.str "write")])
def rY:List (cj×D):=[(.inr "read",(.str "reads")),(.inr "write",(.str "writes"))]
def po:D:=(.tup [(.str "writes"),(.str "raised")])
def cX:td:=204
abbrev PK:QP:=Xj (dO 37)
structure Txt(w:Pn)(K:aeH)(mg:Str->Option ce):Prop where
 q0:bP K mg "_law_cell_at" eX
 q1:bP K mg "_law_far" jR
 q2:bP K mg "_law_left" iY
 q3:bP K mg "_law_pick" iW
 q4:bP K mg "_law_rule" iU
 q5:bP K mg "_law_world" gQ
 q6:bP K mg "_law_rows" iV
 q7:bP K mg "_law_waits" gS
 q8:bP K mg "_law_put" jQ
 q9:bP K mg "_law_fronts" fQ
 qa:bP K mg "_law_lets" iX
 qb:bP K mg "_law_settled" eV
 qc:bP K mg "_law_can" jS
 qd:bP K mg "_law_asked" gW
 qe:bP K mg "_law_marked" fP
 qf:bP K mg "_law_done" iZ
 qg:bP K mg "_law_cost" jc
 qh:bP K mg "_law_starved" eU
 qi:bP K mg "_law_whole" gR
 qj:bP K mg "_law_is_deed" eW
 qk:bP K mg "_law_deeds_are" dU
 ql:bP K mg "_law_takes" gU
 qm:bP K mg "is_word" lN
 qn:bP K mg "is_tuple_of" fM
 qo:bP K mg "is_whole" jN
 qp:bP K mg "is_ranking" gK
 qq:bP K mg "guests_with" fN
 qr:bP K mg "waiting" lI
 qs:bP K mg "waits_in" jL
 qt:bP K mg "shows_within" eS
 qu:bP K mg "empty" qJ
 qv:bP K mg "foremost" jO
 qw:bP K mg "can_go" nI
 qx:bP K mg "next_past" iS
 qy:bP K mg "next_in" lL
 qz:bP K mg "coming" nH
 qA:bP K mg "with_word" iR
 qB:bP K mg "let_in" nG
 qC:bP K mg "brought_by" gM
 qD:bP K mg "settled" lK
 qE:bP K mg "without_wait" eR
 qF:bP K mg "bring_ask" iT
 qG:bP K mg "bring_up" jP
 qH:bP K mg "settled_behind" dT
 qI:bP K mg "turned" nD
 qK:bP K mg "bring_down" gP
 qL:bP K mg "bring_leave" fO
 qM:bP K mg "bring_stop" gO
 qN:bP K mg "one_less" jM
 qO:bP K mg "bring_tick" gN
 qP:bP K mg "done" uN
 qQ:bP K mg "is_between" gL
 qR:bP K mg "is_deed" lO
 qS:bP K mg "can_do" nJ
 qT:bP K mg "walked" kG
 qU:bP K mg "lets_in" lM
 qV:bP K mg "starves" lJ
 qW:bP K mg "shows_ring" gJ
 qX:bP K mg "shows_longest" eE
 qY:bP K mg "_law_deed" ja
 qZ:bP K mg "_law_bent" jd
 z0:bP K mg "law" Bk
 z1:mg "all" = L
 z2:mg "any" = L
 z3:mg "bool" = L
 z4:mg "enumerate" = L
 z5:mg "int" = L
 z6:mg "isinstance" = L
 z7:mg "len" = L
 z8:mg "list" = L
 z9:mg "max" = L
 za:mg "min" = L
 zb:mg "range" = L
 zc:mg "str" = L
 zd:mg "tuple" = L
 ze:mg "zip" = L
 zf:FNm w K mg "BRINGS" [("read","bring_ask"),("write","bring_ask"),("up","bring_up"),("down","bring_down"),("leave","bring_leave"),("stop","bring_stop"),("tick","bring_tick")]
 zg:zO w K mg "FAVOURED" zJ
 zh:GC K mg "GREATEST_LEFT" ly
 zi:GC K mg "GUEST_WORDS" nz
 zj:GC K mg "WANTS" rh
 zk:zO w K mg "WORD_WITHIN" rY
 zl:GC K mg "WRITING_WORDS" po
 zm:∀ P base,HU P w K mg base "NoDeed" cX "place"
 zn:HW K mg "NoDeed" cX
section
local macro_rules|`(tactic|symm)=>`(tactic|(intro _ _ _ _ _ _;repeat (first|exact iN rfl|(refine cA ?_;intro _))))
variable{P:vx}{w:Pn}{K:aeH}{mg:Str->Option ce}{base:Ud}
def gG:List Str:=["_law_script","_law_k"]
def qo:List 0.8:=[("len",.blt)]
def gx:=aT gG (gH (ir gG eX qo []) (aK eX)) 2
theorem wH:aP gG ["_law_script","_law_k"] (ax eX):=by ac_rfl
theorem wL(T:Txt w K mg):Fn P w K mg base 1 "_law_cell_at" 2 gx:=
 bg (gs:=qo) T.q0 wH 1.5 ⟨T.z7,trivial⟩
def mL:List Str:=["_law_far_here","_law_k"]
def zm:List 0.8:=[("range",.blt)]
def mr:=aT mL (gH (ir mL jR zm []) (aK jR)) 0
theorem Fo:aP mL [] (ax jR):=by ac_rfl
theorem FF(T:Txt w K mg):Fn P w K mg base 1 "_law_far" 0 mr:=
 bg (gs:=zm) T.q1 Fo 1.5 ⟨T.zb,trivial⟩
def le:List Str:=["_law_script","_law_k","_law_cell","_law_seed"]
def wj:List 0.8:=[("_law_cell_at",.fn 2 gx),("max",.blt),("_law_far",.fn 0 mr),("len",.blt)]
def kO:=aT le (gH (ir le iY wj [296]) (aK iY)) 2
theorem CO:aP le ["_law_script","_law_k"] (ax iY):=by ac_rfl
theorem Dj(T:Txt w K mg):Fn P w K mg base 2 "_law_left" 2 kO:=
 bg (gs:=wj) T.q2 CO 1.5 ⟨(wL T).up,T.z9,(FF T).up,T.z7,trivial⟩
def mY:List Str:=["_law_left_here","_law_many","_law_digit"]
def wf:List 0.8:=[]
def bn:=aT mY (gH (ir mY iW wf []) (aK iW)) 2
theorem CM:aP mY ["_law_left_here","_law_many"] (ax iW):=by ac_rfl
theorem jl(T:Txt w K mg):Fn P w K mg base 1 "_law_pick" 2 bn:=
 bg (gs:=wf) T.q3 CM 1.5 trivial
def kY:List Str:=["_law_left_here","_law_word","_law_most","_law_times"]
def wc:List 0.8:=[("_law_pick",.fn 2 bn),("int",.blt)]
def kL:=aT kY (gH (ir kY iU wc []) (aK iU)) 1
theorem CK:aP kY ["_law_left_here"] (ax iU):=by ac_rfl
theorem Dg(T:Txt w K mg):Fn P w K mg base 2 "_law_rule" 1 kL:=
 bg (gs:=wc) T.q4 CK 1.5 ⟨(jl T).up,T.z5,trivial⟩
def jG:List Str:=["_law_left_here","_law_rule_here","_law_n","_law_deeds","_law_turn"]
def ui:List 0.8:=[("_law_rule",.fn 1 kL),("_law_pick",.fn 2 bn),("tuple",.blt),("len",.blt),("range",.blt)]
def ic:=aT jG (gH (ir jG gQ ui []) (aK gQ)) 1
theorem Ac:aP jG ["_law_left_here"] (ax gQ):=by ac_rfl
theorem Aq(T:Txt w K mg):Fn P w K mg base 3 "_law_world" 1 ic:=
 bg (gs:=ui) T.q5 Ac 1.5 ⟨(Dg T).up,(jl T).up,T.zd,T.z7,T.zb,trivial⟩
def kZ:List Str:=["_law_left_here","_law_rule_here","_law_n","_law_first","_law_one","_law_other","_law_guest","_law_word","_law_want","_law_ahead","_law_again"]
def we:List 0.8:=[("_law_pick",.fn 2 bn),("range",.blt)]
def kM:=aT kZ (gH (ir kZ iV we [975000]) (aK iV)) 3
theorem CL:aP kZ ["_law_left_here","_law_rule_here","_law_n"] (ax iV):=by ac_rfl
theorem Dh(T:Txt w K mg):Fn P w K mg base 2 "_law_rows" 3 kM:=
 bg (gs:=we) T.q6 CL 1.5 ⟨(jl T).up,T.zb,trivial⟩
def jI:List Str:=["_law_room","_law_guest"]
def uk:List 0.8:=[]
def ig:=aT jI (gH (ir jI gS uk []) (aK gS)) 2
theorem Ae:aP jI ["_law_room","_law_guest"] (ax gS):=by ac_rfl
theorem Ar(T:Txt w K mg):Fn P w K mg base 1 "_law_waits" 2 ig:=
 bg (gs:=uk) T.q7 Ae 1.5 trivial
def mK:List Str:=["_law_within","_law_guest","_law_word"]
def zl:List 0.8:=[]
def fE:=aT mK (gH (ir mK jQ zl []) (aK jQ)) 3
theorem Fl:aP mK ["_law_within","_law_guest","_law_word"] (ax jQ):=by ac_rfl
theorem vM(T:Txt w K mg):Fn P w K mg base 1 "_law_put" 3 fE:=
 bg (gs:=zl) T.q8 Fl 1.5 trivial
def iH:List Str:=["_law_rule_here","_law_waits_here","_law_reading","_law_writing","_law_tagged"]
def rS:List 0.8:=[("enumerate",.blt),("list",.blt),("range",.blt),("len",.blt),("max",.blt)]
def iB:=aT iH (gH (ir iH fQ rS []) (aK fQ)) 2
theorem xW:aP iH ["_law_rule_here","_law_waits_here"] (ax fQ):=by ac_rfl
theorem ym(T:Txt w K mg):Fn P w K mg base 1 "_law_fronts" 2 iB:=
 bg (gs:=rS) T.q9 xW 1.5 ⟨T.z4,T.z8,T.zb,T.z7,T.z9,trivial⟩
def lc:List Str:=["_law_rule_here","_law_within","_law_want","_law_reading"]
def wg:List 0.8:=[("len",.blt)]
def kN:=aT lc (gH (ir lc iX wg []) (aK iX)) 3
theorem CN:aP lc ["_law_rule_here","_law_within","_law_want"] (ax iX):=by ac_rfl
theorem Di(T:Txt w K mg):Fn P w K mg base 1 "_law_lets" 3 kN:=
 bg (gs:=wg) T.qa CN 1.5 ⟨T.z7,trivial⟩
def gE:List Str:=["_law_rule_here","_law_room","_law_within","_law_waits_here","_law_events","_law_turn","_law_alone","_law_some","_law_guest","_law_want","_law_mark","_law_rest","_law_ahead"]
def qk:List 0.8:=[("range",.blt),("len",.blt),("_law_put",.fn 3 fE),("_law_fronts",.fn 2 iB),("_law_lets",.fn 3 kN),("tuple",.blt),("int",.blt)]
def dH:=aT gE (gH (ir gE eV qk [345]) (aK eV)) 2
theorem wF:aP gE ["_law_rule_here","_law_room"] (ax eV):=by ac_rfl
theorem pg(T:Txt w K mg):Fn P w K mg base 2 "_law_settled" 2 dH:=
 bg (gs:=qk) T.qb wF 1.5 ⟨T.zb,T.z7,(vM T).up,(ym T).up,(Di T).up,T.zd,T.z5,trivial⟩
def mM:List Str:=["_law_room","_law_deed_here","_law_within","_law_waits_here","_law_here","_law_stays","_law_fits"]
def zn:List 0.8:=[]
def mw:=aT mM (gH (ir mM jS zn [365]) (aK jS)) 2
theorem Fq:aP mM ["_law_room","_law_deed_here"] (ax jS):=by ac_rfl
theorem FG(T:Txt w K mg):Fn P w K mg base 1 "_law_can" 2 mw:=
 bg (gs:=zn) T.qc Fq 1.5 trivial
def jJ:List Str:=["_law_rule_here","_law_room","_law_deed_here","_law_word","_law_guest","_law_rest","_law_entry","_law_events"]
def um:List 0.8:=[("_law_settled",.fn 2 dH),("tuple",.blt)]
def jw:=aT jJ (gH (ir jJ gW um []) (aK gW)) 3
theorem Ag:aP jJ ["_law_rule_here","_law_room","_law_deed_here"] (ax gW):=by ac_rfl
theorem At(T:Txt w K mg):Fn P w K mg base 3 "_law_asked" 3 jw:=
 bg (gs:=um) T.qd Ag 1.5 ⟨(pg T).up,T.zd,trivial⟩
def iG:List Str:=["_law_rule_here","_law_here","_law_waits_here"]
def rR:List 0.8:=[("tuple",.blt)]
def iA:=aT iG (gH (ir iG fP rR []) (aK fP)) 3
theorem xV:aP iG ["_law_rule_here","_law_here","_law_waits_here"] (ax fP):=by ac_rfl
theorem yk(T:Txt w K mg):Fn P w K mg base 1 "_law_marked" 3 iA:=
 bg (gs:=rR) T.qe xV 1.5 ⟨T.zd,trivial⟩
def lf:List Str:=["_law_rule_here","_law_room","_law_deed_here","_law_within","_law_waits_here","_law_fewer","_law_gone","_law_events","_law_word","_law_guest","_law_here","_law_first","_law_there","_law_more"]
def wl:List 0.8:=[("tuple",.blt),("_law_settled",.fn 2 dH),("_law_can",.fn 2 mw),("_law_asked",.fn 3 jw),("int",.blt),("_law_marked",.fn 3 iA),("_law_put",.fn 3 fE)]
def jg:=aT lf (gH (ir lf iZ wl []) (aK iZ)) 3
theorem CP:aP lf ["_law_rule_here","_law_room","_law_deed_here"] (ax iZ):=by ac_rfl
theorem Dk(T:Txt w K mg):Fn P w K mg base 4 "_law_done" 3 jg:=
 bg (gs:=wl) T.qf CP 1.5 ⟨T.zd,(pg T).up,(FG T).up,(At T).up,T.z5,(yk T).up,(vM T).up,trivial⟩
def lh:List Str:=["_law_events","_law_guest"]
def wp:List 0.8:=[("len",.blt)]
def kQ:=aT lh (gH (ir lh jc wp [500000]) (aK jc)) 2
theorem CS:aP lh ["_law_events","_law_guest"] (ax jc):=by ac_rfl
theorem Dm(T:Txt w K mg):Fn P w K mg base 1 "_law_cost" 2 kQ:=
 bg (gs:=wp) T.qg CS 1.5 ⟨T.z7,trivial⟩
def gD:List Str:=["_law_rule_here","_law_n","_law_deeds","_law_guest","_law_ahead","_law_again","_law_room","_law_deed_here","_law_found","_law_first","_law_lets_here"]
def qj:List 0.8:=[("_law_waits",.fn 2 ig),("_law_done",.fn 3 jg),("_law_cost",.fn 2 kQ)]
def fh:=aT gD (gH (ir gD eU qj []) (aK eU)) 6
theorem wE:aP gD ["_law_rule_here","_law_n","_law_deeds","_law_guest","_law_ahead","_law_again"] (ax eU):=by ac_rfl
theorem wJ(T:Txt w K mg):Fn P w K mg base 5 "_law_starved" 6 fh:=
 bg (gs:=qj) T.qh wE 1.5 ⟨(Ar T).up,(Dk T).up,(Dm T).up,trivial⟩
def jH:List Str:=["_law_thing","_law_least","_law_most"]
def uj:List 0.8:=[("isinstance",.blt),("int",.blt),("bool",.blt)]
def dD:=aT jH (gH (ir jH gR uj []) (aK gR)) 3
theorem Ad:aP jH ["_law_thing","_law_least","_law_most"] (ax gR):=by ac_rfl
theorem rK(T:Txt w K mg):Fn P w K mg base 1 "_law_whole" 3 dD:=
 bg (gs:=uj) T.qi Ad 1.5 ⟨T.z6,T.z5,T.z3,trivial⟩
def gF:List Str:=["_law_n","_law_thing","_law_sizes"]
def qm:List 0.8:=[("len",.blt),("_law_whole",.fn 3 dD),("isinstance",.blt),("tuple",.blt),("str",.blt)]
def er:=aT gF (gH (ir gF eW qm []) (aK eW)) 2
theorem wG:aP gF ["_law_n","_law_thing"] (ax eW):=by ac_rfl
theorem wK(T:Txt w K mg):Fn P w K mg base 2 "_law_is_deed" 2 er:=
 bg (gs:=qm) T.qj wG 1.5 ⟨T.z7,(rK T).up,T.z6,T.zd,T.zc,trivial⟩
def dX:List Str:=["_law_n","_law_deeds","_law_row"]
def nS:List 0.8:=[("all",.blt),("isinstance",.blt),("tuple",.blt),("_law_is_deed",.fn 2 er)]
def cD:=aT dX (gH (ir dX dU nS []) (aK dU)) 3
theorem sW:aP dX ["_law_n","_law_deeds","_law_row"] (ax dU):=by ac_rfl
theorem tm(T:Txt w K mg):Fn P w K mg base 3 "_law_deeds_are" 3 cD:=
 bg (gs:=nS) T.qk sW 1.5 ⟨T.z1,T.z6,T.zd,(wK T).up,trivial⟩
def eK:List Str:=["_law_rule_here","_law_n","_law_deeds","_law_guest","_law_thing","_law_word","_law_own","_law_ahead","_law_again"]
def ul:List 0.8:=[("_law_starved",.fn 6 fh),("isinstance",.blt),("tuple",.blt),("len",.blt),("_law_whole",.fn 3 dD),("_law_deeds_are",.fn 3 cD)]
def dR:=aT eK (gH (ir eK gU ul []) (aK gU)) 5
theorem Af:aP eK ["_law_rule_here","_law_n","_law_deeds","_law_guest","_law_thing"] (ax gU):=by ac_rfl
theorem As(T:Txt w K mg):Fn P w K mg base 6 "_law_takes" 5 dR:=
 bg (gs:=ul) T.ql Af 1.5 ⟨(wJ T).up,T.z6,T.zd,T.z7,(rK T).up,(tm T).up,trivial⟩
def lU:List Str:=["thing","words"]
def BR:List 0.8:=[("isinstance",.blt),("str",.blt)]
def dB:=aT lU (gH (ir lU lN BR []) (aK lN)) 2
theorem IE:aP lU ["thing","words"] (ax lN):=by ac_rfl
theorem sr(T:Txt w K mg):Fn P w K mg base 1 "is_word" 2 dB:=
 bg (gs:=BR) T.qm IE 1.5 ⟨T.z6,T.zc,trivial⟩
def fS:List Str:=["thing","many"]
def rO:List 0.8:=[("isinstance",.blt),("tuple",.blt),("len",.blt)]
def ca:=aT fS (gH (ir fS fM rO []) (aK fM)) 2
theorem xS:aP fS ["thing","many"] (ax fM):=by ac_rfl
theorem lV(T:Txt w K mg):Fn P w K mg base 1 "is_tuple_of" 2 ca:=
 bg (gs:=rO) T.qn xS 1.5 ⟨T.z6,T.zd,T.z7,trivial⟩
def mH:List Str:=["thing"]
def zi:List 0.8:=[("isinstance",.blt),("int",.blt),("bool",.blt)]
def dM:=aT mH (gH (ir mH jN zi []) (aK jN)) 1
theorem Fi:aP mH ["thing"] (ax jN):=by ac_rfl
theorem pS(T:Txt w K mg):Fn P w K mg base 1 "is_whole" 1 dM:=
 bg (gs:=zi) T.qo Fi 1.5 ⟨T.z6,T.z5,T.z3,trivial⟩
def jA:List Str:=["thing"]
def uc:List 0.8:=[("isinstance",.blt),("tuple",.blt),("all",.blt),("is_whole",.fn 1 dM)]
def jt:=aT jA (gH (ir jA gK uc []) (aK gK)) 1
theorem zW:aP jA ["thing"] (ax gK):=by ac_rfl
theorem Al(T:Txt w K mg):Fn P w K mg base 2 "is_ranking" 1 jt:=
 bg (gs:=uc) T.qp zW 1.5 ⟨T.z6,T.zd,T.z1,(pS T).up,trivial⟩
def iE:List Str:=["room","words"]
def rP:List 0.8:=[("tuple",.blt),("enumerate",.blt)]
def cN:=aT iE (gH (ir iE fN rP []) (aK fN)) 2
theorem xT:aP iE ["room","words"] (ax fN):=by ac_rfl
theorem lW(T:Txt w K mg):Fn P w K mg base 1 "guests_with" 2 cN:=
 bg (gs:=rP) T.qq xT 1.5 ⟨T.zd,T.z4,trivial⟩
def lT:List Str:=["room","guest","entry"]
def BM:List 0.8:=[("guests_with",.fn 2 cN)]
def cF:=aT lT (gH (ir lT lI BM []) (aK lI)) 2
theorem Iz:aP lT ["room","guest"] (ax lI):=by ac_rfl
theorem jT(T:Txt w K mg):Fn P w K mg base 2 "waiting" 2 cF:=
 bg (gs:=BM) T.qr Iz 1.5 ⟨(lW T).up,trivial⟩
def mE:List Str:=["room","guest"]
def zg:List 0.8:=[("WANTS",.con rh),("waiting",.fn 2 cF)]
def kn:=aT mE (gH (ir mE jL zg []) (aK jL)) 2
theorem Fg:aP mE ["room","guest"] (ax jL):=by ac_rfl
theorem vL(T:Txt w K mg):Fn P w K mg base 3 "waits_in" 2 kn:=
 bg (gs:=zg) T.qs Fg 1.5 ⟨T.zj,(jT T).up,trivial⟩
def gC:List Str:=["rule","n","deeds","guest","thing","word","most","rooms","ranks","rank_of"]
def qi:List 0.8:=[("all",.blt),("is_ranking",.fn 1 jt),("is_whole",.fn 1 dM),("len",.blt),("zip",.blt),("waits_in",.fn 2 kn)]
def gu:=aT gC (gH (ir gC eS qi []) (aK eS)) 5
theorem wD:aP gC ["rule","n","deeds","guest","thing"] (ax eS):=by ac_rfl
theorem wI(T:Txt w K mg):Fn P w K mg base 4 "shows_within" 5 gu:=
 bg (gs:=qi) T.qt wD 1.5 ⟨T.z1,(Al T).up,(pS T).up,T.z7,T.ze,(vL T).up,trivial⟩
def uF:List Str:=["n"]
def LG:List 0.8:=[]
def uq:=aT uF (gH (ir uF qJ LG []) (aK qJ)) 1
theorem PJ:aP uF ["n"] (ax qJ):=by ac_rfl
theorem FD(T:Txt w K mg):Fn P w K mg base 1 "empty" 1 uq:=
 bg (gs:=LG) T.qu PJ 1.5 trivial
def mI:List Str:=["word","waits","turned","favoured","ranked"]
def zj:List 0.8:=[("FAVOURED",.tab zJ)]
def oV:=aT mI (gH (ir mI jO zj []) (aK jO)) 2
theorem Fj:aP mI ["word","waits"] (ax jO):=by ac_rfl
theorem FC(T:Txt w K mg):Fn P w K mg base 1 "foremost" 2 oV:=
 bg (gs:=zj) T.qv Fj 1.5 ⟨T.zg,trivial⟩
def oB:List Str:=["rule","room","guest","want","beside","most"]
def Hd:List 0.8:=[("waiting",.fn 2 cF),("all",.blt),("enumerate",.blt),("len",.blt)]
def ju:=aT oB (gH (ir oB nI Hd []) (aK nI)) 3
theorem Mz:aP oB ["rule","room","guest"] (ax nI):=by ac_rfl
theorem uS(T:Txt w K mg):Fn P w K mg base 3 "can_go" 3 ju:=
 bg (gs:=Hd) T.qw Mz 1.5 ⟨(jT T).up,T.z1,T.z4,T.z7,trivial⟩
def kU:List Str:=["rule","room","guest","want","mark","left"]
def vZ:List 0.8:=[("can_go",.fn 3 ju)]
def mX:=aT kU (gH (ir kU iS vZ []) (aK iS)) 2
theorem CH:aP kU ["rule","room"] (ax iS):=by ac_rfl
theorem Df(T:Txt w K mg):Fn P w K mg base 4 "next_past" 2 mX:=
 bg (gs:=vZ) T.qx CH 1.5 ⟨(uS T).up,trivial⟩
def ow:List Str:=["rule","room","guest"]
def BP:List 0.8:=[("foremost",.fn 2 oV),("next_past",.fn 2 mX),("can_go",.fn 3 ju)]
def nW:=aT ow (gH (ir ow lL BP []) (aK lL)) 2
theorem IC:aP ow ["rule","room"] (ax lL):=by ac_rfl
theorem IV(T:Txt w K mg):Fn P w K mg base 5 "next_in" 2 nW:=
 bg (gs:=BP) T.qy IC 1.5 ⟨(FC T).up,(Df T).up,(uS T).up,trivial⟩
def qH:List Str:=["rule","room","guest"]
def Hc:List 0.8:=[("guests_with",.fn 2 cN),("next_in",.fn 2 nW),("can_go",.fn 3 ju)]
def nY:=aT qH (gH (ir qH nH Hc []) (aK nH)) 2
theorem My:aP qH ["rule","room"] (ax nH):=by ac_rfl
theorem Nc(T:Txt w K mg):Fn P w K mg base 6 "coming" 2 nY:=
 bg (gs:=Hc) T.qz My 1.5 ⟨(lW T).up,(IV T).up,(uS T).up,trivial⟩
def kT:List Str:=["room","guest","word","within","waits"]
def vY:List 0.8:=[]
def cf:=aT kT (gH (ir kT iR vY []) (aK iR)) 3
theorem CG:aP kT ["room","guest","word"] (ax iR):=by ac_rfl
theorem gY(T:Txt w K mg):Fn P w K mg base 1 "with_word" 3 cf:=
 bg (gs:=vY) T.qA CG 1.5 trivial
def qG:List Str:=["rule","room","guest","within","waits","place","ahead"]
def Hb:List 0.8:=[("with_word",.fn 3 cf),("tuple",.blt),("WORD_WITHIN",.tab rY)]
def uo:=aT qG (gH (ir qG nG Hb []) (aK nG)) 3
theorem Mx:aP qG ["rule","room","guest"] (ax nG):=by ac_rfl
theorem Nb(T:Txt w K mg):Fn P w K mg base 2 "let_in" 3 uo:=
 bg (gs:=Hb) T.qB Mx 1.5 ⟨(gY T).up,T.zd,T.zk,trivial⟩
def jC:List Str:=["rule","room","event","word","guest"]
def ue:List 0.8:=[("let_in",.fn 3 uo),("with_word",.fn 3 cf)]
def jv:=aT jC (gH (ir jC gM ue []) (aK gM)) 3
theorem zY:aP jC ["rule","room","event"] (ax gM):=by ac_rfl
theorem Am(T:Txt w K mg):Fn P w K mg base 3 "brought_by" 3 jv:=
 bg (gs:=ue) T.qC zY 1.5 ⟨(Nb T).up,(gY T).up,trivial⟩
def ou:List Str:=["rule","room","events","event"]
def BO:List 0.8:=[("coming",.fn 2 nY),("brought_by",.fn 3 jv),("tuple",.blt)]
def dJ:=aT ou (gH (ir ou lK BO [99]) (aK lK)) 2
theorem IB:aP ou ["rule","room"] (ax lK):=by ac_rfl
theorem sk(T:Txt w K mg):Fn P w K mg base 7 "settled" 2 dJ:=
 bg (gs:=BO) T.qD IB 1.5 ⟨(Nc T).up,(Am T).up,T.zd,trivial⟩
def gB:List Str:=["room","guest","within","waits"]
def qh:List 0.8:=[("tuple",.blt)]
def dc:=aT gB (gH (ir gB eR qh []) (aK eR)) 2
theorem wC:aP gB ["room","guest"] (ax eR):=by ac_rfl
theorem pf(T:Txt w K mg):Fn P w K mg base 1 "without_wait" 2 dc:=
 bg (gs:=qh) T.qE wC 1.5 ⟨T.zd,trivial⟩
def kW:List Str:=["rule","room","deed","want","guest","left","within","waits","entry","events"]
def wa:List 0.8:=[("settled",.fn 2 dJ),("waiting",.fn 2 cF),("without_wait",.fn 2 dc)]
def gv:=aT kW (gH (ir kW iT wa []) (aK iT)) 3
theorem CJ:aP kW ["rule","room","deed"] (ax iT):=by ac_rfl
theorem tj(T:Txt w K mg):Fn P w K mg base 8 "bring_ask" 3 gv:=
 bg (gs:=wa) T.qF CJ 1.5 ⟨(sk T).up,(jT T).up,(pf T).up,trivial⟩
def mJ:List Str:=["rule","room","deed","guest","events"]
def zk:List 0.8:=[("settled",.fn 2 dJ),("guests_with",.fn 2 cN),("with_word",.fn 3 cf),("waiting",.fn 2 cF)]
def ku:=aT mJ (gH (ir mJ jP zk []) (aK jP)) 3
theorem Fk:aP mJ ["rule","room","deed"] (ax jP):=by ac_rfl
theorem FE(T:Txt w K mg):Fn P w K mg base 8 "bring_up" 3 ku:=
 bg (gs:=zk) T.qG Fk 1.5 ⟨(sk T).up,(lW T).up,(gY T).up,(jT T).up,trivial⟩
def fj:List Str:=["rule","room","first","events"]
def nR:List 0.8:=[("settled",.fn 2 dJ)]
def bM:=aT fj (gH (ir fj dT nR []) (aK dT)) 3
theorem sV:aP fj ["rule","room","first"] (ax dT):=by ac_rfl
theorem fZ(T:Txt w K mg):Fn P w K mg base 8 "settled_behind" 3 bM:=
 bg (gs:=nR) T.qH sV 1.5 ⟨(sk T).up,trivial⟩
def qF:List Str:=["rule","room","guest","within","waits"]
def Ha:List 0.8:=[("tuple",.blt)]
def js:=aT qF (gH (ir qF nD Ha []) (aK nD)) 3
theorem Mw:aP qF ["rule","room","guest"] (ax nD):=by ac_rfl
theorem Bq(T:Txt w K mg):Fn P w K mg base 1 "turned" 3 js:=
 bg (gs:=Ha) T.qI Mw 1.5 ⟨T.zd,trivial⟩
def jF:List Str:=["rule","room","deed","guest"]
def uh:List 0.8:=[("settled_behind",.fn 3 bM),("with_word",.fn 3 cf),("turned",.fn 3 js)]
def ia:=aT jF (gH (ir jF gP uh []) (aK gP)) 3
theorem Ab:aP jF ["rule","room","deed"] (ax gP):=by ac_rfl
theorem Ap(T:Txt w K mg):Fn P w K mg base 9 "bring_down" 3 ia:=
 bg (gs:=uh) T.qK Ab 1.5 ⟨(fZ T).up,(gY T).up,(Bq T).up,trivial⟩
def iF:List Str:=["rule","room","deed","guest"]
def rQ:List 0.8:=[("settled_behind",.fn 3 bM),("with_word",.fn 3 cf),("turned",.fn 3 js)]
def fR:=aT iF (gH (ir iF fO rQ []) (aK fO)) 3
theorem xU:aP iF ["rule","room","deed"] (ax fO):=by ac_rfl
theorem yj(T:Txt w K mg):Fn P w K mg base 9 "bring_leave" 3 fR:=
 bg (gs:=rQ) T.qL xU 1.5 ⟨(fZ T).up,(gY T).up,(Bq T).up,trivial⟩
def jE:List Str:=["rule","room","deed","guest","calmer"]
def ug:List 0.8:=[("settled_behind",.fn 3 bM),("waiting",.fn 2 cF),("with_word",.fn 3 cf),("without_wait",.fn 2 dc)]
def hV:=aT jE (gH (ir jE gO ug []) (aK gO)) 3
theorem Aa:aP jE ["rule","room","deed"] (ax gO):=by ac_rfl
theorem Ao(T:Txt w K mg):Fn P w K mg base 9 "bring_stop" 3 hV:=
 bg (gs:=ug) T.qM Aa 1.5 ⟨(fZ T).up,(jT T).up,(gY T).up,(pf T).up,trivial⟩
def mF:List Str:=["left"]
def zh:List 0.8:=[]
def ko:=aT mF (gH (ir mF jM zh []) (aK jM)) 1
theorem Fh:aP mF ["left"] (ax jM):=by ac_rfl
theorem FB(T:Txt w K mg):Fn P w K mg base 1 "one_less" 1 ko:=
 bg (gs:=zh) T.qN Fh 1.5 trivial
def jD:List Str:=["rule","room","deed","within","waits","shorter","ended","kept"]
def uf:List 0.8:=[("tuple",.blt),("settled_behind",.fn 3 bM),("one_less",.fn 1 ko)]
def hU:=aT jD (gH (ir jD gN uf []) (aK gN)) 3
theorem zZ:aP jD ["rule","room","deed"] (ax gN):=by ac_rfl
theorem An(T:Txt w K mg):Fn P w K mg base 9 "bring_tick" 3 hU:=
 bg (gs:=uf) T.qO zZ 1.5 ⟨T.zd,(fZ T).up,(FB T).up,trivial⟩
def TQ:List (cj×Nat×(List D->ac->Option (D×ac))):=[(.inr "read",3,gv),(.inr "write",3,gv),(.inr "up",3,ku),(.inr "down",3,ia),(.inr "leave",3,fR),(.inr "stop",3,hV),(.inr "tick",3,hU)]
def zP:List Str:=["rule","room","deed","bring"]
def RG:List 0.8:=[("BRINGS",.ftab TQ)]
def vm:=aT zP (gH (ir zP uN RG []) (aK uN)) 3
theorem UG:aP zP ["rule","room","deed"] (ax uN):=by ac_rfl
theorem KZ(T:Txt w K mg):Fn P w K mg base 10 "done" 3 vm:=
 bg (gs:=RG) T.qP UG 1.5 ⟨Wf T.zf ⟨rfl,(tj T).up,rfl,(tj T).up,rfl,(FE T).up,rfl,(Ap T).up,rfl,(yj T).up,rfl,(Ao T).up,rfl,(An T).up,trivial⟩,trivial⟩
def jB:List Str:=["thing","low","high"]
def ud:List 0.8:=[("is_whole",.fn 1 dM)]
def df:=aT jB (gH (ir jB gL ud []) (aK gL)) 3
theorem zX:aP jB ["thing","low","high"] (ax gL):=by ac_rfl
theorem rJ(T:Txt w K mg):Fn P w K mg base 2 "is_between" 3 df:=
 bg (gs:=ud) T.qQ zX 1.5 ⟨(pS T).up,trivial⟩
def oA:List Str:=["n","thing","want","guest","left"]
def BS:List 0.8:=[("is_tuple_of",.fn 2 ca),("is_word",.fn 2 dB),("WANTS",.con rh),("is_between",.fn 3 df),("GUEST_WORDS",.con nz),("GREATEST_LEFT",.con ly)]
def kq:=aT oA (gH (ir oA lO BS []) (aK lO)) 2
theorem IF:aP oA ["n","thing"] (ax lO):=by ac_rfl
theorem yi(T:Txt w K mg):Fn P w K mg base 3 "is_deed" 2 kq:=
 bg (gs:=BS) T.qR IF 1.5 ⟨(lV T).up,(sr T).up,T.zj,(rJ T).up,T.zi,T.zh,trivial⟩
def oC:List Str:=["room","deed","word","guest","within"]
def He:List 0.8:=[("WRITING_WORDS",.con po),("waiting",.fn 2 cF)]
def nZ:=aT oC (gH (ir oC nJ He []) (aK nJ)) 2
theorem MC:aP oC ["room","deed"] (ax nJ):=by ac_rfl
theorem Br(T:Txt w K mg):Fn P w K mg base 3 "can_do" 2 nZ:=
 bg (gs:=He) T.qS MC 1.5 ⟨T.zl,(jT T).up,trivial⟩
def mD:List Str:=["rule","n","row","room","steps","place","deed","behind","events"]
def zf:List 0.8:=[("empty",.fn 1 uq),("enumerate",.blt),("done",.fn 3 vm),("is_deed",.fn 2 kq),("can_do",.fn 2 nZ)]
def Ht:=aT mD (gH (ir mD kG zf [234]) (aK kG)) 3
theorem Bj:aP mD ["rule","n","row"] (ax kG):=by ac_rfl
def BL:List 0.8:=("NoDeed",.rse cX "place")::zf
def lQ:=Fu mD (Wv cX "place" (cOfY mD kG BL [234]) (aK kG)) 3
theorem IT(T:Txt w K mg):FnY P w K mg base 11 "walked" 3 lQ cX "place":=
 YW T.qT Bj (λz z z z z z=>cA λz=>cA λz=>cA λz=>iN rfl) (GKs.mem (gs:=BL) ⟨⟨by decide,T.zm _ _⟩,(FD T).up,T.z4,(KZ T).up,(yi T).up,(Br T).up,trivial⟩)
theorem Na(T:Txt w K mg):Fn P w K mg base 11 "walked" 3 Ht:=
 bg (gs:=zf) T.qT Bj 1.5 ⟨(FD T).up,T.z4,(KZ T).up,(yi T).up,(Br T).up,trivial⟩
def oz:List Str:=["ring"]
def BQ:List 0.8:=[("any",.blt)]
def nX:=aT oz (gH (ir oz lM BQ []) (aK lM)) 1
theorem ID:aP oz ["ring"] (ax lM):=by ac_rfl
theorem IW(T:Txt w K mg):Fn P w K mg base 1 "lets_in" 1 nX:=
 bg (gs:=BQ) T.qU ID 1.5 ⟨T.z2,trivial⟩
def oq:List Str:=["rule","n","guest","ahead","again","steps","ring","start"]
def BN:List 0.8:=[("try",.thr "walked" 3 lQ cX "place"),("NoDeed",.hnd cX),("walked",.fn 3 Ht),("all",.blt),("lets_in",.fn 1 nX),("len",.blt),("waits_in",.fn 2 kn)]
def lR:=aT oq (gH (ir oq lJ BN []) (aK lJ)) 5
theorem IA:aP oq ["rule","n","guest","ahead","again"] (ax lJ):=by ac_rfl
theorem IU(T:Txt w K mg):Fn P w K mg base 12 "starves" 5 lR:=
 bg (gs:=BN) T.qV IA 1.5 ⟨(IT T).up,T.zn,(Na T).up,T.z1,(IW T).up,T.z7,(vL T).up,trivial⟩
def ij:List Str:=["rule","n","thing","word","guest","ahead","again"]
def ub:List 0.8:=[("is_tuple_of",.fn 2 ca),("isinstance",.blt),("tuple",.blt),("starves",.fn 5 lR),("is_word",.fn 2 dB),("is_between",.fn 3 df)]
def eJ:=aT ij (gH (ir ij gJ ub []) (aK gJ)) 3
theorem zV:aP ij ["rule","n","thing"] (ax gJ):=by ac_rfl
theorem Aj(T:Txt w K mg):Fn P w K mg base 13 "shows_ring" 3 eJ:=
 bg (gs:=ub) T.qW zV 1.5 ⟨(lV T).up,T.z6,T.zd,(IU T).up,(sr T).up,(rJ T).up,trivial⟩
def dN:List Str:=["rule","n","deeds","guest","thing"]
def pi:List 0.8:=[("is_word",.fn 2 dB),("is_tuple_of",.fn 2 ca),("shows_within",.fn 5 gu),("shows_ring",.fn 3 eJ),("all",.blt)]
def dk:=aT dN (gH (ir dN eE pi []) (aK eE)) 5
theorem uM:aP dN ["rule","n","deeds","guest","thing"] (ax eE):=by ac_rfl
theorem uR(T:Txt w K mg):Fn P w K mg base 14 "shows_longest" 5 dk:=
 bg (gs:=pi) T.qX uM 1.5 ⟨(sr T).up,(lV T).up,(wI T).up,(Aj T).up,T.z1,trivial⟩
def lg:List Str:=["_law_left_here","_law_n","_law_guest","_law_way"]
def wn:List 0.8:=[("_law_pick",.fn 2 bn)]
def kP:=aT lg (gH (ir lg ja wn []) (aK ja)) 2
theorem CQ:aP lg ["_law_left_here","_law_n"] (ax ja):=by ac_rfl
theorem Dl(T:Txt w K mg):Fn P w K mg base 2 "_law_deed" 2 kP:=
 bg (gs:=wn) T.qY CQ 1.5 ⟨(jl T).up,trivial⟩
def lj:List Str:=["_law_left_here","_law_n","_law_thing","_law_word","_law_guest","_law_ahead","_law_again","_law_at","_law_deed_here","_law_rows_here","_law_some","_law_begins","_law_odd"]
def wq:List 0.8:=[("_law_pick",.fn 2 bn),("_law_deed",.fn 2 kP),("len",.blt),("list",.blt),("range",.blt),("str",.blt)]
def jh:=aT lj (gH (ir lj jd wq []) (aK jd)) 3
theorem CT:aP lj ["_law_left_here","_law_n","_law_thing"] (ax jd):=by ac_rfl
theorem Dn(T:Txt w K mg):Fn P w K mg base 3 "_law_bent" 3 jh:=
 bg (gs:=wq) T.qZ CT 1.5 ⟨(jl T).up,(Dl T).up,T.z7,T.z8,T.zb,T.zc,trivial⟩
def HV:List Str:=["_law_script","_law_k","_law_left_here","_law_rule_here","_law_n","_law_deeds","_law_guest","_law_ahead","_law_again","_law_things","_law_turn","_law_thing","_law_due","_law_found"]
def Yi:List 0.8:=[("range",.blt),("max",.blt),("_law_left",.fn 2 kO),("_law_world",.fn 1 ic),("_law_rows",.fn 3 kM),("min",.blt),("_law_takes",.fn 5 dR),("shows_longest",.fn 5 dk),("len",.blt),("_law_bent",.fn 3 jh),("isinstance",.blt),("bool",.blt)]
def Hu:=aT HV (gH (ir HV Bk Yi [488]) (aK Bk)) 1
theorem Zg:aP HV ["_law_script"] (ax Bk):=by ac_rfl
theorem qaN(T:Txt w K mg):GKs P w K mg base 14 Yi:=⟨T.zb,T.z9,(Dj T).up,(Aq T).up,(Dh T).up,T.za,(As T).up,(uR T).up,T.z7,(Dn T).up,T.z6,T.z3,trivial⟩
end
theorem qbR{l:W.OpenLaw}{K:aeH}(X:K.In h)(G:h.Ns Zn mg)(hfa:mg "law" = Y (.ref fa))(T:Txt w K mg) :
  ∃ fd:FuncData,(∀ (s:gV) (v:ce),BindsTo s fd ⟨[v],[]⟩ [("_law_script",v)])/\∀ base:Ud,K.In base->base.Ns Zn mg->FnOk l.prog w K mg base HY 15 fa fd ["_law_script"] (Px K 1 Hu):=
 qa5 T.z0 hfa Zg (λz z z z z z z=>rfl) λbase=>qaN T
theorem walk{l:W.OpenLaw}{YP:Pn->Ud->Prop}{d:DefRec}{K:Params->aeH}(hn:l.most=Y 63)(hdf:d.params.defaults=[])(hnm:d.name = "law")
  (hY:∀ (w:Pn) (h:Ud),YP w h->(K w.params).In h) (hlaw:∀ ns:List Int,ns.length<=63->∃ S',Hu [.rol 2.0] []=Y (.bl true,S'))
  (F:∀ (w:Pn) (mg:Str->Option ce) (h:Ud),(K w.params).In h->h.Ns Zn mg->Txt w (K w.params) mg) :
  W.WalkO q loose XP YP l.row.toRowW d [] (λf vs=>PySem.call f vs):=
 L2.Uo (n:=63) (k:=15) (x:="_law_script") (CX:=λu=>HY) (sp:=λw=>Px (K w.params) 1 Hu) hn 0.1 hdf ⟨rfl,by decide,by decide⟩ hY
  (λw mg fa h KX G hmg=>qbR KX G (hnm ▸ hmg) (F w mg h KX G)) (λu u a ns hl u hS=>qa3 hlaw hl hS) λu u u u u z=>z
end K34
end
section
set_option maxHeartbeats 4000000
namespace K34
open L2 MI
open M hiding nU mC af aB aI dL dA eg fI cS eh wQ jf qa ak aa bb eu gb AH bD bS bw bG iw au bq aM bu gd cr aj aZ ag bo il aV cB mQ bZ di bK gi gk nN mn ik eM eY gc fV fU eL dZ kK mj
def yE:MS:=
 qP
theorem wP:gx=aT gG yE 2:=ji rfl
def Jr:MS:=
 JD
theorem FW:mr=aT mL Jr 0:=ji rfl
def Gi:MS:=
 xA gx mr
theorem Dx:kO=aT le Gi 2:=ji rfl
def Gg:MS:=
 tU
theorem Dv:bn=aT mY Gg 2:=ji rfl
def Gf:MS:=
 DQ bn
theorem Dt:kL=aT kY Gf 1:=ji rfl
def tK:MS:=
 aM (aV (au 1 kL 7.8) 'a') (aM (cr (aI (aB cJ 4.4 0e0)) (aV (aB aH (aB aH (aB aH (bb (aa (aB aD (eu (aa (!"readers") (aa (!"writers") ak))) 4.4) ak)) (bw '1' (bS 1e0) (bS 2e0))) (bb 1.44)) (bw '1' (bS 3e0) bD)) 'a') bq) (aM (aV (aB aH 3e0 4.4) 'b') (aM (aV (aB aH (bZ (cB 4.2) '`' bK (bb (aa (!"read") (aa '0' (aa 1.9 ak)))) [L]) (bZ (cB 4.2) '`' bK (bb (aa (!"write") (aa '0' (aa 1.9 ak)))) [L])) 'c') (aM (aV (aB aH '3' (bZ (cB 4.2) '`' bK (bb (aa (!"leave") 7.8)) [L])) 'c') (aM (aV (bZ (di '3') '`' 9.4 '0' [L,Y 0]) 'c') (aM (aV (aB aH '3' (aB dg (eu (aa (bb (aa (!"tick") ak)) (aa (bb (aa (!"read") (aa 0e0 (aa 1e0 ak)))) (aa (bb (aa (!"stop") (aa 1e0 ak))) ak)))) 4.4)) 'c') (aM (aV (au 2 bn (aa '0' (aa (aB aH (bG (aS fJ) 3.7) 1e0) ak))) 'd') (bu (bb (aa '1' (aa '2' (aa (bG 3.2 (aa (aB aH (bw '3' (bS '4') bD) (bw '3' bD (bS '4'))) ak)) ak))))))))))))
theorem AA:ic=aT jG tK 1:=ji rfl
def vP:MS:=
 aM (aV (au 2 bn (aa '0' 4.2)) 'c') (aM (aV (bZ (cB (aa 3e0 ak)) '`' bK 1.14 [L,Y 3,Y 2]) (nU 3 (ag 'd' (ag 'e' (ag 'f' aZ))))) (aM (aV (eY zx (ik [(mC (.str "readers"),mC (.str "read")),(mC (.str "writers"),mC (.str "write"))]) (aa 4.1 (aa (aB aD (eu (aa (!"read") (aa (!"write") ak))) 4.4) ak))) 'g') (aM (aV (aB aD (ik [(mC (.str "read"),mC (.str "write")),(mC (.str "write"),mC (.str "read"))]) '7') 'h') (aM (aV (bb (aa (bb (aa '7' (aa '4' (aa 1.9 ak)))) (aa (bb (aa '8' (aa '6' (aa 1.9 ak)))) (aa (bb (aa '7' (aa '5' (aa 1.9 ak)))) ak)))) 'i') (aM (aV (bb (aa (bb (aa (!"leave") 5.0)) (aa (bb (aa '7' (aa '4' (aa 1.9 ak)))) (aa (bb (aa (!"leave") (aa '5' ak))) (aa (bb (aa '7' (aa '5' (aa 1.9 ak)))) ak))))) 'j') (bu (bb (aa '6' (aa '9' (aa ':' ak))))))))))
theorem Du:kM=aT kZ vP 3:=ji rfl
def tN:MS:=
 bu (aB nv '1' (bZ (di 5.4) '`' bK 1.0 [L]))
theorem AC:ig=aT jI tN 2:=ji rfl
def Jq:MS:=
 JC
theorem FV:fE=aT mK Jq 3:=ji rfl
def AG:MS:=
 vh
theorem yw:iB=aT iH AG 2:=ji rfl
def Gh:MS:=
 DR
theorem Dw:kN=aT lc Gh 3:=ji rfl
def yD:MS:=
 sA iB kN fE
theorem wN:dH=aT gE yD 2:=ji rfl
def Js:MS:=
 DU
theorem FX:mw=aT mM Js 2:=ji rfl
def DF:MS:=
 yN dH
theorem AD:jw=aT jJ DF 3:=ji rfl
def AF:MS:=
 nO
theorem yv:iA=aT iG AF 3:=ji rfl
def Gj:MS:=
 mT mw jw dH iA fE
theorem Dy:jg=aT lf Gj 3:=ji rfl
def vQ:MS:=
 aM (cr (aI (aB nv (bb (aa (!"in") 3.5)) '0')) (aV (bw '0' bD (bS (mj uu '0' (aa (bb (aa (!"in") 3.5)) ak)))) '`') bq) (bu (bG (aS fJ) (aa (bZ (di '0') '`' (aI (aB cJ 1.0 (!"in"))) '0' [L]) ak)))
theorem DB:kQ=aT lh vQ 2:=ji rfl
def tL:MS:=
 bu (eh (iw "int" '0') (eh (jf (iw "bool" '0')) (dL Ug Ug '1' '0' '2')))
theorem AB:dD=aT jH tL 3:=ji rfl
def pX:MS:=
 aM (cr (fI (cS (dA (iw "tuple" '1'))) (fI (aI (aB cJ (bG (aS fJ) 3.5) 0e0)) (cS (dA (iw "str" 4.1))))) (bu (mC 1.6)) bq) (aM (aV (ik [(mC (.str "read"),mC (.int 3)),(mC (.str "write"),mC (.int 3)),(mC (.str "up"),mC (.int 2)),(mC (.str "down"),mC (.int 2)),(mC (.str "leave"),mC (.int 2)),(mC (.str "stop"),mC (.int 2)),(mC (.str "tick"),mC (.int 1))]) 'b') (aM (cr (aI (aB jx (eY zx '2' (aa 4.1 1.44)) (bG (aS fJ) 3.5))) (bu (mC 1.6)) bq) (aM (cr (eg (aI (aB Uh (bG (aS fJ) 3.5) 1e0)) (cS (dA (au 3 dD (aa 4.7 6.8))))) (bu (mC 1.6)) bq) (bu (wQ (aB Uf (bG (aS fJ) 3.5) 3e0) (wQ (aB AM 1.40 1.9) (au 3 dD (aa 1.40 (aa 0e0 (aa 9e0 ak))))))))))
theorem wO:er=aT gF pX 2:=ji rfl
def jW:MS:=
 aM (cr (cS (dA (iw "tuple" '2'))) (bu (mC 1.6)) bq) (bu (bG (aS sH) (aa (bZ (di '2') '`' bK (eh (au 2 er (aa '2' 7.8)) 9.9) [L,Y 1,Y 0]) ak)))
theorem mS:cD=aT dX jW 3:=ji rfl
def jm:MS:=
 aM (cr (fI (cS (dA (iw "tuple" '4'))) (fI (aI (aB jx (bG (aS fJ) 5.0) 4e0)) (aI (aB jx (aB aD '4' 0e0) (!"starves"))))) (bu (mC 1.6)) bq) (aM (aV '4' (bo 4 (ag 'e' (ag 'f' 9.8)))) (aM (cr (fI (cS (dA (au 3 dD (aa '6' (aa 0e0 (aa (aB pz '1' 1e0) ak)))))) (aI (aB jx '6' '3'))) (bu (mC 1.6)) bq) (aM (cr (fI (cS (dA (au 3 cD (aa '1' (aa '2' (aa '7' ak)))))) (cS (dA (au 3 cD (aa '1' (aa '2' 1.13)))))) (bu (mC 1.6)) bq) (bu (au 6 fh (aa '0' (aa '1' (aa '2' (aa '3' (aa '7' 1.13))))))))))
theorem kA:dR=aT eK jm 5:=ji rfl
def uW:MS:=
 bu (eh (iw "str" '0') 9.9)
theorem yr:dB=aT lU uW 2:=ji rfl
def ng:MS:=
 bu (eh (iw "tuple" '0') (aB cJ (bG (aS fJ) 7.8) '1'))
theorem pV:ca=aT fS ng 2:=ji rfl
def yA:MS:=
 bu (eh (iw "int" '0') (jf (iw "bool" '0')))
theorem FS:dM=aT mH yA 1:=ji rfl
def tE:MS:=
 bu (eh (iw "tuple" '0') (bG (aS sH) (aa (bZ (di '0') '`' bK (eh (au 1 dM 7.8) (aB fGe '0' 0e0)) [L]) ak)))
theorem Au:jt=aT jA tE 1:=ji rfl
def AE:MS:=
 IP
theorem yt:cN=aT iE AE 2:=ji rfl
def Np:MS:=
 pK cN
theorem yq:cF=aT lT Np 2:=ji rfl
def yx:MS:=
 bu (aB nv (au 2 cF (aa '0' 3.5)) (mC rh))
theorem FQ:kn=aT mE yx 2:=ji rfl
def Ll:MS:=
 bu (bb (aa (aB dg (bb (aa (!"out") ak)) '0') 2.22))
theorem QD:uq=aT uF Ll 1:=ji rfl
def Jp:MS:=
 oK
theorem FT:oV=aT mI Jp 2:=ji rfl
def QH:MS:=
 je cF
theorem Bu:ju=aT oB QH 3:=ji rfl
def Gc:MS:=
 oJ ju
theorem Dr:mX=aT kU Gc 2:=ji rfl
def Nr:MS:=
 si mX oV ju
theorem Jh:nW=aT ow Nr 2:=ji rfl
def QG:MS:=
 sj cN ju nW
theorem Nm:nY=aT qH QG 2:=ji rfl
def Ga:MS:=
 oI
theorem Dq:cf=aT kT Ga 3:=ji rfl
def QE:MS:=
 uP cf
theorem Nl:uo=aT qG QE 3:=ji rfl
def DD:MS:=
 pQ cf uo
theorem Aw:jv=aT jC DD 3:=ji rfl
def Nq:MS:=
 pM jv nY
theorem Jg:dJ=aT ou Nq 2:=ji rfl
def pW:MS:=
 CV
theorem wM:dc=aT gB pW 2:=ji rfl
def vO:MS:=
 xn dJ cF dc
theorem Ds:gv=aT kW vO 3:=ji rfl
def yC:MS:=
 ye dJ cF cN cf
theorem FU:ku=aT mJ yC 3:=ji rfl
def nL:MS:=
 CY dJ
theorem tB:bM=aT fj nL 3:=ji rfl
def Gb:MS:=
 CW
theorem Nk:js=aT qF Gb 3:=ji rfl
def tJ:MS:=
 nK bM cf js Wd.reads.s "down"
theorem Az:ia=aT jF tJ 3:=ji rfl
def rM:MS:=
 nK bM cf js Wd.out.s "out"
theorem yu:fR=aT iF rM 3:=ji rfl
def tI:MS:=
 pL bM cf dc cF
theorem Ay:hV=aT jE tI 3:=ji rfl
def yz:MS:=
 pN
theorem FR:ko=aT mF yz 1:=ji rfl
def tH:MS:=
 sY bM ko
theorem Ax:hU=aT jD tH 3:=ji rfl
def QF:MS:=
 pO (brL gv ku ia fR hV hU)
theorem VC:vm=aT zP QF 3:=ji rfl
def tF:MS:=
 bu (eh (au 1 dM 7.8) (dL Ug Ug '1' '0' '2'))
theorem Av:df=aT jB tF 3:=ji rfl
def Bw:MS:=
 aM (cr (dA (au 2 ca (aa '1' (aa 1e0 ak)))) (bu (au 2 dB (aa 4.1 (aa (bb (aa (!"tick") ak)) ak)))) bq) (aM (cr (dA (au 2 ca (aa '1' (aa 2e0 ak)))) (bu (eh (au 2 dB (aa 4.1 (aa (mC nz) ak))) (au 3 df (aa 4.7 6.8)))) bq) (aM (cr (cS (dA (au 2 ca (aa '1' (aa 3e0 ak))))) (bu (mC 1.6)) bq) (aM (aV '1' (bo 3 (ag 'b' 1.3))) (bu (eh (au 2 dB (aa '2' (aa (mC rh) ak))) (eh (au 3 df (aa '3' 6.8)) (wQ (aB AM '4' 1.9) (au 3 df (aa '4' (aa 0e0 (aa (mC ly) ak)))))))))))
theorem Jj:kq=aT oA Bw 2:=ji rfl
def Ge:MS:=
 qL cF
theorem No:nZ=aT oC Ge 2:=ji rfl
def Bv:MS:=
 bu (bG (aS Ka) (aa (dZ (di '0') (bo 3 (ag '`' (ag 'a' (ag 'b' aZ)))) bK (di '2') (bo 2 1.3) bK (aB cJ '3' (!"in")) [L,L,L,L,L]) ak))
theorem Ji:nX=aT oz Bv 1:=ji rfl
def oP:MS:=
 aM (cr (cS (dA (au 2 ca (aa '2' 2.50)))) (bu (mC 1.6)) bq) (aM (aV '2' (bo 4 7.7)) (aM (cr (fI (cS (dA (au 2 dB (aa '3' (aa (bb (aa (!"starves") ak)) ak))))) (cS (dA (au 3 df (aa '4' (aa 0e0 (aa (aB pz '1' 1e0) ak))))))) (bu (mC 1.6)) bq) (bu (eh (iw "tuple" '5') (eh (iw "tuple" '6') (au 5 lR (aa '0' (aa '1' (aa '4' (aa '5' 1.03))))))))))
theorem rL:eJ=aT ij oP 3:=ji rfl
def iI:MS:=
 aM (cr (cS (dA (au 2 ca (aa '4' 2.50)))) (bu (mC 1.6)) bq) (aM (cr (dA (au 2 dB (aa (aB aD '4' 0e0) (aa (bb (aa (!"within") ak)) ak)))) (bu (au 5 gu (aa '0' (aa '1' (aa '2' (aa '3' 5.0)))))) bq) (bu (eh (au 3 eJ (aa '0' (aa '1' 5.0))) (eh (aB cJ (aB aD '4' 1e0) '3') (bG (aS sH) (aa (bZ (di (aB aH (aB aD '4' 2e0) (aB aD '4' 3e0))) '`' bK 9.9 [L,Y 2]) ak))))))
theorem jV:dk=aT dN iI 5:=ji rfl
def Gk:MS:=
 oR bn
theorem Dz:kP=aT lg Gk 2:=ji rfl
def vR:MS:=
 aM (aV '2' (bo 4 7.7)) (aM (nN 7 8 (aa (au 2 bn (aa '0' (aa (bG (aS fJ) 1.03) ak))) (aa (au 2 kP (aa '0' 3.5)) ak))) (aM (aV (eu (aa (aB aH '6' '6') (aa (aB aH (bw '6' (bS 1e0) bD) (bw '6' bD (bS 1e0))) (aa (bw '6' bD (bS (AH JW 1e0))) ak)))) 'i') (aM (aV (aB aH '9' (eu (aa (aB aH (aB aH (bw '6' bD (bS '7')) (bb 1.13)) (bw '6' (bS (aB aH '7' 1e0)) bD)) (aa (bb ak) (aa (bG 1.83 1.03) ak))))) 'i') (aM (aV (aB aH '9' (eu (aa (aB aH (bw '6' (bS 2e0) bD) 2.36) (aa 2.36 (aa (aB aH '6' (bb 1.13)) (aa 1.9 ak)))))) 'i') (aM (aV (bZ (cB (aa 6e0 ak)) '`' bK (bb 5.1) [L,Y 5,Y 4,Y 0,Y 9,Y 3]) 'j') (aM (aV (eu (aa (aB aH '5' '6') (aa (aB aH '5' 2.36) (aa (bw '5' bD (bS (AH JW 1e0))) (aa (bw '5' (bS 1e0) bD) ak))))) 'k') (aM (aV (aB aH ';' (eu (aa (bb ak) (aa (bG 1.83 (aa '5' ak)) (aa (aB aH '5' (bb 1.13)) (aa 1.9 ak)))))) 'k') (aM (aV (aB aH ':' (bZ (cB 2.50) '`' bK (bb (aa '5' (aa '3' (aa 1.06 3.5)))) [L,Y 6,Y 11,Y 4,Y 0,Y 3])) 'j') (aM (aV (aB aD (eu (aa (aB kR (aB aH '4' 1e0) '1') (aa '1' (aa (AH JW 1e0) (aa (mC 4.3) (aa 1.9 (aa (bG (aS ur) 5.0) ak))))))) (au 2 bn 2.42)) 'l') (aM (aV (aB aH ':' (eu (aa (bb (aa '3' (aa '<' (aa '5' 1.03)))) (aa (aB aH '2' (bb 1.44)) (aa (bw '2' bD (bS 3e0)) ak))))) 'j') (aM (aV (aB aH ':' (eu (aa (bG 1.83 4.2) (aa (aB aH (bb (aa (!"within") ak)) (bw '2' (bS 1e0) bD)) ak)))) 'j') (bu (aB aD ':' (au 2 bn (aa '0' (aa 15e0 ak))))))))))))))))
theorem DC:jh=aT lj vR 3:=ji rfl
end K34
end
section
namespace K34
open MI L2
open M hiding nU mC af aB aI dL dA eg fI cS eh wQ jf qa ak aa bb eu gb AH bD bS bw bG iw au bq aM bu gd cr aj aZ ag bo il aV cB mQ bZ di bK gi gk nN mn ik eM eY gc fV fU eL dZ kK
theorem iO:KI bn:=λS r m h h0 h1=>by rw[Dv];exact MU rfl h h0 h1
theorem left{ns:List Int}{k:Int}(h0:0<=k)(h1:k<=100000):∃ a b,kO [.rol 2.0,.int k] S=Y (.ref S.length,S++[.lst [.int a,.int b,.int 0]])/\0<=a/\0<=b/\b<2147483647:=by
 rw[Dx];exact Nw (N:=le) (cellAt:=gx) (far:=mr) rfl h0 h1 (λS k h=>by rw[wP];exact HL (N:=gG) rfl h) (λS=>by rw[FW];exact RR (N:=mL) rfl)
theorem XN(S:ac)(ws:List Wd)(i:Nat)(w:Wd)(h:i<ws.length)(hl:ws.length<=100):fE [dm ws,.int (i:Int),w.d] S=Y 1.67:=by
 rw[FV];exact UM (N:=mK) rfl h hl
theorem seOk:OL iB kN fE:=
 ⟨λS r es hl=>by rw[yw];exact JT (N:=iH) rfl hl,λS r ws wr=>by rw[Dw];exact QX (N:=lc) rfl,XN⟩
theorem Bh:rm dH:=λS r R h hl=>by
 rw[wN];exact Fb seOk (N:=gE) rfl h hl
theorem doOk:qbZ mw jw dH iA fE:=
 ⟨λS R dd hl hd=>by rw[FX];exact Xm (N:=mM) rfl hl hd,
 λS r R wr g t h hl hw hs=>by rw[AD];exact OI Bh (N:=jJ) rfl h hl hw hs,
 Bh,λS r w es hl=>by rw[yv];exact Jk (N:=iG) rfl hl,XN⟩
theorem rule(P:Pk S r):∃ (rl:Rl) (S':ac),kL [.ref r] S=Y (rl.d,S')/\rl.Ok/\Pk S' r/\Keep r S S':=by
 rw[Dt];obtain⟨x,a,b,c,S',e,R,P',K⟩:=MD (pick:=bn) iO (N:=kY) rfl P;obtain⟨w,rfl⟩:=NH R.w;exact⟨⟨w,a,b,c⟩,S',e,⟨R.a0,R.a5,R.b0,R.b9,R.c0,R.c1⟩,P',K⟩
theorem Wb:Uc cN:=λS R l hl=>by rw[yt];exact qaL (N:=iE) rfl hl
theorem uI:vE cF:=λS R g hl=>by rw[yq];exact OZ Wb (N:=lT) rfl hl
theorem EA:rq ju:=⟨λS r R g hl=>by rw[Bu];exact Ox uI (N:=oB) rfl hl,λS r ws hl=>by rw[Bu];exact Ow (λS=>by rw[yq];exact OY Wb (N:=lT) rfl hl) (N:=oB) rfl⟩
theorem ZU(S:ac)(r:Rl)(R:Rm)(hl:R.1.length<=100)(hl2:R.2.length<=100):nW [r.d,bh R] S=Y (rA (vN r R),S):=by
 rw[Jh];exact Jb (λS r R hl=>by rw[Dr];exact Do EA (N:=kU) rfl hl) (λS w es hw hl=>by rw[FT];exact Eh (N:=mI) rfl hw hl) EA (N:=ow) rfl hl hl2
theorem Tx(S:ac)(r:Rl)(R:Rm)(hl:R.1.length<=100)(hl2:R.2.length<=100):nY [r.d,bh R] S=Y 2.15:=by
 rw[Nm];exact Kx Wb EA ZU (N:=qH) rfl hl hl2
theorem Mk(S:ac)(R:Rm)(g:Nat)(w:Wd)(h:g<R.1.length)(hl:R.1.length<=100):cf [bh R,.int (g:Int),w.d] S=Y (bh (R.1.set g w,R.2),S):=by
 rw[Dq];exact Cu (N:=kT) rfl h hl
theorem stOk:qbV jv nY:=⟨Tx,λS r R v R' l h hl s=>by
 rw[Aw]
 exact HP Mk (λS r R i e h hi hl=>by rw[Nl];exact Nv Mk (N:=qG) rfl h hi hl) (N:=jC) rfl h hl s⟩
theorem PY{r:Rl}(hb:0<=r.b)(h:ROk R)(hl:R.1.length<=50):dJ [r.d,bh R] S=Y (.tup [bh (bi r R).1,dj (bi r R).2],S++[.lst ((bi r R).2.map Ev.d)]):=by
 rw[Jg];exact CU stOk hb (N:=ou) rfl h hl
theorem PD:Mj dJ:=λS r R hb h hl=>PY hb h hl
theorem woOk:qbS dc:=λS R g hl=>by rw[wM,show pW=CV from rfl];exact YL (N:=gB) rfl hl
theorem UH:XA bM:=λS r R l hb h hl h4=>by rw[tB,show nL=CY dJ from rfl];exact Zh PD (N:=fj) rfl hb h hl h4
theorem tuOk:TuOk js:=λS r R g w hw hl=>by rw[Nk,show Gb=CW from rfl];exact YV (N:=qF) rfl hw hl
theorem olOk(S:ac)(t:Option Int):ko [bW t] S=Y (bW (t.map (· - 1)),S):=by rw[FR,show yz=pN from rfl];exact QY (N:=mF) rfl
theorem deOk:DeOk dJ cF cN cf:=⟨PD,uI,Wb,Mk⟩
theorem brOk:BrOk gv ku ia fR hV hU:=
 ⟨λS r R wr g t hb h hl hw hs=>by rw[Ds,show vO=xn dJ cF dc from rfl];exact Xx PD uI woOk (N:=kW) rfl hb h hl hw hs,
 λS r R g hb h hl hw=>by rw[FU,show yC=ye dJ cF cN cf from rfl];exact YN deOk (N:=mJ) rfl hb h hl hw,
 λS r R g w hb h hl hw ho=>by rw[Az,show tJ=nK bM cf js Wd.reads.s "down" from rfl];exact HE UH Mk tuOk (N:=jF) rfl hb h hl hw ho 4.5 rfl 0.1 rfl,
 λS r R g w hb h hl hw ho=>by rw[yu,show rM=nK bM cf js Wd.out.s "out" from rfl];exact HE UH Mk tuOk (N:=iF) rfl hb h hl hw ho 2.32 rfl 0.1 rfl,
 λS r R g w hb h hl hw hc=>by rw[Ay,show tI=pL bM cf dc cF from rfl];exact Po UH Mk woOk uI (N:=jE) rfl hb h hl hw hc,
 λS r R hb h hl=>by rw[Ax,show tH=sY bM ko from rfl];exact Pd UH olOk (N:=jD) rfl hb h hl⟩
theorem pdone{r:Rl}{dd:Dd}(hb:0<=r.b)(h:ROk R)(hl:R.1.length<=50)(hd:dd.Ok R.1.length)(hx:dh r R dd=Y x):∃ T,vm [r.d,bh R,dd.d] S=Y (lD x,S++T):=by
 rw[VC,show QF=pO (brL gv ku ia fR hV hU) from rfl];exact MW brOk (N:=zP) rfl hb h hl hd hx
def el:D->Bool
 | .ref _=>false
 | .txt=>false
 | .exc _ _ _=>false
 | .fn _=>false
 | _=>true
theorem el_nr{d:D}(h:el d=true):nr d=true:=by cases d<;>first | rfl | cases h
theorem vU{d:D}(h:nr d=true):dM [d] S=Y (.bl (Ic d),S):=by
 rw[FS,bE (show [d].length=1 from rfl),show aX mH [d]=[Y d] from rfl];simp only[yA,aJ,ez,gj,ai,bJ,oj,ob,ah,gq,Hx h];cases d<;>simp[JP,Ee,Ic,BZ h]
theorem rN{d:D}{lo:Int}(h:nr d=true):df [d,.int lo,.int hi] S=Y (.bl (rG lo hi d),S):=by
 rw[Av,bE (show [d,D.int lo,D.int hi].length=3 from rfl),show aX jB [d,.int lo,.int hi]=[Y d,Y (.int lo),Y (.int hi)] from rfl];simp![tF,ez,jq,vU h];cases d<;>simp[Ic,rG];rename_i i;by_cases h1:lo<=i<;>simp[h1]
def Pc(n:Int):D->Bool
 | .tup xs=>decide ((xs.length:Int)=n)
 | _=>false
theorem fg{d:D}(h:nr d=true):ca [d,.int n] S=Y (.bl (Pc n d),S):=by
 rw[pV,bE (show [d,D.int n].length=2 from rfl),show aX fS [d,.int n]=[Y d,Y (.int n)] from rfl];simp only[ng,aJ,ez,gj,ai,bJ,bQ,oj,ob,ah,gq,qr h];cases d<;>simp[fD,Pc];rfl
def wB(ys:List D):D->Bool
 | .str x=>ys.any λy=>iK y (.str x)
 | _=>false
theorem zb{d:D}{ys:List D}(h:el d=true)(hy:ys.all (cK 39)=true):dB [d,.tup ys] S=Y (.bl (wB ys d),S):=by
 rw[yr,bE (show [d,D.tup ys].length=2 from rfl),show aX lU [d,.tup ys]=[Y d,Y (.tup ys)] from rfl];simp only[uW,aJ,ez,gj,ai,bJ,bQ,oj,ob,ah,gq,RZ (el_nr h)];cases d with
 | str x=>
  have hi:nv S (.str x) (.tup ys)=Y (.bl (ys.any λy=>iK y (.str x))):=jy (ys:=ys) rfl rfl hy;simp[JM,hi,wB]
 | txt=>cases h
 | _=>simp[JM,wB]
theorem tofOk:YF ca:=λS xs k=>fg rfl
theorem OV:Ua dB:=λS x ys h=>by rw[yr,show uW=yd from rfl];exact OU (N:=lU) rfl h
theorem betOk:YJ df:=λS i lo hi=>rN rfl
theorem Rz{dd:Dd}(hd:dd.Ok n):kq [.int (n:Int),dd.d] S=Y 2.9:=by
 rw[Jj,show Bw=pP ca dB df from rfl];exact On tofOk OV betOk (N:=oA) rfl hd
theorem YC{R:Rm}{dd:Dd}(hl:R.1.length<=100)(hd:dd.Ok R.1.length):nZ [bh R,dd.d] S=Y (.bl (iD R dd),S):=by
 rw[No,show Ge=qL cF from rfl];by_cases ht:dd=.tick
 ·subst ht;exact Kz (N:=oC) rfl
 ·exact Oy uI (N:=oC) rfl hl hd ht
theorem rowOk:RowOk kP jg:=
 ⟨λS r n P h1 h5=>by rw[Dz];exact Tg iO (N:=lg) rfl P h1 0.0,
 λS rl R dd h hl hd=>by rw[Dy];exact SY doOk (N:=lf) rfl h hl hd⟩
theorem WC(S:ac)(n:Nat)(h5:n<=5):uq [.int (n:Int)] S=Y (bh (cz n),S):=by rw[QD,show Ll=uQ from rfl];exact Og (N:=uF) rfl h5
theorem Km{R:Rm}{dd:Dd}(hd:dd.Ok R.1.length)(hc:iD R dd=true):∃ x,dh r R dd=Y x:=by
 unfold dh;rw[if_neg (by rw[hc];decide)];cases dd with
 | ask wr g t=>exact⟨_,rfl⟩
 | tick=>exact⟨_,rfl⟩
 | act k g=>
  dsimp only;split
  ·exact⟨_,rfl⟩
  ·rw[aae (show g<R.1.length from hd)];exact⟨_,rfl⟩
def KK(S S':ac):Prop:=∀ i,i<S.length->S'[i]?=S[i]?
theorem KK.lt(h:KK S S'){i:Nat}(hi:i<S.length):i<S'.length:=by
 have:=h i hi;rw[aae hi] at this;exact(aaa.mp this).1
theorem KK.trans(h:KK S S')(h':KK S' S''):KK S S'':=λi hi=>(h' i (h.lt hi)).trans (h i hi)
theorem KK.app(T:ac):KK S (S++T):=λi hi=>aay hi
theorem KK.pk(h:KK S S')(P:Pk S q):Pk S' q:=by
 obtain⟨a,b,c,e,r⟩:=P;exact⟨a,b,c,(h q (aaa.mp e).1).trans e,r⟩
theorem Rb{r:Rl}{dd:Dd}(h:ROk R)(hl:R.1.length<=50)(hd:dd.Ok R.1.length):∃ T,jg [r.d,bh R,dd.d] S=Y (lB (dh r R dd),S++T):=rowOk.dn S r R dd h hl hd
theorem ZT(hc:iD R dd=false):dh r R dd=L:=by
 cases h:dh r R dd with
 | none=>rfl
 | some x=>rw[Ce h] at hc;cases hc
def yB:MY:=nM (Nt (fI (cS (dA (au 2 kq (aa '1' 1.03)))) (cS (dA (au 2 nZ (aa '3' 1.03))))) (tO '5') (EM bq)) (nM (EM (aV (au 3 vm (aa '0' (aa '3' 1.03))) (bo 2 9.8))) (nM (EM (gd (gi eQ '4' (aa (bb (aa '3' (aa '7' 1.13))) ak)))) (EM (aV '7' 'c'))))
def yG:MG:=bo 2 (ag 'e' (ag 'f' aZ))
def wyP:MY:=nM (EM (aV (au 1 uq 3.5) 'c')) (nM (EM (aV (gb ak) 'd')) (nM (Gm (gk 4.2) yG yB) (EM (bu '4'))))
theorem wy_me:lQ=Fu mD wyP 3:=meY rfl
section
variable{r:Rl}{n q:Nat}
theorem yNo{d:D}{k:Nat}{a2 a4 a7 a8:Option D}(h:kq [.int (n:Int),d] S=Y 2.5\/kq [.int (n:Int),d] S=Y 2.9/\nZ [bh R,d] S=Y 2.5) :
  yB [Y r.d,Y 0.5,a2,Y (bh R),a4,Y 8.4,Y d,a7,a8] S=Y (.xc (Y (k:Int)) S):=by
 rcases h with h | ⟨h,h2⟩
 ·simp![yB,nM,Nt,dY,cx,cw,h,cC,cy,aax,ls,acu,tO,ydI]
 ·simp![yB,nM,Nt,dY,cx,cw,h,h2,cC,cy,aau,aax,fX,acu,tO,ydI]
theorem yYes(hb:0<=r.b){S:ac}{dd:Dd}{a2 a5 a7 a8:Option D}(h:ROk R)(hn:R.1.length=n)(h5:n<=5)(hd:dd.Ok n)(hx:dh r R dd=Y x)(hq:S[q]?=Y (.lst zs))(hz:zs.length<=500) :
  ∃ b8 S',yB [Y r.d,Y 0.5,a2,Y (bh R),Y (.ref q),a5,Y dd.d,a7,a8] S=Y (.ok (.nx [Y r.d,Y 0.5,a2,Y (bh x.1),Y (.ref q),a5,Y dd.d,Y (bh x.1),b8] S'))/\S'[q]?=Y (.lst (zs++[vH (R,x.1,x.2)]))/\Kp q S S':=by
 have d1:=Rz (S:=S) hd;have c1:=YC (S:=S) (R:=R) (dd:=dd) 0.0 (by rw[hn];exact hd);rw[Ce hx] at c1;obtain⟨T,o1⟩:=pdone (S:=S) hb h 0.0 (by rw[hn];exact hd) hx;have o1':vm [r.d,bh R,dd.d] S=Y (.tup [bh x.1,dj x.2],S++T):=o1;have g2:∀ (u v:D) env S,bo 2 9.8 (.tup [u,v]) env S=9.8 [u,v] env S:=λu v env S=>cL;have k3:∀ S (u v w:D),cI ([u,v,w],S)=Y (.tup [u,v,w],S):=λS u v w=>aY 0.4;have cq:(S++T)[q]?=Y (.lst zs):=by rw[aay (aaa.mp hq).1];exact hq
 have ap:eQ (.ref q) [.tup [bh R,bh x.1,dj x.2]] (S++T)=Y (.non,(S++T).set q (.lst (zs++[vH (R,x.1,x.2)]))):=vt cq 0.0;have km:∀ f ms env,yV f ms env (.ref q,S++T)=(ms env (S++T)).bind (fY f (.ref q)):=λf ms env=>DZ cq;refine⟨Y (dj x.2),(S++T).set q (.lst (zs++[vH (R,x.1,x.2)])),?_,aaL (aaa.mp cq).1,λi h h'=>⟨by rw[aaC (Ne.symm h),aay h'],by rw[acT,aaj];omega⟩⟩;simp![yB,nM,Nt,EM,dY,cx,cw,d1,cC,cy,aau,fX,c1,aaQ,abP,bV,o1',g2,bH,cU,bY,qN,qM,km,k3,gn,ap,qQ]
theorem XC(hb:0<=r.b){a2:Option D}(h5:n<=5):∀ (l:List Dd) (R:Rm) (k:Nat) (S:ac) (zs:List D) (a5 a6 a7 a8:Option D),ROk R->R.1.length=n->(∀ d∈l,d.Ok n)->S[q]?=Y (.lst zs)->zs.length+l.length<=400 ->
  (∃ xs b3 b5 b6 b7 b8 S',cE r l R=Y xs/\pY yG yB (fK k 2.6) [Y r.d,Y 0.5,a2,Y (bh R),Y (.ref q),a5,a6,a7,a8] S=Y (.ok (.nx [Y r.d,Y 0.5,a2,b3,Y (.ref q),b5,b6,b7,b8] S'))/\S'[q]?=Y (.lst (zs++(sS R xs).map vH))/\Kp q S S') \/
  ∃ i S',cE r l R=L/\pY yG yB (fK k 2.6) [Y r.d,Y 0.5,a2,Y (bh R),Y (.ref q),a5,a6,a7,a8] S=Y (.xc i S')/\Kp q S S'
 | []=>λR k S zs a5 a6 a7 a8 h hn hd hq hz=>.inl ⟨[],_,a5,a6,a7,a8,S,rfl,rfl,by simp only[sS,acJ,aaJ];exact hq,λi u h=>⟨rfl,h⟩⟩
 | d::l=>λR k S zs a5 a6 a7 a8 h hn hd hq hz=>by
  rw[aam] at hz;have hd0:=hd d aac
  have hg:yG (.tup [.int (k:Int),d.d]) [Y r.d,Y 0.5,a2,Y (bh R),Y (.ref q),a5,a6,a7,a8] S=Y ([Y r.d,Y 0.5,a2,Y (bh R),Y (.ref q),Y 8.4,Y d.d,a7,a8],S):=by
   rw[yG,cL];simp only[bH,aR,ob,eD,fo,cU,bY]
  rw[aah,fK,pY,hg,ob];cases hc:iD R d with
  | false=>
   have c1:=YC (S:=S) (R:=R) (dd:=d) 0.0 (by rw[hn];exact hd0);rw[hc] at c1;rw[yNo (.inr ⟨Rz hd0,c1⟩),ob];exact .inr ⟨_,S,by unfold cE;rw[ZT hc];rfl,rfl,λi u h=>⟨rfl,h⟩⟩
  | true=>
   obtain⟨x,hx⟩:=Km (r:=r) (by rw[hn];exact hd0) hc;obtain⟨b8,S1,e1,q1,P1⟩:=yYes hb (a2:=a2) (a5:=Y 8.4) (a7:=a7) (a8:=a8) h hn h5 hd0 hx hq 0.0;obtain⟨h',hl'⟩:=fL h hx;rw[e1,ob];dsimp only;have w:cE r (d::l) R=(cE r l x.1).bind λxs=>Y (x::xs):=by show(dh r R d).bind _=_;rw[hx];rfl
   rcases XC hb h5 l x.1 (k+1) S1 _ (Y 8.4) (Y d.d) (Y (bh x.1)) b8 h' (hl'.trans hn) (λd' z=>hd d' (aaf _ z)) q1 (by rw[aaj,aaZ];omega) with ⟨xs,b3,b5,b6,b7,b9,S2,w2,e2,q2,P2⟩ | ⟨i,S2,w2,e2,P2⟩
   ·exact .inl ⟨x::xs,b3,b5,b6,b7,b9,S2,by rw[w,w2];rfl,e2,by rw[q2,sS,aah,aaP];rfl,P1.trans P2⟩
   ·exact .inr ⟨i,S2,by rw[w,w2];rfl,e2,P1.trans P2⟩
theorem YM(hb:0<=r.b){l:List Dd}(h5:n<=5)(hd:∀ d∈l,d.Ok n)(hl:l.length<=300) :
  (∃ xs S',cE r l (cz n)=Y xs/\lQ [r.d,.int (n:Int),.tup 2.6] S=Y (.val 1.1 S')/\S'[S.length]?=Y (.lst ((sS (cz n) xs).map vH))/\KK S S') \/
  ∃ i S',cE r l (cz n)=L/\lQ [r.d,.int (n:Int),.tup 2.6] S=Y (.xc i S')/\KK S S':=by
 have e0:=WC S n h5;have kl:vT ([],S)=Y (.ref S.length,S++[.lst []]):=nP 0.4;have ke:∀ S,GS ([.tup 2.6],S)=Y (fK 0 2.6,S):=λS=>rfl;have ek:∀ S',Kp S.length (S++[.lst []]) S'->KK S S':=λS' P i h=>(P i 0.0 (by rw[aaj];omega)).1.trans (aay h);rw[wy_me];unfold Fu;rw[aas (show [r.d,D.int (n:Int),D.tup 2.6].length=3 from rfl),show aX mD [r.d,.int (n:Int),.tup 2.6]=[Y r.d,Y 0.5,Y (.tup 2.6),L,L,L,L,L,L] from rfl];rcases XC (q:=S.length) (r:=r) hb (a2:=Y (.tup 2.6)) h5 l (cz n) 0 (S++[.lst []]) [] L L L L oi (by simp[cz]) hd lH 0.9 with ⟨xs,b3,b5,b6,b7,b8,S',w,e,hq,P⟩ | ⟨i,S',w,e,P⟩
 ·refine .inl ⟨xs,S',w,?_,by simpa using hq,ek _ P⟩;simp![wyP,nM,EM,jq,e0,tQ,kl,Gm,oQ,ke,e]
 ·refine .inr ⟨i,S',w,?_,ek _ P⟩;simp![wyP,nM,EM,jq,e0,tQ,kl,Gm,oQ,ke,e]
end
def Ys(A B:Rm):Bool:=iK (bh A) (bh B)
theorem Er{α:Type}{f:α->D}(h:∀ x y,iK (f x) (f y)=iK (f y) (f x)):∀ l m:List α,eqDs (l.map f) (m.map f)=eqDs (m.map f) (l.map f)
 | [],[]=>rfl
 | [],_::_=>rfl
 | _::_,[]=>rfl
 | x::l,y::m=>by show(_&&_)=(_&&_);rw[h,Er h l m]
theorem QZ(t u:Option Int):iK (bW t) (bW u)=iK (bW u) (bW t):=by
 cases t<;>cases u<;>first | rfl | exact adT
theorem qbf(e f:En):iK e.d f.d=iK f.d e.d:=by
 show((_==_)&&((_==_)&&((_==_)&&(_&&true))))=((_==_)&&((_==_)&&((_==_)&&(_&&true))));rw[adT (a:=(1.24:Int)),adT (a:=bI e.wr),adT (a:=e.m),QZ]
theorem WB(A B:Rm):Ys A B=Ys B A:=by
 show(_&&(_&&true))=(_&&(_&&true));rw[show iK (dm A.1) (dm B.1)=iK (dm B.1) (dm A.1) from Er (λv w=>(adT:(v.s==w.s)=_)) _ _,show iK (esD A.2) (esD B.2)=iK (esD B.2) (esD A.2) from Er qbf _ _]
theorem Yr:∀ {l m:List En},eqDs (l.map En.d) (m.map En.d)=true->l.map (·.g)=m.map (·.g)
 | [],[],_=>rfl
 | [],_::_,h=>by cases h
 | _::_,[],h=>by cases h
 | x::l,y::m,h=>by
  have h:(((((x.g:Nat):Int)==((y.g:Nat):Int))&&_)&&eqDs (l.map En.d) (m.map En.d))=true:=h;rw[aad,aad,beq_iff_eq] at h;rw[aah,aah,Yr h.2,Int.ofNat.inj h.1.1]
theorem Uz{l m:List En}(h:l.map (·.g)=m.map (·.g)):aW l g=aW m g:=by
 have q:∀ l:List En,aW l g=(l.map (·.g)).any λx=>decide (x=g):=λl=>by unfold aW;rw[abX];rfl
 rw[q,q,h]
theorem Oe(h:Ys A B=true):aW A.2 g=aW B.2 g:=by
 have h:(_&&(eqDs (A.2.map En.d) (B.2.map En.d)&&true))=true:=h;rw[aad,aad] at h;exact Uz (Yr h.2.1)
theorem fEqR:cJ S (bh A) (bh B)=Y (.bl (Ys A B)):=nw (Qv (n:=36)) (Qv (n:=36))
theorem EQ{m:List Dd}:∀ {l:List Dd} {R:Rm},cE r (l++m) R=(cE r l R).bind λxs=>(cE r m (dG R xs)).bind λys=>Y (xs++ys)
 | [],R=>by
  show cE r m R=(cE r m R).bind λys=>Y ys;cases cE r m R<;>rfl
 | d::l,R=>by
  show((dh r R d).bind λx=>(cE r (l++m) x.1).bind λxs=>Y (x::xs))=((dh r R d).bind λx=>(cE r l x.1).bind λxs=>Y (x::xs)).bind _;cases dh r R d with
  | none=>rfl
  | some x=>
   show(cE r (l++m) x.1).bind _=((cE r l x.1).bind _).bind _;rw[EQ (l:=l)];cases cE r l x.1 with
   | none=>rfl
   | some xs=>
    show((cE r m (dG x.1 xs)).bind _).bind _=(cE r m (dG x.1 xs)).bind _;cases cE r m (dG x.1 xs)<;>rfl
theorem KQ:∀ {xs ys:Rs} {R:Rm},sS R (xs++ys)=sS R xs++sS (dG R xs) ys
 | [],_,_=>rfl
 | x::xs,ys,R=>congrArg (_::·) (KQ (xs:=xs))
theorem xi:∀ {ys:Rs} {R:Rm},(sS R ys).map (·.2)=ys
 | [],_=>rfl
 | y::ys,R=>congrArg (_::·) (xi (ys:=ys))
def sX(g:Nat)(R:Rm)(ys:Rs):Bool:=!ys.isEmpty&&(Ys R (dG R ys)&&(ys.all (λy=>aW y.1.2 g)&&(ys.flatMap (·.2)).any λe=>e.w==rB))
def XI(r:Rl)(g:Nat)(m:List Dd)(R:Rm):Bool:=match cE r m R with
 | none=>false
 | some ys=>sX g R ys
def sT(r:Rl)(n g:Nat)(l m:List Dd):Bool:=match cE r l (cz n) with
 | none=>false
 | some xs=>XI r g m 1.45
theorem PN(h:cE r m R=L):XI r g m R=false:=by unfold XI;rw[h]
theorem KW(h:cE r m R=Y ys):XI r g m R=sX g R ys:=by unfold XI;rw[h]
theorem Pu(h:cE r l (cz n)=L):sT r n g l m=false:=by unfold sT;rw[h]
theorem Io(h:cE r l (cz n)=Y xs):sT r n g l m=XI r g m 1.45:=by unfold sT;rw[h]
theorem winOk{g:Nat}(h:ROk R)(hl:R.1.length<=100):kn [bh R,.int (g:Int)] S=Y (.bl (aW R.2 g),S):=by
 rw[FQ,bE (show [bh R,D.int (g:Int)].length=2 from rfl),show aX mE [bh R,D.int (g:Int)]=[Y (bh R),Y 0.2] from rfl];have w:=uI S R g hl
 have fi:nv S (lz R g) (.tup [.str "read",.str "write"])=Y (.bl (aW R.2 g)):=by
  unfold lz;cases q:R.2.find? λe=>decide (e.g=g) with
  | some e=>
   have he:=List.mem_of_find?_eq_some q;have hg:e.g=g:=by simpa using List.find?_some q
   have ho:=h.out e he;rw[hg] at ho;rw[if_neg (by rw[ho];decide),show aW R.2 g=true from aaS.mpr ⟨e,he,aal hg⟩];exact JY (by cases e.wr<;>decide +kernel)
  | none=>
   rw[show aW R.2 g=false from adk.mpr λe he=>adc.mp q e he];split
   ·rw[jy (ys:=[.str "read",.str "write"]) rfl rfl rfl];exact congrArg Y (congrArg D.bl (by decide +kernel))
   ·rfl
 simp![yx,show rh=.tup [.str "read",.str "write"] from rfl,w,fi]
theorem qa1(S:ac)(zs:List Tz)(hz:(zs.flatMap (·.2.2)).length<=1000):nX [.lst 1.65] S=Y (.bl ((zs.flatMap (·.2.2)).any λe=>e.w==rB),S):=by rw[Ji,show Bv=yf from rfl];exact JB (N:=oz) rfl hz
def stW:ME:=au 2 kn (aa '1' 3.7)
theorem Pv{g:Nat}:∀ (zs:List Tz) (a b c:Option D),(∀ z∈zs,ROk z.2.1/\z.2.1.1.length<=100) ->
  dF AJ bK stW 1.65 [a,b,c,Y 0.2] S=Y (zs.map (λz=>.bl (aW z.2.1.2 g)),S)
 | []=>λa b c w=>fA
 | z::zs=>λa b c h=>by
  obtain⟨h1,h2⟩:=h z aac;have ih:=Pv (S:=S) (g:=g) zs (Y (bh z.1)) (Y (bh z.2.1)) (Y (dj z.2.2)) λy hy=>h y (aaf _ hy)
  rw[aah,cT,show vH z=.tup [bh z.1,bh z.2.1,dj z.2.2] from rfl,show AJ (.tup [bh z.1,bh z.2.1,dj z.2.2]) [a,b,c,Y 0.2] S=Y ([Y (bh z.1),Y (bh z.2.1),Y (dj z.2.2),Y 0.2],S) by
   rw[AJ,qT];simp only[bH,aR,ob,eD,fo,cU,bY]]
  simp only[ob,kh,eO,kg];rw[show stW [Y (bh z.1),Y (bh z.2.1),Y (dj z.2.2),Y 0.2] S=Y (.bl (aW z.2.1.2 g),S) by simp![stW,winOk h1 h2]];simp only[ob,kf,ih,jZ];rfl
theorem YK(w:Ws r R l xs):ROk R->R.1.length<=5->(∀ x∈xs,ROk x.1/\x.1.1.length<=5)/\(xs.flatMap (·.2)).length<=15*xs.length:=by
 induction w with
 | nil=>exact λu u=>⟨λx z=>(by cases z),aao _⟩
 | cons q t ih=>
  intro h h5;obtain⟨h',hl⟩:=fL h q;have:=vy h h5 q;obtain⟨a,b⟩:=ih h' 0.0;refine⟨λx hx=>?_,by rw[adj,aaj,aam];omega⟩;rcases aaG.mp hx with rfl | hx
  ·exact⟨h',by omega⟩
  ·exact a x hx
theorem zE(xs:List D)(m:Nat):iC xs (Y (m:Int)) L=xs.drop m:=by
 unfold iC;rw[Fs,Ft];by_cases h:m<=xs.length
 ·rw[acS h,abN 0.4]
 ·rw[Nat.min_eq_right 0.0,adZ 0.0,adZ 0.0,adP]
theorem Xv{α:Type}{f:α->D}:∀ (zs:List α) {z:α},zs[zs.length - 1]?=Y z->qD (zs.map f) (-1)=Y (f z)
 | [],z,h=>by simp at h
 | y::zs,z,h=>by
  unfold qD;simp only[aai,aam] at h ⊢;rw[show JJ (zs.length+1) (-1)=Y (zs.length+1 - 1) by unfold JJ;simp;omega,Option.bind_some,abi,h];rfl
def svP:MS:=aM (Gn 3 lQ (aa '0' (aa '1' (aa (aB aH '3' '4') ak))) 5 false) (aM (aV (bw '5' (bS (bG (aS fJ) 3.7)) bD) 'f') (aM (cr (cS (dA '6')) (bu (mC 1.6)) bq) (aM (aV (aB aD (aB aD '6' 0e0) 0e0) 'g') (bu (eh (aB cJ '7' (aB aD (aB aD '6' (AH JW 1e0)) 1e0)) (eh (bG (aS sH) (aa (bZ (di '6') AJ bK stW [L,L,L,Y 2]) ak)) (au 1 nX 1.03)))))))
theorem sv_me:lR=aT oq svP 5:=ji rfl
theorem Mp{r:Rl}{n g:Nat}{l m:List Dd}(hb:0<=r.b)(h5:n<=5)(hd:∀ d∈l++m,d.Ok n)(hl:l.length+m.length<=60):∃ S',lR [r.d,.int (n:Int),.int (g:Int),.tup 2.6,.tup 1.48] S=Y (.bl (sT r n g l m),S')/\KK S S':=by
 rw[sv_me,bE (show [r.d,.int (n:Int),.int (g:Int),.tup 2.6,.tup 1.48].length=5 from rfl),show aX oq [r.d,.int (n:Int),.int (g:Int),.tup 2.6,.tup 1.48]=[Y r.d,Y 0.5,Y 0.2,Y (.tup 2.6),Y (.tup 1.48),L,L,L] from rfl];have ad:aH S (.tup 2.6) (.tup 1.48)=Y (.tup ((l++m).map Dd.d)):=by rw[cY 0.9,aaO]
 have sw:=EQ (r:=r) (l:=l) (m:=m) (R:=cz n);rcases YM (r:=r) (S:=S) hb h5 hd (by rw[aaj];omega) with ⟨zs,S1,w,e,hq,K⟩ | ⟨i,S1,w,e,K⟩
 ·rw[w] at sw;cases h1:cE r l (cz n) with
  | none=>rw[h1] at sw;cases sw
  | some xs=>
   rw[h1] at sw;rw[Io h1];have sw:Y zs=(cE r m 1.45).bind λys=>Y (xs++ys):=sw;cases h2:cE r m 1.45 with
   | none=>rw[h2] at sw;cases sw
   | some ys=>
    rw[h2] at sw;cases sw;rw[KW h2];have w1:=pC h1;have w2:=pC h2;have ok1:=w1.ok oi;have l0:(cz n).1.length=n:=by simp[cz]
    generalize hR:dG (cz n) xs=R at *
    have hz:((sS (cz n) (xs++ys)).map vH).drop l.length=(sS R ys).map vH:=by
     rw[KQ,hR,aaO,List.drop_left' (by rw[aai,xj,w1.len])]
    have fl:(sS R ys).flatMap (·.2.2)=ys.flatMap (·.2):=by
     conv=>rhs;rw[<- xi (ys:=ys) (R:=R),List.flatMap_map]
    have yl:=w2.len;obtain⟨ya,yb⟩:=YK w2 ok1.1 0.0
    have za:∀ z∈sS R ys,ROk z.2.1/\z.2.1.1.length<=100:=λz hz=>by
     have:z.2∈ys:=by rw[<- xi (ys:=ys) (R:=R)];exact List.mem_map_of_mem hz
     have:=ya _ this;exact⟨this.1,by omega⟩
    have sl:∀ h,eZ 1.1 (Y (l.length:Int)) (h,S1)=Y (.lst (iC ((sS (cz n) (xs++ys)).map vH) (Y (l.length:Int)) h),S1):=λh=>Rh hq;have la:∀ S,aS fJ [.tup 2.6] S=Y (.int (l.length:Int),S):=λS=>by rw[Ej,aai]
    refine⟨S1,?_,K⟩;have lt:=qa1 S1 (sS R ys) (by rw[fl];omega);rw[fl] at lt;have sc:=Pv (S:=S1) (g:=g) (sS R ys) L L L za
    have fa:aS sH [.lst ((sS R ys).map λz=>D.bl (aW z.2.1.2 g))] S1=Y (.bl (ys.all λy=>aW y.1.2 g),S1):=by
     rw[zA (lS (λz:Tz=>aW z.2.1.2 g) _)]
     conv=>rhs;rw[<- xi (ys:=ys) (R:=R),abY]
     rw[abY];rfl
    have sC:∀ a0 a1 a3 a4 a5 a7,bZ (di '6') AJ bK stW [L,L,L,Y 2] [a0,a1,Y 0.2,a3,a4,a5,Y (.lst ((sS R ys).map vH)),a7] S1=Y (.lst ((sS R ys).map λz=>D.bl (aW z.2.1.2 g)),S1):=λa0 a1 a3 a4 a5 a7=>by
     simp only[ci,db,ai,bJ,bQ,bR,oj,ob,ah,sB];rw[ej (by rw[aai,xj];omega),show lG [L,L,L,Y 2] [a0,a1,Y 0.2,a3,a4,a5,Y (.lst ((sS R ys).map vH)),a7]=[L,L,L,Y 0.2] from rfl,sc,ob,eo]
    simp![svP,Gn,ad,aam,abk,acu,e,cR,fC,dP,bT,bU,la,dQ,fB,da,sl,zE,hz,cx,cw,qab,cy,aek];unfold sX;cases ys with
    | nil=>simp only[sS,acJ,List.isEmpty_nil,bL,aJ,be,ob,ba,bC,az,aau,abc]
    | cons y ys=>
     have i0:aD S1 (.lst ((sS R (y::ys)).map vH)) (.int 0)=Y (vH (R,y.1,y.2)):=by rw[RX,sS,aah,zM 0.1 (by simp only[aam];omega)];rfl
     obtain⟨R0,es,q0⟩:=EU R (y::ys) 0.4;have i1:aD S1 (.lst ((sS R (y::ys)).map vH)) (.int (-1))=Y (vH (R0,dG R (y::ys),es)):=by rw[RX];exact Xv _ (by rw[xj];exact q0)
     have j0:aD S1 (vH (R,y.1,y.2)) (.int 0)=Y (bh R):=rfl;have j1:aD S1 (vH (R0,dG R (y::ys),es)) (.int 1)=Y (bh (dG R (y::ys))):=rfl;have em:((sS R (y::ys)).map vH).isEmpty=false:=rfl;simp![em,i0,j0,ez,XS,XV,RV,i1,j1,fEqR];rw[show(y::ys).isEmpty=false from rfl,aax,abn];cases Ys R (dG R (y::ys)) with
     | false=>simp only[nq,ob,ba,az,abc]
     | true=>
      simp only[kj,ob,abn,ez,bT,ar,sC,aq,ay,ao,bU,fa];cases(y::ys).all λy=>aW y.1.2 g with
      | false=>simp only[nq,ob,ba,az,abc]
      | true=>simp![kj,abn,jq,lt]
 ·rw[w] at sw;refine⟨S1,?_,K⟩
  have nn:sT r n g l m=false:=by
   cases h1:cE r l (cz n) with
   | none=>exact Pu h1
   | some xs=>
    rw[h1] at sw;rw[Io h1];have sw:L=(cE r m 1.45).bind λys=>Y (xs++ys):=sw;cases h2:cE r m 1.45 with
    | none=>exact PN h2
    | some ys=>rw[h2] at sw;cases sw
  rw[nn];simp![svP,Gn,ad,aam,abk,acu,e]
noncomputable abbrev cb(l:List Dd):D:=.tup 2.6
def mb(ds:List Dd)(d:Dd):Bool:=ds.any λy=>iK y.d d.d
def wS(g:Nat)(e:Ev):Bool:=(e.w==rB)&&!decide (e.g=g)
def lsE:ME:=bb (aa (aB dg (bb (aa (!"out") ak)) '1') 2.22)
def lsF:ME:=qa (aI (aB nv '7' '2')) (au 3 jg (aa '0' (aa '6' (aa '7' ak)))) 1.9
def lsA:MS:=aM (aV lsF 'h') (aM (cr (aI (aB AM '8' 1.9)) (bu (mC 1.6)) bq) (aV (aB aD '8' 0e0) 'f'))
def XT:MS:=aM (aV lsF 'h') (aM (cr (fI (aI (aB AM '8' 1.9)) (cS (dA (au 2 ig (aa (aB aD '8' 0e0) 3.7))))) (bu (mC 1.6)) bq) (nN 6 10 (aa (aB aD '8' 0e0) (aa (aB aH ':' (au 2 kQ (aa (aB aD '8' 1e0) 3.7))) ak))))
def lsP:MS:=aM (aV lsE 'f') (aM (gc '4' 'g' lsA) (aM (nN 9 10 (aa '6' 1.44)) (aM (cr (cS (dA (au 2 ig (aa '6' 3.7)))) (bu (mC 1.6)) bq) (aM (gc '5' 'g' XT) (bu (eh (aB cJ '6' '9') (aB Uh ':' 0e0)))))))
theorem ls_me:fh=aT gD lsP 6:=ji rfl
section
variable{r:Rl}{n g:Nat}{S:ac}{ds:List Dd}
theorem Yw(d:Dd):cK 39 d.d=true:=by
 cases d with
 | ask wr g t=>cases t<;>rfl
 | act k g=>rfl
 | tick=>rfl
theorem qbz:(ds.map Dd.d).all (cK 39)=true:=by rw[abY,aan];exact λd z=>Yw d
theorem RC{d:Dd}:nv S d.d (cb ds)=Y (.bl 1.88):=by
 rw[jy (ys:=ds.map Dd.d) rfl (tq 0.1 (Yw d)) qbz,abX];rfl
theorem KN{R:Rm}(hl:R.2.length<=100):ig [bh R,.int (g:Int)] S=Y (.bl (aW R.2 g),S):=by
 rw[AC,bE (show [bh R,D.int (g:Int)].length=2 from rfl),show aX jI [bh R,D.int (g:Int)]=[Y (bh R),Y 0.2] from rfl];have x1:aD S (bh R) (.int 1)=Y 4.6:=rfl;simp![tN,ci,db,x1,fF,gsC (es:=R.2) (cap:=[L]) (env:=[Y (bh R),Y 0.2]) rfl hl,JZ]
theorem coX:∀ (es:List Ev) (a:Option D),(∀ e∈es,(e.w==rB)=wS g e)->dF '`' (aI (aB cJ 1.0 (!"in"))) '0' (es.map Ev.d) [a] S=Y ((es.filter (wS g)).map Ev.d,S)
 | []=>λa q=>fA
 | e::es=>λa h=>by
  have ih:=coX es (Y e.d) λe he=>h e (aaf _ he);have fe:cJ S (.str e.w) (.str "in")=Y (.bl (e.w==rB)):=dC;have x0:aD S e.d (.int 0)=Y (.str e.w):=rfl;rw[aah,cT];simp![kh,x0,fe,h e aac];cases z:wS g e with
  | false=>rw[yX,ih,aaR,z];rfl
  | true=>simp only[kg,ai,bJ,oj,ob,ah,kf,ih,jZ,aaR,z,acu,aah]
theorem qbE{es:List Ev}(hl:es.length<=100)(h:∀ e∈es,(e.w==rB)=wS g e):kQ [dj es,.int (g:Int)] S=Y (.int ((es.filter (wS g)).length:Int),S):=by
 rw[DB,bE (show [dj es,D.int (g:Int)].length=2 from rfl),show aX lh [dj es,D.int (g:Int)]=[Y (dj es),Y 0.2] from rfl]
 have no:nv S (.tup [.str "in",.int (g:Int)]) (dj es)=Y 1.6:=by
  rw[dj,jy (ys:=es.map Ev.d) rfl rfl (by rw[abY,aan];exact λq q=>rfl),abX]
  congr 2
  rw[adk];intro e he z;have z:((e.w==rB)&&(((1.24:Int)==(g:Int))&&true))=true:=z;rw[h e he,adg,aad,beq_iff_eq] at z;unfold wS at z;rw[aal (show e.g=g by omega),aau,abt] at z;cases z.1
 have it:GR (dj es,S)=Y (es.map Ev.d,S):=rfl;have ll:aS fJ [.lst ((es.filter (wS g)).map Ev.d)] S=Y (.int ((es.filter (wS g)).length:Int),S):=by show Y (_,_)=_;rw[aai]
 have co:=coX (S:=S) es L h
 have kc:jp '`' (aI (aB cJ 1.0 (!"in"))) '0' [L] [Y (dj es),Y 0.2] (es.map Ev.d,S)=Y (.lst ((es.filter (wS g)).map Ev.d),S):=by
  rw[ej 3.0,show lG [L] [Y (dj es),Y 0.2]=[L] from rfl,co,ob,eo]
 simp![vQ,ga,no,bT,ci,db,it,kc,bU,ll]
theorem isn:AM S (lB o) .non=Y (.bl o.isNone):=by cases o<;>rfl
theorem QT{d:Dd}{a1 a3 a4 a5 a8 a9 a10:Option D}(h:ROk R)(hl:R.1.length<=50)(hd:d.Ok R.1.length)(hm:mb ds d=true):∃ T,lsF [Y r.d,a1,Y (cb ds),a3,a4,a5,Y (bh R),Y d.d,a8,a9,a10] S=Y (lB (dh r R d),S++T):=by
 obtain⟨T,e⟩:=Rb (S:=S) (r:=r) h hl hd;refine⟨T,?_⟩;have i:nv S d.d (cb ds)=Y 4.3:=by rw[RC,hm]
 simp![lsF,ph,i,BG,bV,e]
theorem QV{a4 a5 a9 a10:Option D}(h5:n<=5):∀ (l:List Dd) (R:Rm) (S:ac) (a7 a8:Option D),ROk R->R.1.length=n->(∀ d∈l,d.Ok n/\mb ds d=true) ->
  (∃ xs b7 b8 S',cE r l R=Y xs/\cO 'g' lsA 2.6 [Y r.d,Y 0.5,Y (cb ds),Y 0.2,a4,a5,Y (bh R),a7,a8,a9,a10] S=Y (.nx [Y r.d,Y 0.5,Y (cb ds),Y 0.2,a4,a5,Y (bh (dG R xs)),b7,b8,a9,a10] S')/\KK S S') \/
  ∃ S',cE r l R=L/\cO 'g' lsA 2.6 [Y r.d,Y 0.5,Y (cb ds),Y 0.2,a4,a5,Y (bh R),a7,a8,a9,a10] S=Y (.rt 1.6 S')/\KK S S'
 | []=>λR S a7 a8 h hn hd=>.inl ⟨[],a7,a8,S,rfl,uX,λq q=>rfl⟩
 | d::l=>λR S a7 a8 h hn hd=>by
  obtain⟨hd1,hd2⟩:=hd d aac;obtain⟨T,e⟩:=QT (S:=S) (r:=r) (ds:=ds) (d:=d) (a1:=Y 0.5) (a3:=Y 0.2) (a4:=a4) (a5:=a5) (a8:=a8) (a9:=a9) (a10:=a10) h 0.0 (by rw[hn];exact hd1) hd2;rw[aah,fz];simp![oS,lsA,e,isn];cases hx:dh r R d with
  | none=>
   refine .inr ⟨S++T,by show(dh r R d).bind _=_;rw[hx];rfl,?_,KK.app _⟩;simp only[aew,bL,aJ,be,ob,ba,bC,tV]
  | some x=>
   have x0:∀ S,aD S (lB (Y x)) (.int 0)=Y (bh x.1):=λS=>rfl;obtain⟨h',hl'⟩:=fL h hx;have w:cE r (d::l) R=(cE r l x.1).bind λxs=>Y (x::xs):=by show(dh r R d).bind _=_;rw[hx];rfl
   simp![aev,x0,mU];rcases QV (a4:=a4) (a5:=a5) (a9:=a9) (a10:=a10) h5 l x.1 (S++T) (Y d.d) (Y (lB (Y x))) h' (hl'.trans hn) (λd' z=>hd d' (aaf _ z)) with ⟨xs,b6,b7,S2,w2,e2,K2⟩ | ⟨S2,w2,e2,K2⟩
   ·exact .inl ⟨x::xs,b6,b7,S2,by rw[w,w2];rfl,e2,(KK.app T).trans K2⟩
   ·exact .inr ⟨S2,by rw[w,w2];rfl,e2,(KK.app T).trans K2⟩
def Yh(r:Rl)(g:Nat):List Dd->Rm->Nat->Option (Rm×Nat)
 | [],R,k=>Y (R,k)
 | d::l,R,k=>match dh r R d with
  | none=>L
  | some x=>if aW x.1.2 g=true then Yh r g l x.1 (k+(x.2.filter (wS g)).length) else L
theorem RB{d:Dd}(h:ROk R)(hx:dh r R d=Y x)(hs:aW x.1.2 g=true):∀ e∈x.2,(e.w==rB)=wS g e:=λe he=>by
 obtain⟨h',q⟩:=fL h hx;unfold wS;cases hi:(e.w==rB) with
 | false=>rfl
 | true=>
  obtain⟨wr,h1,q⟩:=WP h hx he hi
  have ne:e.g≠g:=λz=>by
   obtain⟨f,hf,hg⟩:=aaS.mp hs;have:=h'.out f hf;rw[aaU hg,<- z,h1] at this;exact(JS wr).1 (aaB this)
  rw[aap ne];rfl
theorem QU{a4 a5 a9:Option D}(h5:n<=5):∀ (l:List Dd) (R:Rm) (k:Nat) (S:ac) (a7 a8:Option D),ROk R->R.1.length=n->(∀ d∈l,d.Ok n/\mb ds d=true) ->
  (∃ R' k' b7 b8 S',Yh r g l R k=Y (R',k')/\cO 'g' XT 2.6 [Y r.d,Y 0.5,Y (cb ds),Y 0.2,a4,a5,Y (bh R),a7,a8,a9,Y 8.4] S=Y (.nx [Y r.d,Y 0.5,Y (cb ds),Y 0.2,a4,a5,Y (bh R'),b7,b8,a9,Y (.int (k':Int))] S')/\KK S S') \/
  ∃ S',Yh r g l R k=L/\cO 'g' XT 2.6 [Y r.d,Y 0.5,Y (cb ds),Y 0.2,a4,a5,Y (bh R),a7,a8,a9,Y 8.4] S=Y (.rt 1.6 S')/\KK S S'
 | []=>λR k S a7 a8 h hn hd=>.inl ⟨R,k,a7,a8,S,rfl,uX,λw w=>rfl⟩
 | d::l=>λR k S a7 a8 h hn hd=>by
  obtain⟨hd1,hd2⟩:=hd d aac;obtain⟨T,e⟩:=QT (S:=S) (r:=r) (ds:=ds) (d:=d) (a1:=Y 0.5) (a3:=Y 0.2) (a4:=a4) (a5:=a5) (a8:=a8) (a9:=a9) (a10:=Y 8.4) h 0.0 (by rw[hn];exact hd1) hd2;rw[aah,fz];simp![oS,XT,e,dY,isn];cases hx:dh r R d with
  | none=>
   refine .inr ⟨S++T,by unfold Yh;rw[hx],?_,KK.app _⟩;simp only[aew,ls,bL,aJ,be,ob,ba,bC,tV]
  | some x=>
   obtain⟨h',hl'⟩:=fL h hx;have hl2:=h'.len;have hf:=vy h 0.0 hx;have hw:=KN (S:=S++T) (g:=g) (R:=x.1) 0.0;have x0:∀ S,aD S (lB (Y x)) (.int 0)=Y (bh x.1):=λS=>rfl;have x1:∀ S,aD S (lB (Y x)) (.int 1)=Y (dj x.2):=λS=>rfl;have go:Yh r g (d::l) R k=if aW x.1.2 g=true then Yh r g l x.1 (k+(x.2.filter (wS g)).length) else L:=by conv=>lhs;unfold Yh;rw[hx]
   simp![aev,fX,cx,cw,x0,hw,cC,cy];cases hs:aW x.1.2 g with
   | false=>
    refine .inr ⟨S++T,by rw[go,hs];rfl,?_,KK.app _⟩;simp only[aax,bL,aJ,be,ob,ba,bC,tV]
   | true=>
    rw[hs,aas rfl] at go;have co:=qbE (S:=S++T) 0.0 (RB h hx hs);simp![aau,Jv,x0,x1,co,lv,JF,mU];rcases QU (a4:=a4) (a5:=a5) (a9:=a9) h5 l x.1 (k+(x.2.filter (wS g)).length) (S++T) (Y d.d) (Y (lB (Y x))) h' (hl'.trans hn) (λd' z=>hd d' (aaf _ z)) with ⟨R',k',b6,b7,S2,w2,e2,K2⟩ | ⟨S2,w2,e2,K2⟩
    ·exact .inl ⟨R',k',b6,b7,S2,by rw[go,w2],by rw[<- e2];simp only[adB,XT],(KK.app T).trans K2⟩
    ·exact .inr ⟨S2,by rw[go,w2],by rw[<- e2];simp only[adB,XT],(KK.app T).trans K2⟩
end
section
variable{r:Rl}{n g:Nat}{S:ac}
theorem Yg:∀ (l:List Dd) (R:Rm) (k:Nat),Yh r g l R k=(cE r l R).bind λys=>if ys.all (λy=>aW y.1.2 g)=true then Y (dG R ys,k+((ys.flatMap (·.2)).filter (wS g)).length) else L
 | []=>λR k=>rfl
 | d::l=>λR k=>by
  show(match dh r R d with | none=>L | some x=>_)=((dh r R d).bind λx=>(cE r l x.1).bind λxs=>Y (x::xs)).bind _;cases dh r R d with
  | none=>rfl
  | some x=>
   dsimp only;rw[Yg l x.1];show _=((cE r l x.1).bind λxs=>Y (x::xs)).bind _;cases cE r l x.1 with
   | none=>cases aW x.1.2 g<;>rfl
   | some ys=>
    show _=if (aW x.1.2 g&&ys.all _)=true then Y (dG x.1 ys,k+((x.2++ys.flatMap (·.2)).filter (wS g)).length) else L
    cases aW x.1.2 g with
    | false=>rfl
    | true=>rw[List.filter_append,aaj,<- Nat.add_assoc];rfl
theorem in_eq(w:Ws r R l ys):ROk R->(∀ y∈ys,aW y.1.2 g=true)->∀ e∈ys.flatMap (·.2),(e.w==rB)=wS g e:=by
 induction w with
 | nil=>intro z z e he;cases he
 | @cons R d x l ys hx t ih=>
  intro h ha e he;rw[adj] at he;rcases aar.mp he with he | he
  ·exact RB h hx (ha x aac) e he
  ·exact ih (fL h hx).1 (λy hy=>ha y (aaf _ hy)) e he
theorem Xy{l:List Ev}(h:∀ e∈l,(e.w==rB)=wS g e):l.any (λe=>e.w==rB)=decide (0<(l.filter (wS g)).length):=by
 induction l with
 | nil=>rfl
 | cons e l ih=>
  rw[abr,h e aac,ih λe he=>h e (aaf _ he),aaR];cases wS g e with
  | false=>rfl
  | true=>rw[aas rfl,Bool.true_or,aal (by rw[aam];omega)]
theorem GM:∀ {ys:Rs} {R:Rm},ys≠[]->∃ y∈ys,dG R ys=y.1
 | [],R,h=>absurd rfl h
 | [y],R,_=>⟨y,aac,rfl⟩
 | y::z::ys,R,_=>by
  obtain⟨u,hu,e⟩:=GM (ys:=z::ys) (R:=y.1) 0.4;exact⟨u,aaf _ hu,e⟩
theorem IH(h:sX g R ys=true):aW R.2 g=true:=by
 unfold sX at h;simp only[aad,Bool.not_eq_true',aan] at h;obtain⟨y,hy,e⟩:=GM (R:=R) (ys:=ys) (by intro z;rw[z] at h;cases h.1);rw[Oe h.2.1,e];exact h.2.2.1 y hy
theorem VF{l m:List Dd}(h5:n<=5)(hl:∀ d∈l,d.Ok n/\mb ds d=true)(hm:∀ d∈m,d.Ok n/\mb ds d=true):∃ S',fh [r.d,.int (n:Int),cb ds,.int (g:Int),cb l,cb m] S=Y (.bl (sT r n g l m),S')/\KK S S':=by
 rw[ls_me,bE (show [r.d,.int (n:Int),cb ds,.int (g:Int),cb l,cb m].length=6 from rfl),show aX gD [r.d,.int (n:Int),cb ds,.int (g:Int),cb l,cb m]=[Y r.d,Y 0.5,Y (cb ds),Y 0.2,Y (cb l),Y (cb m),L,L,L,L,L] from rfl];have e0:lsE [Y r.d,Y 0.5,Y (cb ds),Y 0.2,Y (cb l),Y (cb m),L,L,L,L,L] S=Y (bh (cz n),S):=SE (S:=S) (n:=n) (i:=1) h5 (by simp only[ai,bJ,bQ,bR,oj,ob,ah]);have l0:(cz n).1.length=n:=by simp[cz]
 rcases QV (r:=r) (g:=g) (ds:=ds) (a4:=Y (cb l)) (a5:=Y (cb m)) (a9:=L) (a10:=L) h5 l (cz n) S L L oi l0 hl with ⟨xs,b7,b8,S1,w1,e1,K1⟩ | ⟨S1,w1,e1,K1⟩
 ·rw[Io w1];have ok1:=(pC w1).ok oi;generalize dG (cz n) xs=R at *;have hll:=ok1.1.len;have hw:=KN (S:=S1) (g:=g) (R:=R) 0.0;simp![lsP,e0,lF,xB,e1,Jv,JF,cx,cw,hw,cC,cy];cases hs:aW R.2 g with
  | false=>
   refine⟨S1,?_,K1⟩
   have:XI r g m R=false:=by
    cases hw:cE r m R with
    | none=>exact PN hw
    | some ys=>
     rw[KW hw];cases h:sX g R ys with
     | false=>rfl
     | true=>rw[IH h] at hs;cases hs
   rw[this];simp only[aax,bL,aJ,be,ob,ba,bC,az]
  | true=>
   simp only[aau,bO,bz,ob,aE];have go:=Yg (r:=r) (g:=g) m R 0;rcases QU (r:=r) (g:=g) (ds:=ds) (a4:=Y (cb l)) (a5:=Y (cb m)) (a9:=Y (bh R)) h5 m R 0 S1 b7 b8 ok1.1 (ok1.2.trans l0) hm with ⟨R',k',c7,c8,S2,w2,e2,K2⟩ | ⟨S2,w2,e2,K2⟩
   ·refine⟨S2,?_,K1.trans K2⟩;rw[w2] at go;cases hw:cE r m R with
    | none=>rw[hw] at go;cases go
    | some ys=>
     rw[hw] at go;have go:Y (R',k')=if ys.all (λy=>aW y.1.2 g)=true then Y (dG R ys,0+((ys.flatMap (·.2)).filter (wS g)).length) else L:=go
     split at go
     ·rename_i ha;cases go;have ie:=Xy (in_eq (pC hw) ok1.1 (aan.mp ha))
      have rg:sX g R ys=(Ys (dG R ys) R&&decide (0<((ys.flatMap (·.2)).filter (wS g)).length)):=by
       unfold sX;rw[ha,abn,ie,WB];cases ys with
       | nil=>show false=(_&&false);rw[abt]
       | cons y ys=>rfl
      have e2':cO 'g' XT 1.48 [Y r.d,Y 0.5,Y (cb ds),Y 0.2,Y (cb l),Y (cb m),Y (bh R),_,_,Y (bh R),Y (.int 0)] S1=_:=e2;rw[KW hw,rg];simp![lF,xB,e2',ez,fEqR];cases Ys (dG R ys) R with
      | false=>simp only[nq,ob,ba,az,abc]
      | true=>
       have gt:∀ S,Uh S (.int ((0+((ys.flatMap (·.2)).filter (wS g)).length:Nat):Int)) (.int 0)=Y (.bl (decide (0<((ys.flatMap (·.2)).filter (wS g)).length))):=λS=>by
        rw[Sb];congr 2;rw[aaH,acH,acH];omega
       simp![kj,gt,abn]
     ·cases go
   ·refine⟨S2,?_,K1.trans K2⟩;have e2':cO 'g' XT 1.48 [Y r.d,Y 0.5,Y (cb ds),Y 0.2,Y (cb l),Y (cb m),Y (bh R),b7,b8,Y (bh R),Y (.int 0)] S1=_:=e2
    have:XI r g m R=false:=by
     rw[w2] at go;cases hw:cE r m R with
     | none=>exact PN hw
     | some ys=>
      rw[hw] at go;have go:L=if ys.all (λy=>aW y.1.2 g)=true then Y (dG R ys,0+((ys.flatMap (·.2)).filter (wS g)).length) else L:=go
      rw[KW hw];split at go
      ·cases go
      ·rename_i ha;unfold sX;rw[show(ys.all λy=>aW y.1.2 g)=false by simpa using ha,abc,abt,abt]
    rw[this];simp only[aQ,lF,ai,bJ,bQ,bR,oj,ah,xB,e2',ob,bC,az]
 ·refine⟨S1,?_,K1⟩;rw[Pu w1];simp![lsP,e0,lF,xB,e1]
end
section
variable{r:Rl}{n g:Nat}{S:ac}{ds:List Dd}
theorem k1(S:ac)(p:D):cI ([p],S)=Y (.tup [p],S):=aY 0.4
theorem PM{g:D}{S':ac}(hw:el w=true)(hg:nr g=true)(ha:nr a=true)(hb:nr b=true)
  (hs:wB [.str "starves"] w=true->rG 0 ((n:Int) - 1) g=true->fD a=true->fD b=true->lR [r.d,.int (n:Int),g,a,b] S=Y (.bl x,S'))
  (hn:(wB [.str "starves"] w&&(rG 0 ((n:Int) - 1) g&&(fD a&&fD b)))=false->x=false/\S'=S):eJ [r.d,.int (n:Int),.tup [w,g,a,b]] S=Y (.bl x,S'):=by
 rw[rL,bE (show [r.d,D.int (n:Int),.tup [w,g,a,b]].length=3 from rfl),show aX ij [r.d,D.int (n:Int),.tup [w,g,a,b]]=[Y r.d,Y 0.5,Y (.tup [w,g,a,b]),L,L,L,L] from rfl];have tf:ca [.tup [w,g,a,b],.int 4] S=Y 2.9:=fg rfl;have wd:=zb (S:=S) (ys:=[.str "starves"]) hw rfl;have bt:=rN (S:=S) (lo:=0) (hi:=(n:Int) - 1) hg;have g4:∀ env,bo 4 7.7 (.tup [w,g,a,b]) env S=7.7 [w,g,a,b] env S:=λenv=>mV;simp![oP,cx,cw,tf,cC,cy,aau,g4,bH,cU,bY,dY,k1,wd];cases h1:wB [.str "starves"] w with
 | false=>
  rw[h1] at hn;obtain⟨rfl,rfl⟩:=hn rfl;simp only[aax,ls,bL,aJ,be,ob,ba,bC,az]
 | true=>
  simp![aau,fX,cx,cw,qp,bV,bt,cC,cy];cases h2:rG 0 ((n:Int) - 1) g with
  | false=>
   rw[h1,h2] at hn;obtain⟨rfl,rfl⟩:=hn rfl;simp only[aax,bL,aJ,be,ob,ba,bC,az]
  | true=>
   simp![aau,ez,gj,gq,qr ha];cases h3:fD a with
   | false=>
    rw[h1,h2,h3] at hn;obtain⟨rfl,rfl⟩:=hn rfl;simp only[nq,ob,ba,az]
   | true=>
    simp only[kj,ez,gj,ai,bJ,bQ,bR,oj,ob,ah,gq,qr hb];cases h4:fD b with
    | false=>
     rw[h1,h2,h3,h4] at hn;obtain⟨rfl,rfl⟩:=hn rfl;simp only[nq,ob,ba,az]
    | true=>simp![kj,yY,hs h1 h2 h3 h4]
theorem Cw{lo:Int}(h:nr o=true):dD [o,.int lo,.int hi] S=Y (.bl (rG lo hi o),S):=by
 rw[AB,bE (show [o,D.int lo,D.int hi].length=3 from rfl),show aX jH [o,.int lo,.int hi]=[Y o,Y (.int lo),Y (.int hi)] from rfl];simp only[tL,aJ,ez,gj,ai,bJ,oj,ob,ah,gq,Hx h];cases o<;>simp[JP,Ee,rG,BZ h];rename_i i;by_cases h1:lo<=i<;>simp[h1]
def szL:List (cj×D):=[(.inr "read",.int 3),(.inr "write",.int 3),(.inr "up",.int 2),(.inr "down",.int 2),(.inr "leave",.int 2),(.inr "stop",.int 2),(.inr "tick",.int 1)]
def Op:Dd->Int
 | .ask _ _ _=>3
 | .act _ _=>2
 | .tick=>1
theorem Zc(d:Dd):(fH szL (.inr (dS d))).getD (.int 0)=.int (Op d):=by
 cases d with
 | ask wr g t=>cases wr<;>simp (decide:=true) [fH,szL,dS,bI,Op]
 | act k g=>cases k<;>simp (decide:=true) [fH,szL,dS,Ak.s,Op]
 | tick=>simp (decide:=true) [fH,szL,dS,Op]
theorem oR{dd:Dd}(hd:dd.Ok n):er [.int (n:Int),dd.d] S=Y 2.9:=by
 rw[wO,bE (show [D.int (n:Int),dd.d].length=2 from rfl),show aX gF [.int (n:Int),dd.d]=[Y 0.5,Y dd.d,L] from rfl];have kd:qc (szL,S)=Y (.dct (szL.map (·.1)) (szL.map (·.2)),S):=qb (show(szL.map (·.1)).Nodup by decide +kernel) (by show 7<=15;decide);have kd':qc ([(.inr "read",.int 3),(.inr "write",.int 3),(.inr "up",.int 2),(.inr "down",.int 2),(.inr "leave",.int 2),(.inr "stop",.int 2),(.inr "tick",.int 1)],S)=_:=kd;have it:og "tuple" S dd.d=Y 4.3:=by cases dd<;>rfl
 have ln:aS fJ [dd.d] S=Y (.int (Op dd),S):=by cases dd<;>rfl
 have x0:aD S dd.d (.int 0)=Y 1.47:=by cases dd<;>rfl
 have is:og "str" S 1.47=Y 4.3:=rfl;have gt:zx (.dct (szL.map (·.1)) (szL.map (·.2))) [.str (dS dd),.int 0] S=Y (.int (Op dd),S):=by rw[LO (k:=.inr (dS dd)) rfl,Zc]
 have e0:(Op dd==0)=false:=by cases dd<;>rfl
 simp![pX,dY,cx,cw,gj,gq,it,cC,cy,aau,fX,bT,bU,ln,lu,e0,x0,is,xz,kH,yT,yS,jX,yR,kd',yJ,GQ,gn,gt,zw,BEq.rfl,qO,Sb]
 have wh:∀ i:Nat,i<n->dD [.int (i:Int),.int 0,.int ((n:Int) - 1)] S=Y 2.9:=λi hi=>by
  rw[Cw rfl,show rG 0 ((n:Int) - 1) 5.6=true by simp only[rG,aad,aaV];omega]
 cases dd with
 | ask wr g t=>
  obtain⟨h1,h2⟩:=hd;have x1:aD S (Dd.ask wr g t).d (.int 1)=Y 0.2:=rfl;have x2:aD S (Dd.ask wr g t).d (.int 2)=Y (bW t):=rfl;simp![show decide (1<Op (Dd.ask wr g t))=true from rfl,oU,cx,cw,x1,qp,bV,wh g h1,cC,cy,aau,Gq,bT,bU,ln,LN,show decide (Op (Dd.ask wr g t)<3)=false from rfl,Rj,x2];cases t with
  | none=>
   have z:AM S (bW L) .non=Y 4.3:=rfl;simp only[z,ob,ah,LB,ba,az]
  | some k=>
   have z:AM S (bW (Y k)) .non=Y 1.6:=rfl
   have w9:dD [bW (Y k),.int 0,.int 9] S=Y 2.9:=by
    rw[Cw rfl,show rG 0 9 (bW (Y k))=true by have:=h2 k rfl;show(decide _&&decide _)=true;rw[aal this.1,aal this.2];rfl]
   simp![z,Rj,x2,bV,w9]
 | act k g=>
  have x1:aD S (Dd.act k g).d (.int 1)=Y 0.2:=rfl;simp![show decide (1<Op (Dd.act k g))=true from rfl,oU,cx,cw,x1,qp,bV,wh g hd,cC,cy,aau,Gq,bT,bU,ln,LN,show decide (Op (Dd.act k g)<3)=true from rfl,LB]
 | tick=>simp![show decide (1<Op Dd.tick)=false from rfl,Ec,Gq,bT,bU,ln,LN,show decide (Op Dd.tick<3)=true from rfl,LB]
def arE:ME:=eh (au 2 er (aa '2' 7.8)) 9.9
theorem arX:∀ (l:List Dd) (a:Option D),(∀ d∈l,d.Ok n)->dF '`' bK arE 2.6 [a,Y (cb ds),Y 0.5] S=Y (l.map λd=>.bl 1.88,S)
 | []=>λa z=>fA
 | d::l=>λa h=>by
  have ih:=arX l (Y d.d) λd hd=>h d (aaf _ hd);have e:=oR (S:=S) (h d aac);rw[aah,cT,aR,ob];simp only[eD,kh,eO,ob,kg];rw[show arE [Y d.d,Y (cb ds),Y 0.5] S=Y (.bl 1.88,S) by simp![arE,ez,e,kj,RC]];simp only[ob,kf,ih,jZ,aah]
theorem TX{l:List Dd}(h:∀ d∈l,d.Ok n)(hl:l.length<=60):cD [.int (n:Int),cb ds,cb l] S=Y (.bl (l.all (mb ds)),S):=by
 rw[mS,bE (show [D.int (n:Int),cb ds,cb l].length=3 from rfl),show aX dX [.int (n:Int),cb ds,cb l]=[Y 0.5,Y (cb ds),Y (cb l)] from rfl];have it:og "tuple" S (cb l)=Y 4.3:=rfl;have fa:aS sH [.lst (l.map λd=>D.bl 1.88)] S=Y (.bl (l.all (mb ds)),S):=by rw[zA (lS (mb ds) l),abY];rfl
 have kc:jp '`' bK (eh (au 2 er (aa '2' 7.8)) 9.9) [L,Y 1,Y 0] [Y 0.5,Y (cb ds),Y (cb l)] (l.map Dd.d,S)=Y (.lst (l.map λd=>.bl 1.88),S):=by
  show jp '`' bK arE _ _ _=_;rw[ej 3.0,show lG [L,Y 1,Y 0] [Y 0.5,Y (cb ds),Y (cb l)]=[L,Y (cb ds),Y 0.5] from rfl,arX l L h,ob,eo]
 simp![jW,cx,cw,gj,gq,it,cC,cy,aau,bT,ci,db,vj,kc,bU,fa]
theorem areNo(h:nr x=true)(hx:fD x=false):cD [.int (n:Int),cb ds,x] S=Y 2.5:=by
 rw[mS,bE (show [D.int (n:Int),cb ds,x].length=3 from rfl),show aX dX [.int (n:Int),cb ds,x]=[Y 0.5,Y (cb ds),Y x] from rfl];have it:=qr (S:=S) h;rw[hx] at it;simp![jW,cx,cw,gj,gq,it,cC,cy,aax]
theorem lngN{d:D}(h:ca [d,.int 4] S=Y 2.5):dk [r.d,.int (n:Int),cb ds,.int (g:Int),d] S=Y 2.5:=by
 rw[jV,bE (show [r.d,D.int (n:Int),cb ds,.int (g:Int),d].length=5 from rfl),show aX dN [r.d,D.int (n:Int),cb ds,.int (g:Int),d]=[Y r.d,Y 0.5,Y (cb ds),Y 0.2,Y d] from rfl];simp![iI,cx,cw,h,cC,cy,aax]
theorem inX:∀ (l:List Dd) (a:Option D),dF '`' bK 9.9 2.6 [a,Y (cb ds)] S=Y (l.map λd=>.bl 1.88,S)
 | []=>λa=>fA
 | d::l=>λa=>by
  rw[aah,cT];simp![kh,eO,kg,RC,kf,inX l (Y d.d),jZ,aah]
theorem VE{o x y:D}{S1:ac}(hr:eJ [r.d,.int (n:Int),.tup [.str "starves",o,x,y]] S=Y (.bl b,S1))(hb:b=true->∃ (i:Nat) (l m:List Dd),o=.int (i:Int)/\x=cb l/\y=cb m/\l.length+m.length<=60)(v:Bool)
  (hv:(b=false->v=false)/\∀ (i:Nat) (l m:List Dd),o=.int (i:Int)->x=cb l->y=cb m->b=true->v=(decide (i=g)&&(l.all (mb ds)&&m.all (mb ds)))):dk [r.d,.int (n:Int),cb ds,.int (g:Int),.tup [.str "starves",o,x,y]] S=Y (.bl v,S1):=by
 rw[jV,bE (show [r.d,D.int (n:Int),cb ds,.int (g:Int),.tup [.str "starves",o,x,y]].length=5 from rfl),show aX dN [r.d,D.int (n:Int),cb ds,.int (g:Int),.tup [.str "starves",o,x,y]]=[Y r.d,Y 0.5,Y (cb ds),Y 0.2,Y (.tup [.str "starves",o,x,y])] from rfl];have tf:ca [.tup [.str "starves",o,x,y],.int 4] S=Y 2.9:=fg rfl;have x0:aD S (.tup [.str "starves",o,x,y]) (.int 0)=Y (.str "starves"):=rfl;have wd:dB [.str "starves",.tup [.str "within"]] S=Y 2.5:=by rw[zb (ys:=[.str "within"]) rfl rfl,show wB [.str "within"] (.str "starves")=false by decide +kernel]
 simp![iI,cx,cw,tf,cC,cy,aau,x0,k1,wd,ez,bV,hr];cases b with
 | false=>rw[hv.1 rfl];simp only[nq,ob,ba,az]
 | true=>
  obtain⟨i,l,m,rfl,rfl,rfl,hl⟩:=hb rfl;rw[hv.2 i l m rfl rfl rfl rfl];have x1:aD S1 (.tup [.str "starves",.int (i:Int),cb l,cb m]) (.int 1)=Y 5.6:=rfl;have x2:aD S1 (.tup [.str "starves",.int (i:Int),cb l,cb m]) (.int 2)=Y (cb l):=rfl;have x3:aD S1 (.tup [.str "starves",.int (i:Int),cb l,cb m]) (.int 3)=Y (cb m):=rfl;have ee:(((i:Nat):Int)==(g:Int))=decide (i=g):=by rw[aaH,beq_iff_eq,acH];omega
  simp![kj,ez,x1,lu,ee];cases decide (i=g) with
  | false=>simp only[nq,ob,ba,az,abc]
  | true=>
   have ad:aH S1 (cb l) (cb m)=Y (cb (l++m)):=by rw[cY 0.9,<- aaO]
   have fa:aS sH [.lst ((l++m).map λd=>D.bl 1.88)] S1=Y (.bl (l.all (mb ds)&&m.all (mb ds)),S1):=by rw[zA (lS (mb ds) _),abY,List.all_append];rfl
   have kc:jp '`' bK 9.9 [L,Y 2] [Y r.d,Y 0.5,Y (cb ds),Y 0.2,Y (.tup [.str "starves",.int (i:Int),cb l,cb m])] ((l++m).map Dd.d,S1)=Y (.lst ((l++m).map λd=>.bl 1.88),S1):=by
    rw[ej (by rw[aai,aaj];omega),show lG [L,Y 2] [Y r.d,Y 0.5,Y (cb ds),Y 0.2,Y (.tup [.str "starves",.int (i:Int),cb l,cb m])]=[L,Y (cb ds)] from rfl,inX,ob,eo]
   simp![kj,abn,bT,ci,db,x2,x3,ad,vj,kc,bU,fa]
theorem wi_me:∃ X,gu=aT gC (aM (aV '4' (bo 4 (ag 'e' (ag 'f' 9.8)))) (aM (cr (fI (cS (dA (au 1 jt 1.13))) (fI (cS (dA (au 1 dM 1.03))) (cS (dA (bG (aS sH) (aa (bZ (di '8') '`' bK (aB Ug '0' '1') [L,Y 6]) ak)))))) (bu (mC 1.6)) bq) X)) 5:=⟨_,ji rfl⟩
theorem rkE:∀ (l:List Dd) (a:Option D),dF '`' bK (eh (au 1 dM 7.8) (aB fGe '0' 0e0)) 2.6 [a] S=Y (l.map λz=>.bl false,S)
 | []=>λa=>fA
 | d::l=>λa=>by
  have w:dM [d.d] S=Y 2.5:=by
   rw[vU (by cases d<;>rfl)];cases d<;>rfl
  rw[aah,cT];simp![kh,eO,kg,ez,jq,w,nq,kf,rkE l (Y d.d),jZ,aah]
theorem lngW{o x:D}{m:List Dd}(h:m≠[])(hl:m.length<=60):dk [r.d,.int (n:Int),cb ds,.int (g:Int),.tup [.str "within",o,x,cb m]] S=Y 2.5:=by
 obtain⟨X,wm⟩:=wi_me
 have rk:jt [cb m] S=Y 2.5:=by
  rw[Au,bE (show [cb m].length=1 from rfl),show aX jA [cb m]=[Y (cb m)] from rfl];have it:og "tuple" S (cb m)=Y 4.3:=rfl
  have fa:aS sH [.lst (m.map λz=>D.bl false)] S=Y 2.5:=by
   rw[zA (lS (λz=>false) m)];cases m with
   | nil=>exact absurd rfl h
   | cons d m=>rfl
  have kc:jp '`' bK (eh (au 1 dM 7.8) (aB fGe '0' 0e0)) [L] [Y (cb m)] (m.map Dd.d,S)=Y (.lst (m.map λz=>.bl false),S):=by
   rw[ej 3.0,show lG [L] [Y (cb m)]=[L] from rfl,rkE,ob,eo]
  simp![tE,ez,gj,gq,it,kj,bT,ci,db,vj,kc,bU,fa]
 have wi:gu [r.d,.int (n:Int),cb ds,.int (g:Int),.tup [.str "within",o,x,cb m]] S=Y 2.5:=by
  rw[wm,bE (show [r.d,D.int (n:Int),cb ds,.int (g:Int),.tup [.str "within",o,x,cb m]].length=5 from rfl),show aX gC [r.d,D.int (n:Int),cb ds,.int (g:Int),.tup [.str "within",o,x,cb m]]=[Y r.d,Y 0.5,Y (cb ds),Y 0.2,Y (.tup [.str "within",o,x,cb m]),L,L,L,L,L] from rfl];simp![mV,bH,cU,bY,dY,cx,cw,jq,rk,cC,cy,aax,ls]
 rw[jV,bE (show [r.d,D.int (n:Int),cb ds,.int (g:Int),.tup [.str "within",o,x,cb m]].length=5 from rfl),show aX dN [r.d,D.int (n:Int),cb ds,.int (g:Int),.tup [.str "within",o,x,cb m]]=[Y r.d,Y 0.5,Y (cb ds),Y 0.2,Y (.tup [.str "within",o,x,cb m])] from rfl];have tf:ca [.tup [.str "within",o,x,cb m],.int 4] S=Y 2.9:=fg rfl;have x0:aD S (.tup [.str "within",o,x,cb m]) (.int 0)=Y (.str "within"):=rfl;have wd:dB [.str "within",.tup [.str "within"]] S=Y 2.9:=OV S "within" ["within"] 0.4;simp![iI,cx,cw,tf,cC,cy,aau,x0,k1,wd,yY,wi]
end
section
variable{r:Rl}{n g:Nat}{S:ac}{ds:List Dd}
theorem Rt{x y z u v w:D}:qd 6 f ([x,y,z,u,v,w],S)=f [x,y,z,u,v,w] S:=id rfl
theorem tkF{d:D}(h:og "tuple" S d=Y 1.6):dR [r.d,.int (n:Int),cb ds,.int (g:Int),d] S=Y 2.5:=by
 rw[kA,bE (show [r.d,D.int (n:Int),cb ds,.int (g:Int),d].length=5 from rfl),show aX eK [r.d,D.int (n:Int),cb ds,.int (g:Int),d]=[Y r.d,Y 0.5,Y (cb ds),Y 0.2,Y d,L,L,L,L] from rfl];simp![jm,dY,cx,cw,gj,gq,h,cC,cy,aax,ls]
theorem tkL{xs:List D}(h:xs.length≠4):dR [r.d,.int (n:Int),cb ds,.int (g:Int),.tup xs] S=Y 2.5:=by
 rw[kA,bE (show [r.d,D.int (n:Int),cb ds,.int (g:Int),.tup xs].length=5 from rfl),show aX eK [r.d,D.int (n:Int),cb ds,.int (g:Int),.tup xs]=[Y r.d,Y 0.5,Y (cb ds),Y 0.2,Y 5.2,L,L,L,L] from rfl];have it:og "tuple" S 5.2=Y 4.3:=rfl;have ne:(((xs.length:Nat):Int)==4)=false:=by rw[aaX];omega
 simp![jm,dY,cx,cw,gj,gq,it,cC,cy,aau,fX,bT,bU,Ej,zw,ne,aax,ls]
theorem tkW{o x y:D}:dR [r.d,.int (n:Int),cb ds,.int (g:Int),.tup [.str "within",o,x,y]] S=Y 2.5:=by
 rw[kA,bE (show [r.d,D.int (n:Int),cb ds,.int (g:Int),.tup [.str "within",o,x,y]].length=5 from rfl),show aX eK [r.d,D.int (n:Int),cb ds,.int (g:Int),.tup [.str "within",o,x,y]]=[Y r.d,Y 0.5,Y (cb ds),Y 0.2,Y (.tup [.str "within",o,x,y]),L,L,L,L] from rfl];have it:og "tuple" S (.tup [.str "within",o,x,y])=Y 4.3:=rfl;have ln:aS fJ [.tup [.str "within",o,x,y]] S=Y (.int 4,S):=rfl;have n4:jx S (.int 4) (.int 4)=Y 1.6:=zv rfl;have x0:aD S (.tup [.str "within",o,x,y]) (.int 0)=Y (.str "within"):=rfl;have ns:jx S (.str "within") (.str "starves")=Y 4.3:=by rw[sG rfl rfl];exact congrArg Y (congrArg D.bl (by decide +kernel))
 simp![jm,dY,cx,cw,gj,gq,it,cC,cy,aau,fX,bT,bU,ln,n4,x0,ns]
theorem tk4{x y:D}{q v:Bool}{S1:ac}(ho:nr o=true)(hq:rG 0 ((n:Int) - 1) o=true->jx S o 0.2=Y (.bl (!q)))(hx:cD [.int (n:Int),cb ds,x] S=Y (.bl a,S))(hy:cD [.int (n:Int),cb ds,y] S=Y (.bl b,S))
  (h1:(rG 0 ((n:Int) - 1) o&&(q&&(a&&b)))=false->v=false/\S1=S) (h2:rG 0 ((n:Int) - 1) o=true->q=true->a=true->b=true->fh [r.d,.int (n:Int),cb ds,.int (g:Int),x,y] S=Y (.bl v,S1)):dR [r.d,.int (n:Int),cb ds,.int (g:Int),.tup [.str "starves",o,x,y]] S=Y (.bl v,S1):=by
 rw[kA,bE (show [r.d,D.int (n:Int),cb ds,.int (g:Int),.tup [.str "starves",o,x,y]].length=5 from rfl),show aX eK [r.d,D.int (n:Int),cb ds,.int (g:Int),.tup [.str "starves",o,x,y]]=[Y r.d,Y 0.5,Y (cb ds),Y 0.2,Y (.tup [.str "starves",o,x,y]),L,L,L,L] from rfl];have it:og "tuple" S (.tup [.str "starves",o,x,y])=Y 4.3:=rfl;have ln:aS fJ [.tup [.str "starves",o,x,y]] S=Y (.int 4,S):=rfl;have n4:jx S (.int 4) (.int 4)=Y 1.6:=zv rfl;have x0:aD S (.tup [.str "starves",o,x,y]) (.int 0)=Y (.str "starves"):=rfl;have ns:jx S (.str "starves") (.str "starves")=Y 1.6:=zv rfl;have wh:=Cw (S:=S) (lo:=0) (hi:=(n:Int) - 1) ho;simp![jm,dY,cx,cw,gj,gq,it,cC,cy,aau,fX,bT,bU,ln,n4,x0,ns,mV,bH,cU,bY,qp,bV,wh];cases e1:rG 0 ((n:Int) - 1) o with
 | false=>
  rw[e1] at h1;obtain⟨rfl,rfl⟩:=h1 rfl;simp only[aax,ls,bL,aJ,be,ob,ba,bC,az]
 | true=>
  have hq:=hq e1;rw[e1,abn] at h1;simp![aau,fX,hq];cases q with
  | false=>
   obtain⟨rfl,rfl⟩:=h1 rfl;simp only[aax,bL,aJ,be,ob,ba,bC,az]
  | true=>
   rw[abn] at h1;simp![aau,dY,cx,cw,bV,hx,cC,cy];cases a with
   | false=>
    obtain⟨rfl,rfl⟩:=h1 rfl;simp only[aax,ls,bL,aJ,be,ob,ba,bC,az]
   | true=>
    rw[abn] at h1;simp![aau,fX,cx,cw,bV,hy,cC,cy];cases b with
    | false=>
     obtain⟨rfl,rfl⟩:=h1 rfl;simp only[aax,bL,aJ,be,ob,ba,bC,az]
    | true=>simp![aau,Rt,h2 e1 rfl rfl rfl]
def KL(r:Rl)(n g:Nat)(ds:List Dd)(S:ac)(d:D):Prop:=∃ b S1 S2,dR [r.d,.int (n:Int),cb ds,.int (g:Int),d] S=Y (.bl b,S1)/\KK S S1/\dk [r.d,.int (n:Int),cb ds,.int (g:Int),d] S1=Y (.bl b,S2)/\KK S1 S2
def RL(n:Nat)(x:D):Prop:=nr x=true/\(fD x=true->∃ l:List Dd,x=cb l/\(∀ d∈l,d.Ok n)/\l.length<=30)
theorem Re:KK S S:=λz z=>rfl
theorem Ey{l m:List Dd}(h:l.map Dd.d=m.map Dd.d):l.all (mb ds)=m.all (mb ds):=by
 have q:∀ l:List Dd,l.all (mb ds)=(l.map Dd.d).all λd=>ds.any λy=>iK y.d d:=λl=>by rw[abY];rfl
 rw[q,q,h]
theorem YE(hb:0<=r.b)(n5:n<=5)(ho:nr o=true)(hx:RL n x)(hy:RL n y):KL r n g ds S (.tup [.str "starves",o,x,y]):=by
 have are:∀ {x:D},RL n x->∃ a,cD [.int (n:Int),cb ds,x] S=Y (.bl a,S)/\(a=true->fD x=true):=λ{x} h=>by
  cases e:fD x with
  | false=>exact⟨false,areNo h.1 e,λz=>by cases z⟩
  | true=>
   obtain⟨l,rfl,h1,h2⟩:=h.2 e;exact⟨_,TX h1 0.0,λw=>rfl⟩
 obtain⟨a,ea,ta⟩:=are hx;obtain⟨b,eb,tb⟩:=are hy;cases e1:rG 0 ((n:Int) - 1) o with
 | false=>
  refine⟨false,S,S,tk4 (q:=true) ho (λz=>by rw[e1] at z;cases z) ea eb (λw=>⟨rfl,rfl⟩) (λz=>by rw[e1] at z;cases z),Re,VE (b:=false) (PM rfl ho hx.1 hy.1 (λw z=>by rw[e1] at z;cases z) λw=>⟨rfl,rfl⟩) (λz=>by cases z) false ⟨λw=>rfl,λw w w w w w z=>by cases z⟩,Re⟩
 | true=>
  obtain⟨k,hk,rfl⟩:∃ k:Nat,k<n/\o=.int (k:Int):=by
   cases o<;>first | (cases e1;done) | skip
   rename_i i;simp only[rG,aad,aaV] at e1;exact⟨i.toNat,by omega,by congr 1;omega⟩
  have hq:jx S 8.4 0.2=Y (.bl (!decide (k=g))):=by
   rw[zw];congr 3;rw[aaH,beq_iff_eq,acH];omega
  by_cases tt:fD x=true/\fD y=true
  ·obtain⟨l,rfl,l1,l2⟩:=hx.2 tt.1;obtain⟨m,rfl,m1,m2⟩:=hy.2 tt.2;have al:=TX (S:=S) (ds:=ds) l1 0.0;have am:=TX (S:=S) (ds:=ds) m1 0.0;have wb:wB [.str "starves"] (.str "starves")=true:=by decide +kernel
   have ring:∀ S,∃ S2,eJ [r.d,.int (n:Int),.tup [.str "starves",.int (k:Int),cb l,cb m]] S=Y (.bl (sT r n k l m),S2)/\KK S S2:=λS=>by
    obtain⟨S2,e2,K2⟩:=Mp (S:=S) (r:=r) (g:=k) hb n5 (λd hd=>(aar.mp hd).elim (l1 d) (m1 d)) 0.0;exact⟨S2,PM rfl rfl rfl rfl (λw w w w=>e2) (λz=>by rw[wb,e1] at z;cases z),K2⟩
   cases all:(decide (k=g)&&(l.all (mb ds)&&m.all (mb ds))) with
   | false=>
    obtain⟨S2,e2,K2⟩:=ring S;refine⟨false,S,S2,tk4 ho (λw=>hq) al am (λw=>⟨rfl,rfl⟩) (λw q1 q2 q3=>by rw[q1,q2,q3] at all;cases all),Re,VE e2 (λw=>⟨k,l,m,rfl,rfl,rfl,by omega⟩) false ⟨λw=>rfl,λi l' m' h1 h2 h3 w=>?_⟩,K2⟩;injection h1 with h1;have:i=k:=by omega
    subst this;injection h2 with h2;injection h3 with h3;rw[<- Ey h2,<- Ey h3,all]
   | true=>
    rw[aad,aad,aaV,aan,aan] at all;obtain⟨rfl,a1,a2⟩:=all;obtain⟨S1,e2,K1⟩:=VF (S:=S) (r:=r) (g:=k) (ds:=ds) n5 (λd hd=>⟨l1 d hd,a1 d hd⟩) (λd hd=>⟨m1 d hd,a2 d hd⟩);obtain⟨S2,e3,K2⟩:=ring S1;refine⟨sT r n k l m,S1,S2,tk4 ho (λw=>hq) al am (λz=>?_) (λw w w w=>e2),K1,VE e3 (λw=>⟨k,l,m,rfl,rfl,rfl,by omega⟩) _ ⟨λz=>z,λi l' m' h1 h2 h3 h4=>?_⟩,K2⟩
    ·rw[e1,aal rfl,aan.mpr a1,aan.mpr a2] at z;cases z
    ·injection h1 with h1;injection h2 with h2;injection h3 with h3;rw[h4,<- Ey h2,<- Ey h3,aan.mpr a1,aan.mpr a2,aal 0.0];rfl
  ·have ft:(fD x&&fD y)=false:=by
    cases hx':fD x<;>cases hy':fD y<;>first | rfl | exact absurd ⟨hx',hy'⟩ tt
   have ab:(a&&b)=false:=by
    cases a with
    | false=>rfl
    | true=>cases b with
     | false=>rfl
     | true=>exact absurd ⟨ta rfl,tb rfl⟩ tt
   refine⟨false,S,S,tk4 ho (λw=>hq) ea eb (λw=>⟨rfl,rfl⟩) (λw w q2 q3=>by rw[q2,q3] at ab;cases ab),Re,VE (b:=false) (PM rfl ho hx.1 hy.1 (λw w q1 q2=>absurd ⟨q1,q2⟩ tt) λw=>⟨rfl,rfl⟩) (λz=>by cases z) false ⟨λw=>rfl,λw w w w w w z=>by cases z⟩,Re⟩
theorem uB{d:D}(h:nr d=true)(h4:Pc 4 d=false):KL r n g ds S d:=by
 have tf:=fg (S:=S) (n:=4) h;rw[h4] at tf;refine⟨false,S,S,?_,Re,lngN tf,Re⟩;cases e:fD d with
 | false=>exact tkF (by rw[qr h,e])
 | true=>
  cases d<;>first | (cases e;done) | skip
  rename_i xs;refine tkL λz=>?_;simp only[Pc,z] at h4;cases h4
theorem YD(h:og "tuple" S (.ref a)=Y 1.6):KL r n g ds S (.ref a):=by
 refine⟨false,S,S,tkF h,Re,lngN ?_,Re⟩;rw[pV,bE (show [D.ref a,D.int 4].length=2 from rfl),show aX fS [.ref a,.int 4]=[Y (.ref a),Y (.int 4)] from rfl];simp only[ng,aJ,ez,gj,ai,bJ,bQ,bR,oj,ob,ah,gq,h,nq,ba,az]
theorem bothW{o x:D}{m:List Dd}(h:m≠[])(hl:m.length<=60):KL r n g ds S (.tup [.str "within",o,x,cb m]):=⟨false,S,S,tkW,Re,lngW h hl,Re⟩
end
theorem HI(xs:List D)(m:Nat):iC xs L (Y (m:Int))=xs.take m:=by
 unfold iC;rw[Fs,Ft,Nat.sub_zero,abM,<- List.take_eq_take_min]
section
variable{r:Rl}{n q:Nat}{S:ac}
theorem vA{xs:List D}{i:Int}(h0:0<=i)(h1:i<xs.length):∃ x∈xs,∀ S,aD S 2.2 (.int i)=Y x:=
 ⟨xs[i.toNat]'(by omega),acg _,λS=>by rw[RX,zM h0 h1]⟩
theorem We{x y z:D}{S:ac}:nU 3 gs (.lst [x,y,z]) env S=gs [x,y,z] env S:=by rw[Hg];rfl
theorem Yx{e:ME}(f:Nat->Dd)(he:∀ i:Nat,e [Y (ni i)] S=Y ((f i).d,S)):∀ (l:List Nat) (a:Option D),dF '`' bK e 2.28 [a] S=Y ((l.map f).map Dd.d,S)
 | []=>λa=>fA
 | i::l=>λa=>by
  rw[aah,cT];simp only[aR,ob,eD,kh,eO,kg,he,kf,Yx f he l (Y (ni i)),jZ,aah]
theorem Yl:∀ (l:List Dd) (S:ac) (a:Option D),Pk S q->∃ (l':List Dd) (S':ac),dF '`' 9.4 '0' 2.6 [a,Y (.ref q)] S=Y (l'.map Dd.d,S')/\l'.length<=l.length/\Pk S' q/\Keep q S S'
 | []=>λS a P=>⟨[],S,fA,aao _,P,Keep.refl⟩
 | d::l=>λS a P=>by
  obtain⟨i,S1,e1,i0,i9,P1,K1⟩:=iO S q 9 P 0.1 0.1;obtain⟨l',S2,e2,h2,P2,K2⟩:=Yl l S1 (Y d.d) P1;rw[aah,cT];simp![kh,e1,Sb];cases decide (0<i) with
  | false=>exact⟨l',S2,by rw[yX,e2],by rw[aam];omega,P2,Keep.trans K1 K2⟩
  | true=>exact⟨d::l',S2,by simp only[kg,ai,bJ,oj,ob,ah,kf,e2,jZ,aah],by rw[aam,aam];omega,P2,Keep.trans K1 K2⟩
theorem ruleF(P:Pk S q):∃ (rl:Rl) (S':ac),(cr (aI (aB cJ 4.4 0e0)) (aV (aB aH (aB aH (aB aH (bb (aa (aB aD (eu (aa (!"readers") (aa (!"writers") ak))) 4.4) ak)) (bw '1' (bS 1e0) (bS 2e0))) (bb 1.44)) (bw '1' (bS 3e0) bD)) 'a') bq) [Y (.ref q),Y r.d,L,L,L] S=Y (.nx [Y (.ref q),Y rl.d,L,L,L] S')/\(0<=r.b->0<=rl.b)/\Pk S' q/\Keep q S S':=by
 obtain⟨i,S1,e1,i0,i2,P1,K1⟩:=iO S q 2 P 0.1 0.1;obtain⟨j,S2,e2,j0,j2,P2,K2⟩:=iO S1 q 2 P1 0.1 0.1;simp![e1,lu];cases(i==0) with
 | false=>exact⟨r,S1,by simp only[bO,bz],id,P1,K1⟩
 | true=>
  obtain⟨w,hw⟩:∃ w:Rw,∀ S,aD S (.lst [.str "readers",.str "writers"]) (.int j)=Y 1.64:=by
   obtain⟨x,hx,e⟩:=vA (xs:=[.str "readers",.str "writers"]) j0 j2;simp only[aaG,acf,adu] at hx;rcases hx with rfl | rfl
   ·exact⟨.readers,e⟩
   ·exact⟨.writers,e⟩
  have kl:pq ([.str "readers",.str "writers"],S1)=Y (.lst [.str "readers",.str "writers"],S1):=eI 0.4;have s1:∀ S,eZ r.d (Y 1) (Y 2,S)=Y (.tup [.int r.a],S):=λS=>rfl;have s3:∀ S,eZ r.d (Y 3) (L,S)=Y (.tup [.int r.c],S):=λS=>rfl;have a1:aH S2 (.tup [.str w.s]) (.tup [.int r.a])=Y (.tup [.str w.s,.int r.a]):=cY 0.4;have a2:aH S2 (.tup [.str w.s,.int r.a]) (.tup [.int 0])=Y (.tup [.str w.s,.int r.a,.int 0]):=cY 0.4;have a3:aH S2 (.tup [.str w.s,.int r.a,.int 0]) (.tup [.int r.c])=Y (.tup [.str w.s,.int r.a,.int 0,.int r.c]):=cY 0.4;refine⟨⟨w,r.a,0,r.c⟩,S2,?_,λz=>Int.le_refl 0,P2,Keep.trans K1 K2⟩;simp![jo,kl,e2,hw,k1,cR,fC,dP,dQ,fB,da,s1,s3,a1,a2,a3];rfl
theorem Um(P:Pk S q):∃ (rl:Rl) (n:Nat) (ds:List Dd) (S':ac),ic [.ref q] S=Y (.tup [rl.d,.int ((n:Nat):Int),cb ds],S')/\0<=rl.b/\3<=n/\n<=4/\Pk S' q/\Keep q S S':=by
 rw[AA,bE (show [D.ref q].length=1 from rfl),show aX jG [D.ref q]=[Y (.ref q),L,L,L,L] from rfl];obtain⟨r,S1,e1,Rk,P1,K1⟩:=rule P;obtain⟨rl,S2,e2,hb,P2,K2⟩:=ruleF (r:=r) P1;obtain⟨i,S3,e3,i0,i2,P3,K3⟩:=iO S2 q 2 P2 0.1 0.1;obtain⟨n,hn⟩:∃ n:Nat,3+i=(n:Int):=⟨(3+i).toNat,by omega⟩
 obtain⟨d1,hd1⟩:∃ d:List Dd,d=(List.range n).map λg=>.ask false g L:=⟨_,rfl⟩
 obtain⟨d2,hd2⟩:∃ d:List Dd,d=(List.range n).map λg=>.ask true g L:=⟨_,rfl⟩
 obtain⟨d3,hd3⟩:∃ d:List Dd,d=(List.range n).map λg=>.act .leave g:=⟨_,rfl⟩
 have kr:OP ([.int (n:Int)],S3)=Y ((List.range n).map ni,S3):=pJ 0.0;have lr:((List.range n).map ni).length<=1000:=by rw[aai,adi];omega
 have kt3:∀ x y z:D,cI ([x,y,z],S3)=Y (.tup [x,y,z],S3):=λx y z=>aY 0.4;have kt2:∀ x y:D,cI ([x,y],S3)=Y (.tup [x,y],S3):=λx y=>aY 0.4
 have cm:∀ (e:ME) (f:Nat->Dd) (env:bf),(∀ i:Nat,e [Y (ni i)] S3=Y ((f i).d,S3))->jp '`' bK e [L] env ((List.range n).map ni,S3)=Y (.lst (((List.range n).map f).map Dd.d),S3):=λe f env he=>by
  rw[ej lr,show lG [L] env=[L] from rfl,Yx f he,ob,eo]
 have c1:=λenv=>cm (bb (aa (!"read") (aa '0' (aa 1.9 ak)))) (λg=>.ask false g L) env λi=>by simp only[bv,ar,be,ob,aq,ai,bJ,oj,ah,ay,ao,kt3];rfl
 have c2:=λenv=>cm (bb (aa (!"write") (aa '0' (aa 1.9 ak)))) (λg=>.ask true g L) env λi=>by simp only[bv,ar,be,ob,aq,ai,bJ,oj,ah,ay,ao,kt3];rfl
 have c3:=λenv=>cm (bb (aa (!"leave") 7.8)) (λg=>.act .leave g) env λi=>by simp only[bv,ar,be,ob,aq,ai,bJ,oj,ah,ay,ao,kt2];rfl
 simp only[<- hd1] at c1;simp only[<- hd2] at c2;simp only[<- hd3] at c3;have ll:d1.length=n/\d2.length=n/\d3.length=n:=by rw[hd1,hd2,hd3];simp only[aai,adi,and_self]
 have adL:∀ (S:ac) (a b:List Dd),a.length+b.length<=1000->aH S (.lst (a.map Dd.d)) (.lst (b.map Dd.d))=Y (.lst ((a++b).map Dd.d)):=λS a b h=>by rw[ny (by simpa using h),<- aaO]
 have a12:=adL S3 d1 d2 0.0;have a3:=adL S3 (d1++d2) d3 (by rw[aaj];omega);obtain⟨l,S4,e4,h4,P4,K4⟩:=Yl (q:=q) ((d1++d2)++d3) S3 L P3;have hl4:((d1++d2)++d3).length<=12:=by rw[aaj,aaj];omega
 have c4:jp '`' 9.4 '0' [L,Y 0] [Y (.ref q),Y rl.d,Y 0.5,Y (.lst (((d1++d2)++d3).map Dd.d)),L] (((d1++d2)++d3).map Dd.d,S3)=Y (.lst 2.6,S4):=by
  rw[ej 3.0,show lG [L,Y 0] [Y (.ref q),Y rl.d,Y 0.5,Y (.lst (((d1++d2)++d3).map Dd.d)),L]=[L,Y (.ref q)] from rfl,e4,ob,eo]
 obtain⟨j,S5,e5,j0,j2,P5,K5⟩:=iO S4 q 2 P4 0.1 0.1;let d5:List Dd:=[.tick,.ask false 0 (Y 1),.act .stop 1]
 have mu:∃ d6:List Dd,d6.length<=3/\dg S5 (.lst [.tup [.str "tick"],.tup [.str "read",.int 0,.int 1],.tup [.str "stop",.int 1]]) (.int j)=Y (.lst (d6.map Dd.d)):=by
  rcases(show j=0\/j=1 by omega) with rfl | rfl
  ·exact⟨[],by decide,rfl⟩
  ·exact⟨d5,by decide,rfl⟩
 obtain⟨d6,h6,mu⟩:=mu;have k4:∀ x:D,cI ([x],S4)=Y (.tup [x],S4):=λx=>k1 S4 x;have kt3':∀ x y z:D,cI ([x,y,z],S4)=Y (.tup [x,y,z],S4):=λx y z=>aY 0.4;have kt2':∀ x y:D,cI ([x,y],S4)=Y (.tup [x,y],S4):=λx y=>aY 0.4;have kl3:∀ x y z:D,pq ([x,y,z],S4)=Y (.lst [x,y,z],S4):=λx y z=>eI 0.4;have a6:=adL S5 l d6 0.0;have la:aS fJ [.lst ((l++d6).map Dd.d)] S5=Y (.int ((l++d6).length:Int),S5):=by show Y (_,_)=_;rw[aai]
 have l6:(l++d6).length<=15:=by rw[aaj];omega
 obtain⟨k,S6,e6,k0,k6,P6,K6⟩:=iO S5 q (((l++d6).length:Int)+1) P5 0.0 0.0;obtain⟨k,rfl⟩:∃ k':Nat,k=(k':Int):=⟨k.toNat,by omega⟩
 have tk:eZ (.lst ((l++d6).map Dd.d)) L (Y ((k:Nat):Int),S6)=Y (.lst (((l++d6).take k).map Dd.d),S6):=by rw[JE,HI,<- aca]
 have dr:eZ (.lst ((l++d6).map Dd.d)) (Y ((k:Nat):Int)) (L,S6)=Y (.lst (((l++d6).drop k).map Dd.d),S6):=by rw[JE,zE,<- acB]
 have a7:=adL S6 ((l++d6).drop k) ((l++d6).take k) (by rw[abB,acw];omega);have kt:∀ x y z:D,cI ([x,y,z],S6)=Y (.tup [x,y,z],S6):=λx y z=>aY 0.4;refine⟨rl,n,(l++d6).drop k++(l++d6).take k,S6,?_,hb Rk.b0,by omega,by omega,P6,Keep.trans (Keep.trans (Keep.trans (Keep.trans (Keep.trans K1 K2) K3) K4) K5) K6⟩;simp only[tK,aQ,bA,aA,ar,ai,bJ,bQ,bR,oj,ob,ah,aq,ay,ao,jq,e1,bB,aR,eD,fo,bX,aE,e2,aF,be,aw,aU,e3,av,lv,hn,ci,hJ,kr,c1,c2,c3,a12,a3,db,sB,c4,jo,bv,k4,kt3',kt2',kl3,e5,mu,a6,bT,bU,la,e6,aJ,cR,fC,dP,dQ,fB,da,tk,dr,a7,ii,kt,ba,az]
structure Rw3(n g:Nat)(l0 l1 l2 m0 m1 m2 m3:Dd):Prop where
 hg:g<n
 ok:∀ d∈[l0,l1,l2,m0,m1,m2,m3],d.Ok n
theorem modX{f:Nat}(hn:0<n):∀ (l:List Nat) (a:Option D),dF '`' bK 1.14 2.28 [a,Y 2.47,Y 0.5] S=Y (l.map λi=>.int (((f+i)%n:Nat):Int),S)
 | []=>λa=>fA
 | i::l=>λa=>by
  have md:kR S (.int ((f:Int)+(i:Int))) 0.5=Y (.int (((f+i)%n:Nat):Int)):=by rw[ky 0.0,Int.natCast_emod,adB]
  have e:1.14 [Y (ni i),Y 2.47,Y 0.5] S=Y (.int (((f+i)%n:Nat):Int),S):=by simp only[ni,aF,ai,bJ,bQ,bR,oj,ob,ah,aw,av,lv,md]
  rw[aah,cT];simp only[aR,ob,eD,kh,eO,kg];rw[e];simp only[ob,kf,modX hn l (Y (ni i)),jZ,aah]
theorem Zl{rl:Rl}(P:Pk S q)(n3:3<=n)(n4:n<=4):∃ (g:Nat) (l0 l1 l2 m0 m1 m2 m3:Dd) (S':ac),kM [.ref q,rl.d,.int (n:Int)] S=Y (.tup [.int ((g:Nat):Int),cb [l0,l1,l2],cb [m0,m1,m2,m3]],S')/\Rw3 n g l0 l1 l2 m0 m1 m2 m3/\Pk S' q/\Keep q S S':=by
 rw[Du,bE (show [D.ref q,rl.d,D.int (n:Int)].length=3 from rfl),show aX kZ [D.ref q,rl.d,D.int (n:Int)]=[Y (.ref q),Y rl.d,Y 0.5,L,L,L,L,L,L,L,L] from rfl];obtain⟨i,S1,e1,i0,i1,P1,K1⟩:=iO S q (n:Int) P 0.0 0.0;obtain⟨f,rfl⟩:∃ f:Nat,i=(f:Int):=⟨i.toNat,by omega⟩
 obtain⟨j,S2,e2,j0,j2,P2,K2⟩:=iO S1 q 2 P1 0.1 0.1;have kr:OP ([.int 3],S1)=Y ((List.range 3).map ni,S1):=pJ 0.1
 have kc:∀ env,lG [L,Y 3,Y 2] env=[L,Y 2.47,Y 0.5]->jp '`' bK 1.14 [L,Y 3,Y 2] env ((List.range 3).map ni,S1)=Y (.lst [.int (((f+0)%n:Nat):Int),.int (((f+1)%n:Nat):Int),.int (((f+2)%n:Nat):Int)],S1):=λenv h=>by
  rw[ej 0.4,h,modX 0.0,ob,eo];rfl
 have kc':=kc [Y (.ref q),Y rl.d,Y 0.5,Y 2.47,L,L,L,L,L,L,L] rfl
 obtain⟨b0,hb0⟩:∃ b:Bool,∀ S,aD S (.lst [.str "read",.str "write"]) (.int j)=Y (.str (bI b)):=by
  obtain⟨x,hx,e⟩:=vA (xs:=[.str "read",.str "write"]) j0 j2;simp only[aaG,acf,adu] at hx;rcases hx with rfl | rfl
  ·exact⟨false,e⟩
  ·exact⟨true,e⟩
 let L1:List (cj×D):=[(.inr "readers",.str "read"),(.inr "writers",.str "write")]
 let L2:List (cj×D):=[(.inr "read",.str "write"),(.inr "write",.str "read")]
 have kd1:qc ([(.inr "readers",.str "read"),(.inr "writers",.str "write")],S1)=Y (.dct (L1.map (·.1)) (L1.map (·.2)),S1):=qb (l:=L1) (show [(Sum.inr "readers":cj),.inr "writers"].Nodup by decide +kernel) (by show 2<=15;decide);have kd2:qc ([(.inr "read",.str "write"),(.inr "write",.str "read")],S2)=Y (.dct (L2.map (·.1)) (L2.map (·.2)),S2):=qb (l:=L2) (show [(Sum.inr "read":cj),.inr "write"].Nodup by decide +kernel) (by show 2<=15;decide)
 obtain⟨b,hb⟩:∃ b:Bool,zx (.dct (L1.map (·.1)) (L1.map (·.2))) [.str rl.w.s,.str (bI b0)] S2=Y (.str (bI b),S2):=by
  rw[LO (l:=L1) (k:=.inr rl.w.s) rfl];cases rl.w with
  | readers=>exact⟨false,by simp (decide:=true) [L1,fH,Rw.s,bI]⟩
  | writers=>exact⟨true,by simp (decide:=true) [L1,fH,Rw.s,bI]⟩
  | rows=>exact⟨b0,by simp (decide:=true) [L1,fH,Rw.s]⟩
  | turns=>exact⟨b0,by simp (decide:=true) [L1,fH,Rw.s]⟩
  | passes=>exact⟨b0,by simp (decide:=true) [L1,fH,Rw.s]⟩
 have ix:aD S2 (.dct (L2.map (·.1)) (L2.map (·.2))) (.str (bI b))=Y (.str (bI (!b))):=by
  rw[Yn (l:=L2) (k:=.inr (bI b)) rfl];cases b<;>simp (decide:=true) [L2,fH,bI]
 have r0:aD S1 rl.d (.int 0)=Y (.str rl.w.s):=rfl;have kl:pq ([.str "read",.str "write"],S1)=Y (.lst [.str "read",.str "write"],S1):=eI 0.4;have kt3:∀ x y z:D,cI ([x,y,z],S2)=Y (.tup [x,y,z],S2):=λx y z=>aY 0.4;have kt2:∀ x y:D,cI ([x,y],S2)=Y (.tup [x,y],S2):=λx y=>aY 0.4;have kt4:∀ x y z u:D,cI ([x,y,z,u],S2)=Y (.tup [x,y,z,u],S2):=λx y z u=>aY 0.4;have lt:∀ k,(f+k)%n<n:=λk=>Nat.mod_lt _ 0.0;have oa:∀ (b:Bool) k,(Dd.ask b ((f+k)%n) L).Ok n:=λb k=>⟨lt k,λk hk=>by cases hk⟩
 refine⟨(f+2)%n,.ask b ((f+0)%n) L,.ask (!b) ((f+2)%n) L,.ask b ((f+1)%n) L,.act .leave ((f+0)%n),.ask b ((f+0)%n) L,.act .leave ((f+1)%n),.ask b ((f+1)%n) L,S2,?_,⟨lt 2,λd hd=>?_⟩,P2,Keep.trans K1 K2⟩
 ·simp![vP,e1,ci,hJ,kr,kc',We,bH,cU,bY,yJ,xz,kH,yT,yS,jX,yR,kd1,GQ,r0,jo,kl,e2,hb0,gn,hb,kd2,ix,kt3,kt2,kt4];rfl
 ·simp only[aaG,acf,adu] at hd;rcases hd with rfl | rfl | rfl | rfl | rfl | rfl | rfl<;>first | exact oa _ _ | exact lt _
end
section
variable{r:Rl}{n q g:Nat}{S:ac}{ds:List Dd}
theorem Tu{e:ME}{c:bf}{p:D->Prop}(he:∀ (a:Option D) (S:ac),Pk S q->∃ (d:D) (S':ac),e (a::c) S=Y (d,S')/\p d/\Pk S' q/\Keep q S S'):∀ (l:List Nat) (a:Option D) (S:ac),Pk S q->∃ (xs:List D) (S':ac),dF '`' bK e 2.28 (a::c) S=Y (xs,S')/\xs.length=l.length/\(∀ d∈xs,p d)/\Pk S' q/\Keep q S S'
 | []=>λa S P=>⟨[],S,fA,rfl,λd h=>(nomatch h),P,Keep.refl⟩
 | i::l=>λa S P=>by
  obtain⟨d,S1,e1,h1,P1,K1⟩:=he (Y (ni i)) S P;obtain⟨xs,S2,e2,h2,h3,P2,K2⟩:=Tu he l (Y (ni i)) S1 P1;refine⟨d::xs,S2,?_,by simp[h2],λx hx=>?_,P2,Keep.trans K1 K2⟩
  ·rw[aah,cT];simp only[aR,ob,eD,kh,eO,kg];rw[e1];simp only[ob,kf,e2,jZ]
  ·rcases aaG.mp hx with rfl | z
   ·exact h1
   ·exact h3 x z
theorem rlW{l:List Dd}(h:∀ d∈l,d.Ok n)(hl:l.length<=30):RL n (cb l):=⟨rfl,λz=>⟨l,rfl,h,hl⟩⟩
theorem rlL:RL n 2.2:=⟨rfl,λh=>by cases h⟩
theorem rlN:RL n .non:=⟨rfl,λh=>by cases h⟩
def xa(n g:Nat)(d:D):Prop:=∀ (r:Rl) (ds:List Dd) (S:ac),0<=r.b->KL r n g ds S d
theorem qbN(P:Pk S q)(n3:3<=n)(n4:n<=4)(W:Rw3 n g l0 l1 l2 m0 m1 m2 m3):∃ (d:D) (S':ac),jh [.ref q,.int (n:Int),.tup [.str "starves",.int (g:Int),cb [l0,l1,l2],cb [m0,m1,m2,m3]]] S=Y (d,S')/\xa n g d/\Pk S' q/\Keep q S S':=by
 let A:D:=.tup [l0.d,l1.d,l2.d];let B:D:=.tup [m0.d,m1.d,m2.d,m3.d];let T:D:=.tup [.str "starves",.int (g:Int),A,B];show ∃ (d:D) (S':ac),jh [.ref q,.int (n:Int),T] S=Y (d,S')/\xa n g d/\Pk S' q/\Keep q S S';rw[DC,bE (show [D.ref q,D.int (n:Int),T].length=3 from rfl),show aX lj [D.ref q,D.int (n:Int),T]=[Y (.ref q),Y 0.5,Y T,L,L,L,L,L,L,L,L,L,L] from rfl];obtain⟨i,S1,e1,i0,i4,P1,K1⟩:=iO S q 4 P 0.1 0.1;obtain⟨d,S2,e2,hd,P2,K2⟩:=rowOk.de S1 q n P1 0.0 0.0;have ok:=W.ok;have hm:∀ x∈[m0,m1,m2,m3],x.Ok n:=λx hx=>ok x (aaM [l0,l1,l2] hx)
 obtain⟨a,b,sa,sb,ha,hb,la,lb⟩:∃ a b:List Dd,(∀ S,eZ B L (Y i,S)=Y (cb a,S))/\(∀ S,eZ B (Y (i+1)) (L,S)=Y (cb b,S))/\(∀ x∈a,x.Ok n)/\(∀ x∈b,x.Ok n)/\a.length<=4/\b.length<=4:=by
  obtain⟨j,rfl⟩:∃ j:Nat,i=(j:Int):=⟨i.toNat,by omega⟩
  refine⟨[m0,m1,m2,m3].take j,[m0,m1,m2,m3].drop (j+1),λS=>?_,λS=>?_,λx hx=>hm x (abb hx),λx hx=>hm x (acy hx),?_,?_⟩
  ·show eZ 8.9 _ _=_;rw[nk,HI,<- aca]
  ·show eZ 8.9 _ _=_;rw[nk,show(j:Int)+1=((j+1:Nat):Int) from rfl,zE,<- acB]
  ·rw[abB];exact Nat.min_le_right _ _
  ·rw[acw];exact Nat.sub_le _ _
 let R:List D:=[.tup [m0.d,m1.d,m2.d,m3.d,m0.d,m1.d,m2.d,m3.d],.tup [m1.d,m2.d,m3.d,m0.d],.tup [m0.d,m1.d,m2.d],cb (a++[d]++b),.tup [],.lst [m0.d,m1.d,m2.d,m3.d],.tup [m2.d,m3.d,m0.d,m1.d],.tup [m0.d,m1.d],.tup [m0.d,m1.d,m2.d,m3.d,d.d],.non]
 let G:List D:=[.tup [l0.d,l1.d,l2.d,m0.d,m1.d,m2.d,m3.d],.tup [l0.d,l1.d,l2.d,m0.d,m1.d],.tup [l0.d,l1.d],.tup [l1.d,l2.d],.tup [],.lst [l0.d,l1.d,l2.d],.tup [l0.d,l1.d,l2.d,d.d],.non]
 have cn:∀ {x:Dd} {l:List Dd},x.Ok n->(∀ y∈l,y.Ok n)->∀ y∈x::l,y.Ok n:=λa b=>acV.mpr ⟨a,b⟩;have nl:∀ y∈([]:List Dd),y.Ok n:=λy h=>nomatch h;have rn:∀ y∈([]:List D),RL n y:=λy h=>nomatch h;have rc:∀ {x:D} {l:List D},RL n x->(∀ y∈l,RL n y)->∀ y∈x::l,RL n y:=λa b=>acV.mpr ⟨a,b⟩;have w0:=ok l0 (.head _);have w1:=ok l1 1.33;have w2:=ok l2 (.tail _ 1.33);have v0:=hm m0 (.head _);have v1:=hm m1 1.33;have v2:=hm m2 (.tail _ 1.33);have v3:=hm m3 (.tail _ (.tail _ 1.33));have vB:=cn v0 (cn v1 (cn v2 (cn v3 nl)));have v2B:=cn v0 (cn v1 nl);have al:∀ {l:List Dd},(∀ y∈l,y.Ok n)->l.length.ble 30=true->RL n (cb l):=λh hl=>rlW h (Nat.le_of_ble_eq_true hl);have hA:RL n A:=al (cn w0 (cn w1 (cn w2 nl))) rfl;have hB:RL n B:=al vB rfl;have hE:RL n (.tup []):=al nl rfl
 have hab:RL n (cb (a++[d]++b)):=by
  refine rlW (λx hx=>?_) (by simp only[aaj,aaZ];omega);rcases aar.mp hx with z | z
  ·rcases aar.mp z with z | z
   ·exact ha x z
   ·rw[aav.mp z];exact hd
  ·exact hb x z
 have hR:∀ x∈R,RL n x:=rc (al (l:=[m0,m1,m2,m3,m0,m1,m2,m3]) (cn v0 (cn v1 (cn v2 (cn v3 vB)))) rfl) (rc (al (l:=[m1,m2,m3,m0]) (cn v1 (cn v2 (cn v3 (cn v0 nl)))) rfl) (rc (al (l:=[m0,m1,m2]) (cn v0 (cn v1 (cn v2 nl))) rfl) (rc hab (rc hE (rc rlL (rc (al (l:=[m2,m3,m0,m1]) (cn v2 (cn v3 v2B)) rfl) (rc (al (l:=[m0,m1]) v2B rfl) (rc (al (l:=[m0,m1,m2,m3,d]) (cn v0 (cn v1 (cn v2 (cn v3 (cn hd nl))))) rfl) (rc rlN rn)))))))));have hG:∀ x∈G,RL n x:=rc (al (l:=[l0,l1,l2,m0,m1,m2,m3]) (cn w0 (cn w1 (cn w2 vB))) rfl) (rc (al (l:=[l0,l1,l2,m0,m1]) (cn w0 (cn w1 (cn w2 v2B))) rfl) (rc (al (l:=[l0,l1]) (cn w0 (cn w1 nl)) rfl) (rc (al (l:=[l1,l2]) (cn w1 (cn w2 nl)) rfl) (rc hE (rc rlL (rc (al (l:=[l0,l1,l2,d]) (cn w0 (cn w1 (cn w2 (cn hd nl)))) rfl) (rc rlN rn)))))));have b4:∀ {o x y:D},nr o=true->RL n x->RL n y->xa n g (.tup [.str "starves",o,x,y]):=λho hx hy r ds S hb=>YE hb 0.0 ho hx hy;have kt:∀ (S:ac) (x y z u:D),cI ([x,y,z,u],S)=Y (.tup [x,y,z,u],S):=λS x y z u=>aY 0.4
 obtain⟨X1,S3,c1,x1,h1,P3,K3⟩:=Tu (q:=q) (p:=xa n g) (c:=[Y A,Y 0.2,Y (.ref q),Y (.lst R),Y (.str "starves")]) (e:=bb 5.1) (λz S P=>by
  obtain⟨j,S',e,j0,j1,P',K'⟩:=iO S q 10 P 0.1 0.1;obtain⟨x,hx,ix⟩:=vA (xs:=R) j0 j1;refine⟨_,S',?_,b4 (o:=.int (g:Int)) rfl hA (hR x hx),P',K'⟩
  simp![e,ix,kt]) (List.range 6) L S2 P2
 obtain⟨X2,S4,c2,x2,h2,P4,K4⟩:=Tu (q:=q) (p:=xa n g) (c:=[Y B,Y (.lst G),Y 0.2,Y (.ref q),Y (.str "starves")]) (e:=bb (aa '5' (aa '3' (aa 1.06 3.5)))) (λz S P=>by
  obtain⟨j,S',e,j0,j1,P',K'⟩:=iO S q 8 P 0.1 0.1;obtain⟨x,hx,ix⟩:=vA (xs:=G) j0 j1;refine⟨_,S',?_,b4 (o:=.int (g:Int)) rfl (hG x hx) hB,P',K'⟩
  simp![e,ix,kt]) (List.range 4) L S3 P3
 obtain⟨j,S5,e5,j0,j6,P5,K5⟩:=iO S4 q 6 P4 0.1 0.1;let O:List D:=[.int (((g:Int)+1)%(n:Int)),.int (n:Int),.int (-1),.bl true,.non,.str (toString (g:Int))]
 obtain⟨o,ho,ix⟩:=vA (xs:=O) j0 j6;have no:nr o=true:=aan.mp (show O.all nr=true from rfl) o ho;obtain⟨k,S6,e6,k0,k1,P6,K6⟩:=iO S5 q 15 P5 0.1 0.1;let X:List D:=(X1++X2)++[.tup [.str "starves",o,A,B],.tup [.str "starves",.int (g:Int),A,B,.int 0],.tup [.str "starves",.int (g:Int),A]]++[.lst [.str "starves",.int (g:Int),A,B],.tup [.str "within",.int (g:Int),A,B]];have lX:X.length=15:=by simp only[X,aaj,x1,x2,adi,aam,abk]
 obtain⟨y,hy,iy⟩:=vA (xs:=X) k0 (by rw[lX];exact k1)
 have hX:xa n g y:=by
  have bc:∀ {x:D} {l:List D},xa n g x->(∀ y∈l,xa n g y)->∀ y∈x::l,xa n g y:=λa b=>acV.mpr ⟨a,b⟩;have bN:∀ y∈([]:List D),xa n g y:=λy h=>nomatch h;rcases aar.mp hy with z | z
  ·rcases aar.mp z with z | z
   ·rcases aar.mp z with z | z
    ·exact h1 y z
    ·exact h2 y z
   ·exact bc (b4 no hA hB) (bc (λr ds S hb=>uB rfl rfl) (bc (λr ds S hb=>uB rfl rfl) bN)) y z
  ·exact bc (λr ds S hb=>uB rfl rfl) (bc (λr ds S hb=>bothW (m:=[m0,m1,m2,m3]) 0.4 0.4) bN) y z
 refine⟨y,S6,?_,hX,P6,Keep.trans (Keep.trans (Keep.trans (Keep.trans (Keep.trans K1 K2) K3) K4) K5) K6⟩;have kc1:∀ env,lG [L,Y 5,Y 4,Y 0,Y 9,Y 3] env=[L,Y A,Y 0.2,Y (.ref q),Y (.lst R),Y (.str "starves")]->jp '`' bK (bb 5.1) [L,Y 5,Y 4,Y 0,Y 9,Y 3] env ((List.range 6).map ni,S2)=Y (.lst X1,S3):=λenv h=>by rw[ej 0.4,h,c1,ob,eo]
 have kc2:∀ env,lG [L,Y 6,Y 11,Y 4,Y 0,Y 3] env=[L,Y B,Y (.lst G),Y 0.2,Y (.ref q),Y (.str "starves")]->jp '`' bK (bb (aa '5' (aa '3' (aa 1.06 3.5)))) [L,Y 6,Y 11,Y 4,Y 0,Y 3] env ((List.range 4).map ni,S3)=Y (.lst X2,S4):=λenv h=>by rw[ej 0.4,h,c2,ob,eo]
 have q1:=kc1 [Y (.ref q),Y 0.5,Y T,Y (.str "starves"),Y 0.2,Y A,Y B,Y (.int i),Y d.d,Y (.lst R),L,L,L] rfl;have q2:=kc2 [Y (.ref q),Y 0.5,Y T,Y (.str "starves"),Y 0.2,Y A,Y B,Y (.int i),Y d.d,Y (.lst R),Y (.lst X1),Y (.lst G),L] rfl;have kr6:OP ([.int 6],S2)=Y ((List.range 6).map ni,S2):=pJ 0.1;have kr4:OP ([.int 4],S3)=Y ((List.range 4).map ni,S3):=pJ 0.1;have gT:∀ gs env S,bo 4 gs T env S=gs [.str "starves",.int (g:Int),A,B] env S:=λgs env S=>mV;have fl:∀ S,aS fJ [B] S=Y (.int 4,S):=λS=>rfl;have s1:∀ S,eZ B (Y 1) (L,S)=Y (.tup [m1.d,m2.d,m3.d],S):=λS=>rfl;have s2:∀ S,eZ B L (Y 1,S)=Y (.tup [m0.d],S):=λS=>rfl;have s3:∀ S,eZ B L (Y (-1),S)=Y (.tup [m0.d,m1.d,m2.d],S):=λS=>rfl;have s4:∀ S,eZ B (Y 2) (L,S)=Y (.tup [m2.d,m3.d],S):=λS=>rfl;have s5:∀ S,eZ B L (Y 2,S)=Y (.tup [m0.d,m1.d],S):=λS=>rfl;have s6:∀ S,eZ A L (Y (-1),S)=Y (.tup [l0.d,l1.d],S):=λS=>rfl;have s7:∀ S,eZ A (Y 1) (L,S)=Y (.tup [l1.d,l2.d],S):=λS=>rfl;have s8:∀ S,eZ T L (Y 3,S)=Y (.tup [.str "starves",.int (g:Int),A],S):=λS=>rfl;have s9:∀ S,eZ T (Y 1) (L,S)=Y (.tup [.int (g:Int),A,B],S):=λS=>rfl;have f1:∀ S,aH S B B=Y (.tup [m0.d,m1.d,m2.d,m3.d,m0.d,m1.d,m2.d,m3.d]):=λS=>cY 0.4;have f2:∀ S,aH S (.tup [m1.d,m2.d,m3.d]) (.tup [m0.d])=Y (.tup [m1.d,m2.d,m3.d,m0.d]):=λS=>cY 0.4;have f3:∀ S,aH S (cb a) (.tup [d.d])=Y (cb (a++[d])):=λS=>by rw[show(D.tup [d.d])=cb [d] from rfl,cY 0.9,<- aaO]
 have f4:∀ S,aH S (cb (a++[d])) (cb b)=Y (cb (a++[d]++b)):=λS=>by rw[cY 0.9,<- aaO]
 have f5:∀ S,aH S (.tup [m2.d,m3.d]) (.tup [m0.d,m1.d])=Y (.tup [m2.d,m3.d,m0.d,m1.d]):=λS=>cY 0.4;have f6:∀ S,aH S B (.tup [d.d])=Y (.tup [m0.d,m1.d,m2.d,m3.d,d.d]):=λS=>cY 0.4;have f7:∀ S,aH S A B=Y (.tup [l0.d,l1.d,l2.d,m0.d,m1.d,m2.d,m3.d]):=λS=>cY 0.4;have f8:∀ S,aH S A (.tup [m0.d,m1.d])=Y (.tup [l0.d,l1.d,l2.d,m0.d,m1.d]):=λS=>cY 0.4;have f9:∀ S,aH S A (.tup [d.d])=Y (.tup [l0.d,l1.d,l2.d,d.d]):=λS=>cY 0.4;have g1:∀ S,aH S T (.tup [.int 0])=Y (.tup [.str "starves",.int (g:Int),A,B,.int 0]):=λS=>cY 0.4;have g2:∀ S,aH S (.tup [.str "within"]) (.tup [.int (g:Int),A,B])=Y (.tup [.str "within",.int (g:Int),A,B]):=λS=>cY 0.4;have g3:∀ S,aS (du .lst) [B] S=Y (.lst [m0.d,m1.d,m2.d,m3.d],S):=λS=>rfl;have g4:∀ S,aS (du .lst) [A] S=Y (.lst [l0.d,l1.d,l2.d],S):=λS=>rfl;have g5:∀ S,aS (du .lst) [T] S=Y (.lst [.str "starves",.int (g:Int),A,B],S):=λS=>rfl;have aR1:∀ x y z u v w:D,aH S2 (.lst [x,y,z]) (.lst [u,v,w])=Y (.lst [x,y,z,u,v,w]):=λx y z u v w=>ny 0.4;have aR2:aH S2 (.lst [.tup [m0.d,m1.d,m2.d,m3.d,m0.d,m1.d,m2.d,m3.d],.tup [m1.d,m2.d,m3.d,m0.d],.tup [m0.d,m1.d,m2.d],cb (a++[d]++b),.tup [],.lst [m0.d,m1.d,m2.d,m3.d]]) (.lst [.tup [m2.d,m3.d,m0.d,m1.d],.tup [m0.d,m1.d],.tup [m0.d,m1.d,m2.d,m3.d,d.d],.non])=Y (.lst R):=ny 0.4;have aG:aH S3 (.lst [.tup [l0.d,l1.d,l2.d,m0.d,m1.d,m2.d,m3.d],.tup [l0.d,l1.d,l2.d,m0.d,m1.d],.tup [l0.d,l1.d],.tup [l1.d,l2.d]]) (.lst [.tup [],.lst [l0.d,l1.d,l2.d],.tup [l0.d,l1.d,l2.d,d.d],.non])=Y (.lst G):=ny 0.4;have aX1:aH S4 (.lst X1) (.lst X2)=Y (.lst (X1++X2)):=ny (by rw[x1,x2];simp);have aX2:∀ x y z:D,aH S5 (.lst (X1++X2)) (.lst [x,y,z])=Y (.lst (X1++X2++[x,y,z])):=λx y z=>ny (by rw[aaj,x1,x2];simp);have aX3:∀ x y z u v:D,aH S5 (.lst (X1++X2++[x,y,z])) (.lst [u,v])=Y (.lst (X1++X2++[x,y,z]++[u,v])):=λx y z u v=>ny (by rw[aaj,aaj,x1,x2];simp);have iy':aD S6 (.lst (X1++X2++[.tup [.str "starves",o,A,B],.tup [.str "starves",.int (g:Int),A,B,.int 0],.tup [.str "starves",.int (g:Int),A]]++[.lst [.str "starves",.int (g:Int),A,B],.tup [.str "within",.int (g:Int),A,B]])) (.int k)=Y y:=iy S6;have ix':aD S5 (.lst [.int (((g:Int)+1)%(n:Int)),.int (n:Int),.int (-1),.bl true,.non,.str (toString (g:Int))]) (.int j)=Y o:=ix S5;have md:kR S4 (.int ((g:Int)+1)) 0.5=Y (.int (((g:Int)+1)%(n:Int))):=ky 0.0;have hg:=W.hg;have st:aS ur [.int (g:Int)] S4=Y (.str (toString (g:Int)),S4):=Wn 0.0 0.0;simp![vR,gT,bH,cU,bY,Jv,JF,bT,bU,fl,e1,e2,jo,f1,cR,fC,fB,dP,da,dQ,XS,XV,RV,s1,s2,s3,s4,s5,s6,s7,s8,s9,f2,f3,f4,f5,f6,f7,f8,f9,g1,g2,g3,g4,g5,sa,sb,lv,aY,eI,aam,abk,Nat.reduceLeDiff,Nat.reduceAdd,acI,aR1,aR2,aG,aX1,aX2,aX3,ci,hJ,kr6,kr4,q1,q2,md,st,e5,ix',e6,iy']
end
theorem Hk{tg:MG}{b:MS}{c:Nat}(I:bf->ac->Prop)(hc:∀ env S,I env S->S[c]?=Y 2.2)(st:∀ d∈xs,∀ env S,I env S->∃ env1 S1 env2 S2,tg d env S=Y (env1,S1)/\b env1 S1=Y (.nx env2 S2)/\I env2 S2):∀ (k i f:Nat) (env:bf) (S:ac),i+k=xs.length->k<f->I env S->∃ env' S',fW tg b c f i env S=Y 1.62/\I env' S'
 | 0,i,f+1,env,S,hk,hf,hI=>⟨env,S,Jw (hc _ _ hI) 0.0,hI⟩
 | k+1,i,f+1,env,S,hk,hf,hI=>by
  have hi:i<xs.length:=by omega
  obtain⟨env1,S1,env2,S2,e1,e2,h2⟩:=st xs[i] (acg _) env S hI;obtain⟨env',S',e,h'⟩:=Hk I hc st k (i+1) f env2 S2 0.0 0.0 h2;refine⟨env',S',?_,h'⟩;rw[Gw (hc _ _ hI) (aae hi),e1,ob,qae,e2,ob,VL,e]
def lwB:MS:=(gd (gi eQ '9' (aa (au 3 jh (aa '2' (aa '4' (aa (aB aD '9' 0e0) ak)))) ak)))
def lwC:MS:=(aM (aV (au 5 dR (aa '3' (aa '4' (aa '5' (aa '6' (aa ';' ak)))))) 'l') (aM (aV (au 5 dk (aa '3' (aa '4' (aa '5' (aa '6' (aa ';' ak)))))) 'm') (cr (fI (cS (dA (iw "bool" '='))) (aI (aB jx '=' '<'))) (bu (mC 1.6)) bq)))
def turn:MS:=(aM (aV (au 2 kO (aa '0' 3.5)) 'b') (aM (aV (au 1 ic 4.2) (bo 3 3.4)) (aM (aV (au 3 kM (aa '2' (aa '3' 5.0))) (bo 3 (ag 'f' 9.8))) (aM (aV (gb (aa (bb (aa (!"starves") (aa '6' (aa '7' 1.13)))) (aa 1.9 (aa (mC 4.3) (aa 0e0 (aa (!"starves") (aa (bb ak) (aa (bb (aa (!"starves") ak)) (aa (gb ak) (aa (eM []) ak)))))))))) 'i') (aM (mQ (cB (aa 8e0 ak)) 'j' lwB) (gc '9' 'k' lwC))))))
def lwP:MS:=aM (mQ (cB (aa (bG (aS qq) (aa 2e0 (aa (bG (aS LM) (aa (bG (aS fJ) 7.8) 2.50)) ak))) ak)) 'a' turn) (bu (mC 4.3))
theorem lw_me:Hu=aT HV lwP 1:=ji rfl
structure St(S:ac)(q p a b:Nat)(X:List D):Prop where
 pk:Pk S q
 at':S[p]?=Y (.lst X)
 el:S[a]?=Y (.lst [])
 ed:S[b]?=Y (.dct [] [])
 ne:p≠q/\a≠q/\b≠q/\p≠a/\p≠b
section
variable{r:Rl}{n q p a b g:Nat}{S S':ac}{ds:List Dd}{X:List D}
theorem St.kk(h:St S q p a b X)(K:KK S S'):St S' q p a b X:=⟨K.pk h.pk,(K p (aaa.mp h.at').1).trans h.at',(K a (aaa.mp h.el).1).trans h.el,(K b (aaa.mp h.ed).1).trans h.ed,h.ne⟩
theorem St.keep(h:St S q p a b X)(P:Pk S' q)(K:Keep q S S'):St S' q p a b X:=⟨P,(K.1 p h.ne.1).trans h.at',(K.1 a h.ne.2.1).trans h.el,(K.1 b h.ne.2.2.1).trans h.ed,h.ne⟩
theorem lwBs{e0 e1 e3 e5 e6 e7 e8 f1 f2 f3:Option D}(n3:3<=n)(n4:n<=4)(W:Rw3 n g l0 l1 l2 m0 m1 m2 m3):∀ (us:List D) (X Y0:List D) (S:ac) (f0:Option D),St S q p a b (.tup [.str "starves",.int (g:Int),cb [l0,l1,l2],cb [m0,m1,m2,m3]]::X++Y0)->(∀ d∈Y0,xa n g d)->X.length+Y0.length+us.length<=100 ->
  ∃ c0 S' Z,cO 'j' lwB us [e0,e1,Y (.ref q),e3,Y 0.5,e5,e6,e7,e8,Y (.ref p),f0,f1,f2,f3] S=Y (.nx [e0,e1,Y (.ref q),e3,Y 0.5,e5,e6,e7,e8,Y (.ref p),c0,f1,f2,f3] S')/\St S' q p a b (.tup [.str "starves",.int (g:Int),cb [l0,l1,l2],cb [m0,m1,m2,m3]]::X++Z)/\(∀ d∈Z,xa n g d)/\X.length+Z.length<=100
 | []=>λX Y0 S f0 h hY hz=>⟨f0,S,Y0,uX,h,hY,by simpa using hz⟩
 | u::us=>λX Y0 S f0 h hY hz=>by
  rw[aam] at hz;obtain⟨d,S1,e,hd,P1,K1⟩:=qbN h.pk n3 n4 W;have h1:=h.keep P1 K1;have ap:=vt (y:=d) h1.at' (by rw[aaj,aam];omega);have hp:=(aaa.mp h1.at').1
  have h2:St (S1.set p (.lst ((.tup [.str "starves",.int (g:Int),cb [l0,l1,l2],cb [m0,m1,m2,m3]]::X++Y0)++[d]))) q p a b (.tup [.str "starves",.int (g:Int),cb [l0,l1,l2],cb [m0,m1,m2,m3]]::X++(Y0++[d])):=by
   refine⟨?_,by rw[aaL hp,<- aaP],(aaC h1.ne.2.2.2.1).trans h1.el,(aaC h1.ne.2.2.2.2).trans h1.ed,h1.ne⟩;obtain⟨i,j,k,z,w⟩:=P1;exact⟨i,j,k,(aaC h.ne.1).trans z,w⟩
  obtain⟨c0,S3,Z,z3,h3⟩:=lwBs (e0:=e0) (e1:=e1) (e3:=e3) (e5:=e5) (e6:=e6) (e7:=e7) (e8:=e8) (f1:=f1) (f2:=f2) (f3:=f3) n3 n4 W us X (Y0++[d]) _ (Y u) h2 (λx hx=>by
   rcases aar.mp hx with z | z
   ·exact hY x z
   ·rw[aav.mp z];exact hd) (by rw[aaj,aaZ];omega)
  refine⟨c0,S3,Z,?_,h3⟩;have km:=λms env=>DZ (f:=eQ) (ms:=ms) (env:=env) h.at';have ix:aD S (.ref p) (.int 0)=Y (.tup [.str "starves",.int (g:Int),cb [l0,l1,l2],cb [m0,m1,m2,m3]]):=by rw[qV h.at',zM (Int.le_refl 0) (by simp only[aaj,aam];omega)];rfl
  rw[fz]
  have eb:lwB [e0,e1,Y (.ref q),e3,Y 0.5,e5,e6,e7,e8,Y (.ref p),Y u,f1,f2,f3] S=Y (.nx [e0,e1,Y (.ref q),e3,Y 0.5,e5,e6,e7,e8,Y (.ref p),Y u,f1,f2,f3] (S1.set p (.lst ((.tup [.str "starves",.int (g:Int),cb [l0,l1,l2],cb [m0,m1,m2,m3]]::X++Y0)++[d])))):=by
   simp![lwB,qN,qM,km,ix,bV,e,gn,ap,qQ]
  simp only[aR,ob,eD,fo,oS,eb,mU];exact z3
theorem qa0{d:D}{e0 e1 e2 e7 e8 e9 f0 f2 f3:Option D}(h:KL r n g ds S d):∃ c2 c3 S',lwC [e0,e1,e2,Y r.d,Y 0.5,Y (cb ds),Y 0.2,e7,e8,e9,f0,Y d,f2,f3] S=Y (.nx [e0,e1,e2,Y r.d,Y 0.5,Y (cb ds),Y 0.2,e7,e8,e9,f0,Y d,c2,c3] S')/\KK S S':=by
 obtain⟨v,S1,S2,t1,K1,t2,K2⟩:=h;refine⟨Y (.bl v),Y (.bl v),S2,?_,K1.trans K2⟩;have ib:og "bool" S2 (.bl v)=Y 4.3:=rfl;have nb:jx S2 (.bl v) (.bl v)=Y 1.6:=by rw[qaY];simp
 simp![lwC,yY,t1,t2,dY,cx,cw,gj,gq,ib,cC,cy,aau,fX,nb]
theorem refT{c:wZ}(hc:(c=.lst [])\/c=.dct [] [])(h:S[a]?=Y c):og "tuple" S (.ref a)=Y 1.6:=by
 unfold og YU;dsimp only;rw[h];rcases hc with rfl | rfl<;>rfl
end
theorem Uq{ns:List Int}{k:Int}{a2 a3 a4 a5 a6 a7 a8 a9 b0 b1 b2 b3:Option D}(h0:0<=k)(h1:k<=100000):∃ c2 c3 c4 c5 c6 c7 c8 c9 d0 d1 d2 d3 S',turn [Y (.rol 2.0),Y (.int k),a2,a3,a4,a5,a6,a7,a8,a9,b0,b1,b2,b3] S=Y (.nx [Y (.rol 2.0),Y (.int k),c2,c3,c4,c5,c6,c7,c8,c9,d0,d1,d2,d3] S'):=by
 obtain⟨p,q,e1,p0,q0,q1⟩:=left (S:=S) (ns:=ns) h0 h1;have P1:=qbX (S:=S) (c:=0) p0 q0 q1;obtain⟨r,n,ds,S2,e2,hb,n3,n4,P2,K2⟩:=Um P1;obtain⟨g,l0,l1,l2,m0,m1,m2,m3,S3,e3,W,P3,K3⟩:=Zl (rl:=r) P2 n3 n4;let T:D:=.tup [.str "starves",.int (g:Int),cb [l0,l1,l2],cb [m0,m1,m2,m3]];let X:List D:=[.non,.bl true,.int 0,.str "starves",.tup [],.tup [.str "starves"],.ref S3.length,.ref (S3.length+1)]
 let S4:ac:=S3++[.lst []]++[.dct [] []]++[.lst (T::X)];have l3:S.length<S3.length:=P3.lt
 have hS4:St S4 S.length (S3.length+2) S3.length (S3.length+1) (T::X++[]):=by
  refine⟨((KK.app _).pk ((KK.app _).pk ((KK.app _).pk P3))),?_,?_,?_,by omega⟩<;>simp[S4,List.getElem?_append]
 obtain⟨c0,S5,Z,e5,h5,hZ,lZ⟩:=lwBs (e0:=Y (.rol 2.0)) (e1:=Y (.int k)) (e3:=Y r.d) (e5:=Y (cb ds)) (e6:=Y 0.2) (e7:=Y 1.68) (e8:=Y 8.9) (f1:=b1) (f2:=b2) (f3:=b3) n3 n4 W (dw 0 8) X [] S4 b0 hS4 (λd hd=>(nomatch hd)) (by simp[X,dw]);have ok7:∀ d∈[l0,l1,l2,m0,m1,m2,m3],d.Ok n:=W.ok
 have hX:∀ d∈T::X++Z,∀ S',St S' S.length (S3.length+2) S3.length (S3.length+1) (T::X++Z)->KL r n g ds S' d:=λd hd S' hs=>by
  rcases aar.mp hd with z | z
  ·simp only[X,aaG,acf,adu] at z;rcases z with rfl | rfl | rfl | rfl | rfl | rfl | rfl | rfl | rfl
   ·exact YE hb 0.0 rfl (rlW (λx hx=>ok7 x (aaW [m0,m1,m2,m3] hx)) 0.4) (rlW (λx hx=>ok7 x (aaM [l0,l1,l2] hx)) 0.4)
   ·exact uB rfl rfl
   ·exact uB rfl rfl
   ·exact uB rfl rfl
   ·exact uB rfl rfl
   ·exact uB rfl rfl
   ·exact uB rfl rfl
   ·exact YD (refT 4.5 hs.el)
   ·exact YD (refT 2.32 hs.ed)
  ·exact hZ d z r ds S' hb
 obtain⟨env',S6,e6,c11,c12,c13,rfl,h6⟩:=Hk (c:=S3.length+2) (tg:=aj 11) (b:=lwC) (xs:=T::X++Z) (λenv S'=>∃ c11 c12 c13,env=[Y (.rol 2.0),Y (.int k),Y 1.1,Y r.d,Y 0.5,Y (cb ds),Y 0.2,Y 1.68,Y 8.9,Y (.ref (S3.length+2)),c0,c11,c12,c13]/\St S' S.length (S3.length+2) S3.length (S3.length+1) (T::X++Z)) (λenv S' hI=>by obtain⟨w,w,w,w,h⟩:=hI;exact h.at') (λd hd env S' hI=>by
  obtain⟨c11,c12,c13,rfl,hs⟩:=hI;obtain⟨d2,d3,S7,e7,K7⟩:=qa0 (e0:=Y (.rol 2.0)) (e1:=Y (.int k)) (e2:=Y 1.1) (e7:=Y 1.68) (e8:=Y 8.9) (e9:=Y (.ref (S3.length+2))) (f0:=c0) (f2:=c12) (f3:=c13) (hX d hd S' hs)
  exact⟨_,_,_,_,aR,e7,_,_,_,rfl,hs.kk K7⟩) (T::X++Z).length 0 2000 [Y (.rol 2.0),Y (.int k),Y 1.1,Y r.d,Y 0.5,Y (cb ds),Y 0.2,Y 1.68,Y 8.9,Y (.ref (S3.length+2)),c0,b1,b2,b3] S5 0.0 (by rw[aaj,aam];omega) ⟨_,_,_,rfl,h5⟩
 refine⟨Y 1.1,Y r.d,Y 0.5,Y (cb ds),Y 0.2,Y 1.68,Y 8.9,Y (.ref (S3.length+2)),c0,c11,c12,c13,S6,?_⟩;have k4:cI ([.str "starves",.int (g:Int),cb [l0,l1,l2],cb [m0,m1,m2,m3]],S3)=Y (T,S3):=aY 0.4;have k0:cI ([],S3)=Y (.tup [],S3):=aY 0.4;have k1:∀ x,cI ([x],S3)=Y (.tup [x],S3):=λx=>aY 0.4;have kl0:vT ([],S3)=Y (.ref S3.length,S3++[.lst []]):=nP 0.4
 have kd0:yW ([],S3++[.lst []])=Y (.ref (S3.length+1),S3++[.lst []]++[.dct [] []]):=by
  have:=BH (l:=[]) (S:=S3++[.lst []]) List.nodup_nil 0.4;rw[aaj] at this;exact this
 have kl9:vT ([T,.non,.bl true,.int 0,.str "starves",.tup [],.tup [.str "starves"],.ref S3.length,.ref (S3.length+1)],S3++[.lst []]++[.dct [] []])=Y (.ref (S3.length+2),S4):=by
  have:=nP (xs:=T::X) (S:=S3++[.lst []]++[.dct [] []]) (by simp[X]);rw[aaj,aaj] at this;exact this
 have k8:∀ S,OP ([.int 8],S)=Y (dw 0 8,S):=λS=>vi 0.1 0.1;have pn:∀ env S,mf [] env S=Y ([],S):=λenv S=>jX;have e2':ic [.ref S.length] (S++[.lst [.int p,.int q,.int 0]])=_:=e2;simp![turn,e1,jq,e2',qT,bH,cU,bY,bV,e3,tQ,k4,k0,k1,kl0,GD,pn,kd0,kl9,DL,hJ,k8,Ea,e5,lF,VP,e6]
theorem Ra:∀ ns:List Int,ns.length<=63->∃ S',Hu [.rol 2.0] []=Y (.bl true,S'):=λns hl=>by
 rw[lw_me,bE (show [D.rol 2.0].length=1 from rfl),show aX HV [D.rol 2.0]=[Y (.rol 2.0),L,L,L,L,L,L,L,L,L,L,L,L,L] from rfl];generalize hk:(if (if (4:Int)<2.17 then 4 else(ns.length:Int))>2 then(if (4:Int)<2.17 then 4 else(ns.length:Int)) else 2)=k;have hk':0<=k/\k<=26:=by rw[<- hk];split<;>(try split)<;>omega
 have k1:OP ([.int k],[])=Y (dw 0 k.toNat,[]):=vi 0.0 0.0
 obtain⟨env',S',e,a1,a2,a3,a4,a5,a6,a7,a8,a9,b0,b1,b2,b3,rfl⟩:=Hl (tg:=aj 1) (p:=turn) (λenv z=>∃ a1 a2 a3 a4 a5 a6 a7 a8 a9 b0 b1 b2 b3,env=[Y (.rol 2.0),a1,a2,a3,a4,a5,a6,a7,a8,a9,b0,b1,b2,b3]) (dw 0 k.toNat) (λd hd env S hI=>by
  obtain⟨a1,a2,a3,a4,a5,a6,a7,a8,a9,b0,b1,b2,b3,rfl⟩:=hI;obtain⟨i,hi,rfl⟩:=Jf hd;obtain⟨c2,c3,c4,c5,c6,c7,c8,c9,d0,d1,d2,d3,S2,e⟩:=Uq (S:=S) (ns:=ns) (k:=0+(i:Int)) (a2:=a2) (a3:=a3) (a4:=a4) (a5:=a5) (a6:=a6) (a7:=a7) (a8:=a8) (a9:=a9) (b0:=b0) (b1:=b1) (b2:=b2) (b3:=b3) 0.0 0.0
  exact⟨_,_,_,_,aR,e,_,_,_,_,_,_,_,_,_,_,_,_,_,rfl⟩) [Y (.rol 2.0),L,L,L,L,L,L,L,L,L,L,L,L,L] [] ⟨_,_,_,_,_,_,_,_,_,_,_,_,_,rfl⟩
 refine⟨S',?_⟩;simp![lwP,DL,hJ,bT,bU,qb0,Wp,Wr,aai,hk,k1,Ea,e]
end K34
end
end
namespace PySem.W.Fast
def tw3517211447780068156:=0
def tw1044334440792747824:=0
def tw2388056867988957868:=0
def tw10257762054351187070:=0
def tw16747728158528701412:=0
def tw3184449509711042674:=0
def tw4220246365073294760:=0
def tw3813202959232020993:=0
def tw7000809401249938199:=0
def tw2589914141859793822:=0
def tw8158601224623930601:=0
def tw14876912237869285160:=0
def tw17404887629353461533:=0
def tw176129522950527977:=0
def tw5948330084580826192:=0
def tw17519596541913476092:=0
def tw9298751767544817463:=0
def tw7134854683287506202:=0
def tw4163787515963817146:=0
def tw6522429018632205710:=0
def tw7794695204927681712:=0
def tw14313729075977642199:=0
def tw16526432430202933000:=0
def tw13872231046236979234:=0
def tw11846299681603077345:=0
def tw7503980512604659728:=0
def tw6019224813207801266:=0
def tw10258421576862640741:=0
def tw2741260109525852237:=0
def tw7048139278788516981:=0
def tw13839930866107178516:=0
def tw7905509562904068491:=0
def tw16406847224655771954:=0
def tw3769569095388691066:=0
def tw10392027397988856873:=0
def tw8542397071065554685:=0
def tw5228320925582597934:=0
def tw10720421894749782478:=0
def tw6459621521388829866:=0
def tw7700098688526352590:=0
def tw17891639646589888830:=0
def tw14136523334465777697:=0
def tw3520242723662419356:=0
def tw11362969097817435315:=0
def tw5774848700785361700:=0
def tw16684914730192900488:=0
def tw9712595284107038273:=0
def tw1163766671804697547:=0
def tw9501392173377879225:=0
def tw4411354169803231337:=0
def tw2413026760638559675:=0
def tw11125434903307864233:=0
def tw4265159330063878189:=0
def tw16350126344826070121:=0
def tw5029863629424636762:=0
def tw7588911851128342749:=0
def tw13361166131529582436:=0
def tw5521479043235575005:=0
def tw1796429436908459196:=0
def tw13191088545877012420:=0
def tw6661574505687564034:=0
def tw2032929852659324780:=0
def tw14583552070833657074:=0
def tw8028328792776880400:=0
def tw4116902429229513254:=0
def tw10252989119540425793:=0
def tw4065542579002253731:=0
def tw11481350807150758175:=0
def tw5264565054860549577:=0
def tw14943171632708076290:=0
def tw12974185078614245920:=0
def tw16597374110413493114:=0
def tw6946515603918942426:=0
def tw4136013753287770469:=0
def tw9709473356892151081:=0
def tw17100169202686484501:=0
def tw6636061171128410096:=0
def tw9617725356047923145:=0
def tw15705767399024782048:=0
def tw11481568141503633266:=0
def tw17458845346482554376:=0
def tw10347040144681968504:=0
def tw1049697070262963669:=0
def tw4553761524593810061:=0
def tw4564068376197244459:=0
def tw10633395147225470669:=0
def tw8714985745126452912:=0
def tw2986706511285566969:=0
def tw16101909812327278016:=0
def tw17214786417504369811:=0
def tw14287334076580382536:=0
def tw8016006698103111952:=0
def tw8886253783912776765:=0
def tw10731068685476268174:=0
def tw9628439852530302352:=0
def tw9612348851920852387:=0
def tw9297058523017409910:=0
def tw12733349162229029128:=0
def tw69303185467172823:=0
def tw66565158313702852:=0
def tw7024790064661772270:=0
def tw14924993167521895540:=0
def tw11749502815278997944:=0
def tw9769526297466336372:=0
def tw4226731444322678099:=0
def tw2021493903387928487:=0
def tw899713184809838443:=0
def tw17834555429321950717:=0
def tw1170910292416061673:=0
def tw9604031788799378656:=0
def tw11934013259996873586:=0
def tw8265917126382206449:=0
def tw6662089572610424264:=0
def tw414674030177580143:=0
def tw15979964478699668489:=0
def tw13246789137647755341:=0
def tw7081555593087862333:=0
def tw6207783416071781173:=0
def tw14705853897123365007:=0
def tw2083834827165281301:=0
def tw13939933378141822110:=0
def tw64779381703875327:=0
def tw685871724853508566:=0
def tw1932046038725582462:=0
def tw8038539029973621348:=0
def tw6544087694929665455:=0
def tw7521118466062063907:=0
def tw7096848259410633816:=0
def tw16429194630132653984:=0
def tw14510518292345069691:=0
def tw7584682601133648742:=0
def tw12714649359694248328:=0
def tw1013802553733958108:=0
def tw9984997895335595808:=0
def tw10949292508633114267:=0
def tw3509551704633225197:=0
def tw7605507717290807805:=0
def tw13769458483546115743:=0
def tw12874524644210172062:=0
def tw14691870006244867700:=0
def tw18189066519573969854:=0
def tw8952269314704097146:=0
def tw609136223160342615:=0
def tw5895542792855617820:=0
def tw7617916152650635968:=0
def tw15166081337986026181:=0
def tw16832941593071922320:=0
def tw18254318758429224238:=0
def tw341557499778386086:=0
def tw10485442967641154215:=0
def tw15358931829959461603:=0
def tw12118715217011940374:=0
def tw8887658625662022413:=0
def tw14178333791057509025:=0
def tw8892256859936330525:=0
def tw17473820140679206613:=0
def tw5525865704894622089:=0
def tw10428099725147442016:=0
def tw16385430930000681661:=0
def tw11613528583629500537:=0
def tw3412743820390092665:=0
def tw507390365390237351:=0
def tw7585523905046283122:=0
def tw16344532758669245052:=0
end PySem.W.Fast
namespace PySem.W.Fast
def tw4832565534281719976:=0
def tw4962640965470213973:=0
def tw3862852868649654134:=0
def tw15900513046899239775:=0
def tw7227993196332793122:=0
def tw634133581973733686:=0
def tw5651761390364119237:=0
def tw3855721742966504307:=0
def tw15301695202132905328:=0
def tw221496085194537698:=0
def tw15956141500789789841:=0
def tw16671674562686006573:=0
def tw7934754059108342869:=0
def tw15702353788779392588:=0
def tw6922521710223387455:=0
def tw2651020766949351452:=0
def tw16880706673570287855:=0
def tw18175648482553100591:=0
def tw18183459567588515589:=0
def tw540537607649535661:=0
def tw5868286971962580643:=0
def tw642843447206064816:=0
def tw4062369793216995139:=0
def tw17886775975094463114:=0
def tw10642856906965330580:=0
def tw17013467258594802113:=0
def tw592411904442011859:=0
def tw1260437487787147944:=0
def tw998426689901584085:=0
def tw8929437302288523107:=0
def tw14703660560778308133:=0
def tw6148522937105187273:=0
def tw17832824962235543988:=0
def tw6160167887621963132:=0
def tw16362538725684751716:=0
def tw15020779029160950249:=0
def tw5567294895875189402:=0
def tw7542183755005153389:=0
def tw13363449409811187292:=0
def tw6585149773783914922:=0
def tw13525423599991717598:=0
def tw9748159824550001228:=0
def tw12427477903664839605:=0
def tw4047265965354102627:=0
def tw4560054651911416854:=0
def tw16245039070238087683:=0
def tw3635489839704405982:=0
def tw5214513144454051512:=0
def tw660083285882633333:=0
def tw9881665157179370047:=0
def tw10405907746457458660:=0
def tw11103768349624849310:=0
def tw14553022473178615702:=0
def tw8976771639945531581:=0
def tw11782433977658273661:=0
def tw9725745261994973876:=0
def tw9731155333726721396:=0
def tw4729673587322415787:=0
def tw8367606303761780689:=0
def tw1089318005642924159:=0
def tw10983596310832497420:=0
def tw11275123271612878296:=0
def tw16306619467352804893:=0
def tw8345165972276031088:=0
def tw392763202687957742:=0
def tw18225784023308419285:=0
def tw15461037235000961036:=0
def tw17617204765823710743:=0
def tw3228345651489359376:=0
def tw648927375283169907:=0
def tw3290260438902508728:=0
def tw1972125637194037260:=0
def tw18270777839649590778:=0
def tw17510648336822121911:=0
def tw13535330635821723412:=0
def tw1188515594655784855:=0
def tw5791227317798913997:=0
def tw6869710415476475238:=0
def tw17807088590021361117:=0
def tw3103843150982447459:=0
def tw5438281161435929703:=0
def tw18373253966337618789:=0
def tw3015734671573461746:=0
def tw15891409324394036660:=0
def tw1801937823999601025:=0
def tw5603206787421369392:=0
def tw3225131569310741133:=0
def tw4418959843309643492:=0
def tw14923136841263457099:=0
def tw5134936096066372053:=0
def tw14780925441052735062:=0
def tw16285085415225866388:=0
def tw11828909853339460216:=0
def tw3771200501454503829:=0
def tw1165247180641587797:=0
def tw14683978443887491891:=0
def tw10902189946453630125:=0
def tw6548464601926203808:=0
def tw5559608939167100101:=0
def tw7823754144921292720:=0
def tw11510697995547412979:=0
def tw5058706325332331508:=0
def tw2621421531584699124:=0
def tw16989222316566332963:=0
def tw5740969633836322911:=0
def tw18415006059899293493:=0
def tw17522589056480007637:=0
def tw14393265155289328002:=0
def tw8125476033540884656:=0
def tw1271856738242977631:=0
def tw9561667078325037675:=0
def tw12923890585235948787:=0
def tw972188540893036546:=0
def tw10340523093357294161:=0
def tw14444019101507152708:=0
def tw8922066049888290988:=0
def tw3989112141445941440:=0
def tw9254161596019123707:=0
def tw11718839463612155766:=0
def tw4532660198835515598:=0
def tw5793562893732482710:=0
def tw14795224249608028826:=0
def tw5237902602044197971:=0
def tw1812849964551826077:=0
def tw9229113483772835626:=0
def tw8011778600753634764:=0
def tw278241554102588752:=0
def tw16638068718499805243:=0
def tw5193724377249233245:=0
def tw8679246779052110802:=0
def tw18251698319580302404:=0
def tw1222766786023028997:=0
def tw1202384546176390843:=0
def tw17724609493461316300:=0
def tw6093404484449353142:=0
def tw7644066168221621508:=0
def tw7705283262245124631:=0
def tw15618294071839360738:=0
def tw15426871670751697355:=0
def tw11394756857591545429:=0
def tw17571222050620764465:=0
def tw9071764424953933177:=0
def tw4357859985525673516:=0
def tw12374327512329348395:=0
def tw5869505895348413649:=0
def tw5142603006638503912:=0
def tw6809565195378487561:=0
def tw9065630664573865986:=0
def tw8974810051459486995:=0
def tw3866000945655956728:=0
def tw17852398767772271452:=0
def tw18445930687243565010:=0
def tw3731511267353915252:=0
def tw184177305988027701:=0
def tw12652891459110602938:=0
def tw3362550497472625633:=0
def tw10390685271007069052:=0
def tw13166532373547621496:=0
def tw17013054555462276653:=0
def tw14713787120009829001:=0
def tw7439075357604038899:=0
def tw6936499464111381047:=0
def tw1898422427674668687:=0
def tw13594035036242798982:=0
def tw8064924877786864381:=0
def tw15212297223143711808:=0
def tw17666414399862791498:=0
def tw4795885403597393730:=0
def tw13127253996164173844:=0
def tw14864035875373480819:=0
def tw16422131416242440030:=0
def tw14473243707695630807:=0
def tw13687187076886043692:=0
def tw10983325539803456862:=0
def tw16364705708231285239:=0
def tw5586525483911349254:=0
def tw3740215894120200309:=0
def tw10946466286508478469:=0
def tw17608143488111119046:=0
def tw12282230380478337228:=0
def tw11636194178684028275:=0
def tw17623166133887574612:=0
def tw10618576229842308013:=0
def tw12494611947286030678:=0
def tw4091531621902042338:=0
def tw8012018647720571820:=0
def tw8356342497900845136:=0
def tw14811119955890452475:=0
def tw18331865832377684111:=0
def tw7755913054694890167:=0
def tw10669645759160847190:=0
def tw13742596633079936997:=0
def tw3126715657322259107:=0
def tw13005792079466516233:=0
def tw4636324730071804056:=0
def tw15644950699421692314:=0
def tw1337877000062173046:=0
def tw14549239145053649897:=0
def tw1345236021018256000:=0
def tw18317356884729546378:=0
def tw16851097503422192044:=0
def tw17656252889166458895:=0
def tw1751639977191798645:=0
def tw11514490226503379338:=0
def tw7940756614159856062:=0
def tw2270568125426042209:=0
def tw16190878748378205726:=0
def tw3860450280852427820:=0
def tw14142696708824043948:=0
def tw1723341558809674878:=0
def tw2454659651150742535:=0
def tw6616983540411677518:=0
def tw15363001450188860091:=0
def tw4159241152530088931:=0
def tw1058784468963007077:=0
end PySem.W.Fast
noncomputable def PySem.W.Fast.tw4368153284035550917:PySem.Program:=PySem.Challenge.pw_manyreaders_k34_starving_rows_shown
theorem PySem.W.Fast.te4368153284035550917:PySem.Challenge.pw_manyreaders_k34_starving_rows_shown=W.Fast.tw4368153284035550917:=rfl
namespace K34
def c0:QP:=dO 0
def c5:QP:=dO 5
def c6:QP:=dO 6
def c7:QP:=dO 7
def c8:QP:=dO 8
def c9:QP:=dO 9
def c10:QP:=dO 10
def c11:QP:=dO 11
def c12:QP:=dO 12
def c13:QP:=dO 13
def c14:QP:=dO 14
def c15:QP:=dO 15
def c17:QP:=dO 17
def c23:QP:=dO 23
def c24:QP:=dO 24
def c25:QP:=dO 25
def c26:QP:=dO 26
def c35:QP:=dO 35
def c36:QP:=dO 36
def c37:QP:=dO 37
def c38:QP:=dO 38
def c39:QP:=dO 39
def c52:QP:=dO 52
def c53:QP:=dO 53
def c54:QP:=dO 54
def c55:QP:=dO 55
def c56:QP:=dO 56
def c57:QP:=dO 57
def c58:QP:=dO 58
def c59:QP:=dO 59
def c60:QP:=dO 60
def c61:QP:=dO 61
def c63:QP:=dO 63
def c67:QP:=dO 67
def c71:QP:=dO 71
def c72:QP:=dO 72
def pw2:vx:={ PySem.Challenge.pw_manyreaders_k34_starving_rows_shown with main:={ PySem.Challenge.pw_manyreaders_k34_starving_rows_shown.main with body:=[c0,jN,gL,lN,fM,c5,c6,c7,c8,c9,c10,c11,c12,c13,c14,c15,qJ,c17,fN,iR,eR,lI,jL,c23,c24,c25,c26,nI,lL,jO,iS,lK,nH,gM,nG,c35,c36,c37,c38,c39,lO,nJ,uN,iT,jP,gP,fO,gO,gN,jM,nD,dT,c52,c53,c54,c55,c56,c57,c58,c59,c60,c61,kG,c63,gJ,lJ,lM,c67,eE,eS,gK,c71,c72,eX,iY,jR,iW,iU,ja,fQ,iX,jQ,eV,jS,fP,iZ,gW,jc,gS,eU,gR,eW,gQ,iV,dU,gU,jd,Bk] } }
def lw:W.OpenLaw:={ PySem.Challenge.rw_manyreaders_k34_starving_rows_shown with prog:=pw2 }
theorem lw_eq:PySem.Challenge.rw_manyreaders_k34_starving_rows_shown=lw:=by kernel_rfl
end K34
namespace K34
open L2 MI M
noncomputable def lA:Str:="law_manyreaders_k34_starving_rows_shown"
noncomputable def XR:Str:="manyreaders.kinds"
noncomputable def md2:Str:="manyreaders.longlooks"
noncomputable def OO:Str:="manyreaders.rooms"
noncomputable def HZ:Str:="manyreaders.doors"
noncomputable def xx:Str:="manyreaders.deeds"
noncomputable def md6:Str:="manyreaders.runs"
noncomputable def md7:Str:="manyreaders.starving"
noncomputable def md8:Str:="manyreaders.errors"
noncomputable def kf0(P:Params):aeH:=[(3,⟨.type "dict",L,.dict #[kE P "__name__" 165 (.str "law_manyreaders_k34_starving_rows_shown" 742),kE P "__doc__" 166 .none,kE P "__package__" 167 .none,kE P "__loader__" 168 (.builtin "__main__.__loader__#opaque"),kE P "__spec__" 169 .none,kE P "__annotations__" 170 (.ref 6),kE P "__builtins__" 171 (.ref 4),kE P "__file__" 173 (.str "/claim/cut.py" 172),kE P "__cached__" 174 .none,kE P "is_whole" 195 (.ref 21),kE P "is_between" 204 (.ref 28),kE P "is_word" 212 (.ref 35),kE P "is_tuple_of" 220 (.ref 42),kE P "WITHIN_WORDS" 228 (.ref 43),kE P "READING_WORDS" 231 (.ref 44),kE P "WRITING_WORDS" 234 (.ref 45),kE P "WANTS" 237 (.ref 46),kE P "GREATEST_MARK" 239 (.int 999 238),kE P "GREATEST_LEFT" 241 (.int 9 240),kE P "is_room" 251 (.ref 53),kE P "is_within" 257 (.ref 58),kE P "are_waits" 263 (.ref 63),kE P "is_wait" 275 (.ref 70),kE P "empty" 282 (.ref 77),kE P "readers_in" 289 (.ref 84),kE P "guests_with" 295 (.ref 89),kE P "with_word" 306 (.ref 96),kE P "without_wait" 312 (.ref 101),kE P "waiting" 321 (.ref 108),kE P "waits_in" 329 (.ref 115),kE P "is_safe" 341 (.ref 122),kE P "FAVOURED" 355 (.ref 123),kE P "WORD_WITHIN" 362 (.ref 124),kE P "can_go" 368 (.ref 129),kE P "next_in" 377 (.ref 136),kE P "foremost" 383 (.ref 141),kE P "next_past" 395 (.ref 148),kE P "settled" 405 (.ref 155),kE P "coming" 414 (.ref 162),kE P "brought_by" 425 (.ref 169),kE P "let_in" 431 (.ref 174),kE P "GuestError" 451 (.ref 184),kE P "NoDeed" 476 (.ref 204),kE P "GUEST_WORDS" 483 (.ref 207),kE P "is_deed" 494 (.ref 214),kE P "can_do" 505 (.ref 221),kE P "done" 515 (.ref 228),kE P "bring_ask" 531 (.ref 235),kE P "bring_up" 542 (.ref 242),kE P "bring_down" 552 (.ref 249),kE P "bring_leave" 562 (.ref 256),kE P "bring_stop" 573 (.ref 263),kE P "bring_tick" 579 (.ref 268),kE P "one_less" 586 (.ref 275),kE P "turned" 592 (.ref 280),kE P "settled_behind" 602 (.ref 287),kE P "BRINGS" 617 (.ref 288),kE P "moves" 632 (.ref 295),kE P "shows_book" 640 (.ref 300),kE P "keeps_promise" 648 (.ref 307),kE P "stays_within" 654 (.ref 312),kE P "cost_of" 662 (.ref 317),kE P "walked" 679 (.ref 324),kE P "shows_ring" 694 (.ref 331),kE P "starves" 700 (.ref 336),kE P "lets_in" 706 (.ref 341),kE P "shows_longest" 714 (.ref 346),kE P "shows_within" 720 (.ref 351),kE P "is_ranking" 726 (.ref 356),kE P "bears_costs" 741 (.ref 363),kE P "_law_cell_at" 751 (.ref 370),kE P "_law_left" 761 (.ref 377),kE P "_law_far" 769 (.ref 384),kE P "_law_pick" 778 (.ref 391),kE P "_law_rule" 788 (.ref 398),kE P "_law_deed" 798 (.ref 405),kE P "_law_fronts" 804 (.ref 410),kE P "_law_lets" 814 (.ref 417),kE P "_law_put" 823 (.ref 424),kE P "_law_settled" 829 (.ref 429),kE P "_law_can" 835 (.ref 434),kE P "_law_marked" 841 (.ref 439),kE P "_law_done" 847 (.ref 444),kE P "_law_asked" 853 (.ref 449),kE P "_law_cost" 859 (.ref 454),kE P "_law_waits" 865 (.ref 459),kE P "_law_starved" 882 (.ref 466),kE P "_law_whole" 891 (.ref 473),kE P "_law_is_deed" 900 (.ref 480),kE P "_law_world" 906 (.ref 485),kE P "_law_rows" 912 (.ref 490),kE P "_law_deeds_are" 918 (.ref 495),kE P "_law_takes" 933 (.ref 502),kE P "_law_bent" 939 (.ref 507),kE P "law" 959 (.ref 514)] 95,#[]⟩),(20,kC "is_whole" 189 2 1 15 16 (.ref 17) (.ref 18) 19 193),(21,kF "is_whole" jN XR 187 20),(27,kC "is_between" 196 4 3 22 23 (.ref 24) (.ref 25) 26 202),(28,kF "is_between" gL XR 187 27),(34,kC "is_word" 205 6 2 29 30 (.ref 31) (.ref 32) 33 210),(35,kF "is_word" lN XR 187 34),(41,kC "is_tuple_of" 213 8 2 36 37 (.ref 38) (.ref 39) 40 218)]
noncomputable def kf1(P:Params):aeH:=[(42,kF "is_tuple_of" fM XR 187 41),(45,⟨.type "tuple",L,.seq #[.str "writes" 232,.str "raised" 233] 0,#[]⟩),(46,⟨.type "tuple",L,.seq #[.str "read" 235,.str "write" 236] 0,#[]⟩),(76,kC "empty" 276 38 1 71 72 (.ref 73) (.ref 74) 75 280),(77,kF "empty" qJ OO 221 76),(88,kC "guests_with" 290 42 2 85 86 .none .none 87 293),(89,kF "guests_with" fN OO 221 88),(95,kC "with_word" 296 44 3 90 91 (.ref 92) (.ref 93) 94 304)]
noncomputable def kf2(P:Params):aeH:=[(96,kF "with_word" iR OO 221 95),(100,kC "without_wait" 307 47 2 97 98 .none .none 99 310),(101,kF "without_wait" eR OO 221 100),(107,kC "waiting" 313 50 2 102 103 (.ref 104) (.ref 105) 106 319),(108,kF "waiting" lI OO 221 107),(114,kC "waits_in" 322 57 2 109 110 (.ref 111) (.ref 112) 113 327),(115,kF "waits_in" jL OO 221 114),(123,⟨.type "dict",L,.dict #[kE P "rows" 344 .none,kE P "readers" 345 (.str "read" 346),kE P "writers" 347 (.str "write" 348),kE P "turns" 349 (.str "write" 350)] 4,#[]⟩)]
noncomputable def kf3(P:Params):aeH:=[(124,⟨.type "dict",L,.dict #[kE P "read" 356 (.str "reads" 357),kE P "write" 358 (.str "writes" 359)] 2,#[]⟩),(128,kC "can_go" 363 72 3 125 126 .none .none 127 366),(129,kF "can_go" nI HZ 342 128),(135,kC "next_in" 369 81 2 130 131 (.ref 132) (.ref 133) 134 375),(136,kF "next_in" lL HZ 342 135),(140,kC "foremost" 378 86 2 137 138 .none .none 139 381),(141,kF "foremost" jO HZ 342 140),(147,kC "next_past" 384 91 2 142 143 (.ref 144) (.ref 145) 146 393)]
noncomputable def kf4(P:Params):aeH:=[(148,kF "next_past" iS HZ 342 147),(154,kC "settled" 396 98 2 149 150 (.ref 151) (.ref 152) 153 403),(155,kF "settled" lK HZ 342 154),(161,kC "coming" 406 106 2 156 157 (.ref 158) (.ref 159) 160 412),(162,kF "coming" nH HZ 342 161),(168,kC "brought_by" 415 112 3 163 164 (.ref 165) (.ref 166) 167 423),(169,kF "brought_by" gM HZ 342 168),(173,kC "let_in" 426 117 3 170 171 .none .none 172 429)]
noncomputable def kf5(P:Params):aeH:=[(174,kF "let_in" nG HZ 342 173),(183,⟨.type "dict",L,.dict #[kE P "__module__" 441 (.str "manyreaders.errors" 432),kE P "__firstlineno__" 445 (.int 125 444),kE P "__static_attributes__" 446 (.ref 182),kE P "__weakref__" 448 (.ref 185),kE P "__doc__" 449 .none] 3,#[]⟩),(184,kX "GuestError" 184 183 [.type "ValueError"] HT.pE [.ref 204] 175 434 442),(200,⟨.type "code",L,.fields #[.str "__init__" 464,.str "NoDeed.__init__" 465,.str "/claim/cut.py" 466,.int 129 0,.int 2 0,.int 0 0,.int 0 0,.int 3 0,.ref 195,.bool true,.int 181 0,.ref 196,.none,.ref 197,.ref 198,.ref 199,.int 469 0,.int 129 0,.str "/claim/cut.py" 470],#[]⟩),(201,kI "NoDeed.__init__" PK md8 432 200),(203,⟨.type "dict",L,.dict #[kE P "__module__" 459 (.str "manyreaders.errors" 432),kE P "__firstlineno__" 463 (.int 127 462),kE P "__init__" 471 (.ref 201),kE P "__static_attributes__" 473 (.ref 202),kE P "__doc__" 474 .none] 2,#[]⟩),(204,kX "NoDeed" 204 203 [.ref 184] (.ref 184::HT.pE) [] 188 452 460),(207,⟨.type "tuple",L,.seq #[.str "up" 479,.str "down" 480,.str "leave" 481,.str "stop" 482] 0,#[]⟩)]
noncomputable def kf6(P:Params):aeH:=[(213,kC "is_deed" 484 133 2 208 209 (.ref 210) (.ref 211) 212 492),(214,kF "is_deed" lO xx 477 213),(220,kC "can_do" 495 142 2 215 216 (.ref 217) (.ref 218) 219 503),(221,kF "can_do" nJ xx 477 220),(227,kC "done" 506 156 3 222 223 (.ref 224) (.ref 225) 226 513),(228,kF "done" uN xx 477 227),(234,kC "bring_ask" 516 159 3 229 230 (.ref 231) (.ref 232) 233 529),(235,kF "bring_ask" iT xx 477 234)]
noncomputable def kf7(P:Params):aeH:=[(241,kC "bring_up" 532 169 3 236 237 (.ref 238) (.ref 239) 240 540),(242,kF "bring_up" jP xx 477 241),(248,kC "bring_down" 543 177 3 243 244 (.ref 245) (.ref 246) 247 550),(249,kF "bring_down" gP xx 477 248),(255,kC "bring_leave" 553 180 3 250 251 (.ref 252) (.ref 253) 254 560),(256,kF "bring_leave" fO xx 477 255),(262,kC "bring_stop" 563 183 3 257 258 (.ref 259) (.ref 260) 261 571),(263,kF "bring_stop" gO xx 477 262)]
noncomputable def kf8(P:Params):aeH:=[(267,kC "bring_tick" 574 190 3 264 265 .none .none 266 577),(268,kF "bring_tick" gN xx 477 267),(274,kC "one_less" 580 196 1 269 270 (.ref 271) (.ref 272) 273 584),(275,kF "one_less" jM xx 477 274),(279,kC "turned" 587 198 3 276 277 .none .none 278 590),(280,kF "turned" nD xx 477 279),(286,kC "settled_behind" 593 203 3 281 282 (.ref 283) (.ref 284) 285 600),(287,kF "settled_behind" dT xx 477 286)]
noncomputable def kf9(P:Params):aeH:=[(288,⟨.type "dict",L,.dict #[kE P "read" 603 (.ref 235),kE P "write" 604 (.ref 235),kE P "up" 605 (.ref 242),kE P "down" 606 (.ref 249),kE P "leave" 607 (.ref 256),kE P "stop" 608 (.ref 263),kE P "tick" 609 (.ref 268)] 7,#[]⟩),(323,kC "walked" 665 232 3 318 319 (.ref 320) (.ref 321) 322 677),(324,kF "walked" kG md6 663 323),(330,kC "shows_ring" 682 243 3 325 326 (.ref 327) (.ref 328) 329 692),(331,kF "shows_ring" gJ md7 680 330),(335,kC "starves" 695 250 5 332 333 .none .none 334 698),(336,kF "starves" lJ md7 680 335),(340,kC "lets_in" 701 260 1 337 338 .none .none 339 704)]
noncomputable def kf10(P:Params):aeH:=[(341,kF "lets_in" lM md7 680 340),(345,kC "shows_longest" 709 263 5 342 343 .none .none 344 712),(346,kF "shows_longest" eE md2 707 345),(350,kC "shows_within" 715 269 5 347 348 .none .none 349 718),(351,kF "shows_within" eS md2 707 350),(355,kC "is_ranking" 721 277 1 352 353 .none .none 354 724),(356,kF "is_ranking" gK md2 707 355),(369,kC "_law_cell_at" 744 286 2 364 365 (.ref 366) (.ref 367) 368 749)]
noncomputable def kf11(P:Params):aeH:=[(370,kF "_law_cell_at" eX lA 742 369),(376,kC "_law_left" 752 290 2 371 372 (.ref 373) (.ref 374) 375 759),(377,kF "_law_left" iY lA 742 376),(383,kC "_law_far" 762 297 0 378 379 (.ref 380) (.ref 381) 382 767),(384,kF "_law_far" jR lA 742 383),(390,kC "_law_pick" 770 302 2 385 386 (.ref 387) (.ref 388) 389 776),(391,kF "_law_pick" iW lA 742 390),(397,kC "_law_rule" 779 310 1 392 393 (.ref 394) (.ref 395) 396 786)]
noncomputable def kf12(P:Params):aeH:=[(398,kF "_law_rule" iU lA 742 397),(404,kC "_law_deed" 789 315 2 399 400 (.ref 401) (.ref 402) 403 796),(405,kF "_law_deed" ja lA 742 404),(409,kC "_law_fronts" 799 323 2 406 407 .none .none 408 802),(410,kF "_law_fronts" fQ lA 742 409),(416,kC "_law_lets" 805 334 3 411 412 (.ref 413) (.ref 414) 415 812),(417,kF "_law_lets" iX lA 742 416),(423,kC "_law_put" 815 341 3 418 419 (.ref 420) (.ref 421) 422 821)]
noncomputable def kf13(P:Params):aeH:=[(424,kF "_law_put" jQ lA 742 423),(428,kC "_law_settled" 824 343 2 425 426 .none .none 427 827),(429,kF "_law_settled" eV lA 742 428),(433,kC "_law_can" 830 359 2 430 431 .none .none 432 833),(434,kF "_law_can" jS lA 742 433),(438,kC "_law_marked" 836 368 3 435 436 .none .none 437 839),(439,kF "_law_marked" fP lA 742 438),(443,kC "_law_done" 842 372 3 440 441 .none .none 442 845)]
noncomputable def kf14(P:Params):aeH:=[(444,kF "_law_done" iZ lA 742 443),(448,kC "_law_asked" 848 395 3 445 446 .none .none 447 851),(449,kF "_law_asked" gW lA 742 448),(453,kC "_law_cost" 854 404 2 450 451 .none .none 452 857),(454,kF "_law_cost" jc lA 742 453),(458,kC "_law_waits" 860 408 2 455 456 .none .none 457 863),(459,kF "_law_waits" gS lA 742 458),(465,kC "_law_starved" 866 410 6 460 461 (.ref 462) (.ref 463) 464 880)]
noncomputable def kf15(P:Params):aeH:=[(466,kF "_law_starved" eU lA 742 465),(472,kC "_law_whole" 883 426 3 467 468 (.ref 469) (.ref 470) 471 889),(473,kF "_law_whole" gR lA 742 472),(479,kC "_law_is_deed" 892 428 2 474 475 (.ref 476) (.ref 477) 478 898),(480,kF "_law_is_deed" eW lA 742 479),(484,kC "_law_world" 901 437 1 481 482 .none .none 483 904),(485,kF "_law_world" gQ lA 742 484),(489,kC "_law_rows" 907 448 3 486 487 .none .none 488 910)]
noncomputable def kf16(P:Params):aeH:=[(490,kF "_law_rows" iV lA 742 489),(494,kC "_law_deeds_are" 913 456 3 491 492 .none .none 493 916),(495,kF "_law_deeds_are" dU lA 742 494),(501,kC "_law_takes" 919 460 5 496 497 (.ref 498) (.ref 499) 500 931),(502,kF "_law_takes" gU lA 742 501),(506,kC "_law_bent" 934 469 3 503 504 .none .none 505 937),(507,kF "_law_bent" jd lA 742 506),(513,kC "law" 940 483 1 508 509 (.ref 510) (.ref 511) 512 957)]
noncomputable def kf17(P:Params):aeH:=[(514,kF "law" Bk lA 742 513)]
noncomputable def gl(P:Params):aeH:=((((kf0 P)++(kf1 P))++((kf2 P)++(kf3 P)))++(((kf4 P)++(kf5 P))++((kf6 P)++((kf7 P)++(kf8 P)))))++((((kf9 P)++(kf10 P))++((kf11 P)++(kf12 P)))++(((kf13 P)++(kf14 P))++((kf15 P)++((kf16 P)++(kf17 P)))))
noncomputable def kads:List td:=[3,20,21,27,28,34,35,41,42,45,46,76,77,88,89,95,96,100,101,107,108,114,115,123,124,128,129,135,136,140,141,147,148,154,155,161,162,168,169,173,174,183,184,200,201,203,204,207,213,214,220,221,227,228,234,235,241,242,248,249,255,256,262,263,267,268,274,275,279,280,286,287,288,323,324,330,331,335,336,340,341,345,346,350,351,355,356,369,370,376,377,383,384,390,391,397,398,404,405,409,410,416,417,423,424,428,429,433,434,438,439,443,444,448,449,453,454,458,459,465,466,472,473,479,480,484,485,489,490,494,495,501,502,506,507,513,514]
theorem txt{w:Pn}(X:(gl w.params).In h)(G:h.Ns Zn mg):Txt w (gl w.params) mg:=
 ⟨cV X G lA 370 742 369 (by kernel_rfl),cV X G lA 384 742 383 (by kernel_rfl),cV X G lA 377 742 376 (by kernel_rfl),cV X G lA 391 742 390 (by kernel_rfl),cV X G lA 398 742 397 (by kernel_rfl),cV X G lA 485 742 484 (by kernel_rfl),cV X G lA 490 742 489 (by kernel_rfl),cV X G lA 459 742 458 (by kernel_rfl),cV X G lA 424 742 423 (by kernel_rfl),cV X G lA 410 742 409 (by kernel_rfl),cV X G lA 417 742 416 (by kernel_rfl),cV X G lA 429 742 428 (by kernel_rfl),cV X G lA 434 742 433 (by kernel_rfl),cV X G lA 449 742 448 (by kernel_rfl),cV X G lA 439 742 438 (by kernel_rfl),cV X G lA 444 742 443 (by kernel_rfl),cV X G lA 454 742 453 (by kernel_rfl),cV X G lA 466 742 465 (by kernel_rfl),cV X G lA 473 742 472 (by kernel_rfl),cV X G lA 480 742 479 (by kernel_rfl),cV X G lA 495 742 494 (by kernel_rfl),cV X G lA 502 742 501 (by kernel_rfl),cV X G XR 35 187 34 (by kernel_rfl),cV X G XR 42 187 41 (by kernel_rfl),cV X G XR 21 187 20 (by kernel_rfl),cV X G md2 356 707 355 (by kernel_rfl),cV X G OO 89 221 88 (by kernel_rfl),cV X G OO 108 221 107 (by kernel_rfl),cV X G OO 115 221 114 (by kernel_rfl),cV X G md2 351 707 350 (by kernel_rfl),cV X G OO 77 221 76 (by kernel_rfl),cV X G HZ 141 342 140 (by kernel_rfl),cV X G HZ 129 342 128 (by kernel_rfl),cV X G HZ 148 342 147 (by kernel_rfl),cV X G HZ 136 342 135 (by kernel_rfl),cV X G HZ 162 342 161 (by kernel_rfl),cV X G OO 96 221 95 (by kernel_rfl),cV X G HZ 174 342 173 (by kernel_rfl),cV X G HZ 169 342 168 (by kernel_rfl),cV X G HZ 155 342 154 (by kernel_rfl),cV X G OO 101 221 100 (by kernel_rfl),cV X G xx 235 477 234 (by kernel_rfl),cV X G xx 242 477 241 (by kernel_rfl),cV X G xx 287 477 286 (by kernel_rfl),cV X G xx 280 477 279 (by kernel_rfl),cV X G xx 249 477 248 (by kernel_rfl),cV X G xx 256 477 255 (by kernel_rfl),cV X G xx 263 477 262 (by kernel_rfl),cV X G xx 275 477 274 (by kernel_rfl),cV X G xx 268 477 267 (by kernel_rfl),cV X G xx 228 477 227 (by kernel_rfl),cV X G XR 28 187 27 (by kernel_rfl),cV X G xx 214 477 213 (by kernel_rfl),cV X G xx 221 477 220 (by kernel_rfl),cV X G md6 324 663 323 (by kernel_rfl),cV X G md7 341 680 340 (by kernel_rfl),cV X G md7 336 680 335 (by kernel_rfl),cV X G md7 331 680 330 (by kernel_rfl),cV X G md2 346 707 345 (by kernel_rfl),cV X G lA 405 742 404 (by kernel_rfl),cV X G lA 507 742 506 (by kernel_rfl),cV X G lA 514 742 513 (by kernel_rfl),abg X G (by kernel_rfl),abg X G (by kernel_rfl),abg X G (by kernel_rfl),abg X G (by kernel_rfl),abg X G (by kernel_rfl),abg X G (by kernel_rfl),abg X G (by kernel_rfl),abg X G (by kernel_rfl),abg X G (by kernel_rfl),abg X G (by kernel_rfl),abg X G (by kernel_rfl),abg X G (by kernel_rfl),abg X G (by kernel_rfl),abg X G (by kernel_rfl),qaT (ace X G (show W.nsIn (gl w.params) Zn "BRINGS" = Y (Y (.ref 288)) by kernel_rfl)) (show(gl w.params).lookup 288=Y ⟨.type "dict",L,.dict #[⟨PyData.keyHash w.params "read",.str "read" 603,.ref 235⟩,⟨PyData.keyHash w.params "write",.str "write" 604,.ref 235⟩,⟨PyData.keyHash w.params "up",.str "up" 605,.ref 242⟩,⟨PyData.keyHash w.params "down",.str "down" 606,.ref 249⟩,⟨PyData.keyHash w.params "leave",.str "leave" 607,.ref 256⟩,⟨PyData.keyHash w.params "stop",.str "stop" 608,.ref 263⟩,⟨PyData.keyHash w.params "tick",.str "tick" 609,.ref 268⟩] 7,#[]⟩ by kernel_rfl) (.cons (.cons (.cons (.cons (.cons (.cons (.cons (.nil)))))))) (show List.Nodup ([.inr "read",.inr "write",.inr "up",.inr "down",.inr "leave",.inr "stop",.inr "tick"]:List cj) by decide +kernel) (.cons (ace X G (show W.nsIn (gl w.params) Zn "bring_ask" = Y (Y (.ref 235)) by kernel_rfl)) (.cons (ace X G (show W.nsIn (gl w.params) Zn "bring_ask" = Y (Y (.ref 235)) by kernel_rfl)) (.cons (ace X G (show W.nsIn (gl w.params) Zn "bring_up" = Y (Y (.ref 242)) by kernel_rfl)) (.cons (ace X G (show W.nsIn (gl w.params) Zn "bring_down" = Y (Y (.ref 249)) by kernel_rfl)) (.cons (ace X G (show W.nsIn (gl w.params) Zn "bring_leave" = Y (Y (.ref 256)) by kernel_rfl)) (.cons (ace X G (show W.nsIn (gl w.params) Zn "bring_stop" = Y (Y (.ref 263)) by kernel_rfl)) (.cons (ace X G (show W.nsIn (gl w.params) Zn "bring_tick" = Y (Y (.ref 268)) by kernel_rfl)) (.nil)))))))),Pe (ace X G (show W.nsIn (gl w.params) Zn "FAVOURED" = Y (Y (.ref 123)) by kernel_rfl)) (show(gl w.params).lookup 123=Y ⟨.type "dict",L,.dict #[⟨PyData.keyHash w.params "rows",.str "rows" 344,.none⟩,⟨PyData.keyHash w.params "readers",.str "readers" 345,.str "read" 346⟩,⟨PyData.keyHash w.params "writers",.str "writers" 347,.str "write" 348⟩,⟨PyData.keyHash w.params "turns",.str "turns" 349,.str "write" 350⟩] 4,#[]⟩ by kernel_rfl) (.cons (.cons (.cons (.cons (.nil))))) (show List.Nodup ([.inr "rows",.inr "readers",.inr "writers",.inr "turns"]:List cj) by decide +kernel) (.cons .non rfl (λz z z=>.non) (.cons (V.str "read") ⟨_,rfl⟩ (λz z z=>.str _) (.cons (V.str "write") ⟨_,rfl⟩ (λz z z=>.str _) (.cons (V.str "write") ⟨_,rfl⟩ (λz z z=>.str _) (.nil))))),⟨_,V.int 9,ace X G (show W.nsIn (gl w.params) Zn "GREATEST_LEFT" = Y (Y (.int 9 240)) by kernel_rfl),⟨_,rfl⟩,λμ H=>.int _⟩,⟨_,.ref 207,ace X G (show W.nsIn (gl w.params) Zn "GUEST_WORDS" = Y (Y (.ref 207)) by kernel_rfl),rfl,λμ H=>.ktup (vs:=[V.str "up",V.str "down",V.str "leave",V.str "stop"]) ⟨_,_,_,(show(gl w.params).lookup 207=Y ⟨.type "tuple",L,.seq #[.str "up" 479,.str "down" 480,.str "leave" 481,.str "stop" 482] 0,#[]⟩ by kernel_rfl),rfl,rfl,rfl,(show 4<=UJ by decide),.cons ⟨_,rfl⟩ (.cons ⟨_,rfl⟩ (.cons ⟨_,rfl⟩ (.cons ⟨_,rfl⟩ (.nil))))⟩ (.cons (.str _) (.cons (.str _) (.cons (.str _) (.cons (.str _) (.nil)))))⟩,⟨_,.ref 46,ace X G (show W.nsIn (gl w.params) Zn "WANTS" = Y (Y (.ref 46)) by kernel_rfl),rfl,λμ H=>.ktup (vs:=[V.str "read",V.str "write"]) ⟨_,_,_,(show(gl w.params).lookup 46=Y ⟨.type "tuple",L,.seq #[.str "read" 235,.str "write" 236] 0,#[]⟩ by kernel_rfl),rfl,rfl,rfl,(show 2<=UJ by decide),.cons ⟨_,rfl⟩ (.cons ⟨_,rfl⟩ (.nil))⟩ (.cons (.str _) (.cons (.str _) (.nil)))⟩,Pe (ace X G (show W.nsIn (gl w.params) Zn "WORD_WITHIN" = Y (Y (.ref 124)) by kernel_rfl)) (show(gl w.params).lookup 124=Y ⟨.type "dict",L,.dict #[⟨PyData.keyHash w.params "read",.str "read" 356,.str "reads" 357⟩,⟨PyData.keyHash w.params "write",.str "write" 358,.str "writes" 359⟩] 2,#[]⟩ by kernel_rfl) (.cons (.cons (.nil))) (show List.Nodup ([.inr "read",.inr "write"]:List cj) by decide +kernel) (.cons (V.str "reads") ⟨_,rfl⟩ (λz z z=>.str _) (.cons (V.str "writes") ⟨_,rfl⟩ (λz z z=>.str _) (.nil))),⟨_,.ref 45,ace X G (show W.nsIn (gl w.params) Zn "WRITING_WORDS" = Y (Y (.ref 45)) by kernel_rfl),rfl,λμ H=>.ktup (vs:=[V.str "writes",V.str "raised"]) ⟨_,_,_,(show(gl w.params).lookup 45=Y ⟨.type "tuple",L,.seq #[.str "writes" 232,.str "raised" 233] 0,#[]⟩ by kernel_rfl),rfl,rfl,rfl,(show 2<=UJ by decide),.cons ⟨_,rfl⟩ (.cons ⟨_,rfl⟩ (.nil))⟩ (.cons (.str _) (.cons (.str _) (.nil)))⟩,rseK X G (q:="NoDeed.__init__") (g:="GuestError") (a:="self") (b:="place") (st:=PK) md8 204 203 184 183 201 200 432 188 452 460 175 434 442 [] [.ref 204] rfl ⟨rfl,rfl,rfl,by decide +kernel,rfl,by decide +kernel,by decide +kernel⟩ (cA λz=>cA λz=>iN rfl) (by decide) (by decide) (by decide) (by decide) (by kernel_rfl) (by kernel_rfl),hndK X G (x:="NoDeed") 204 203 204 203 188 452 460 188 452 460 [.ref 184] (.ref 184::HT.pE) [.ref 184] (.ref 184::HT.pE) [] [] (by kernel_rfl)⟩
end K34
open PySem.W
set_option maxRecDepth 100000 in
set_option maxHeartbeats 0 in
theorem PySem.Challenge.cw_manyreaders_k34_starving_rows_shown_holds : PySem.Challenge.rw_manyreaders_k34_starving_rows_shown.Holds := by
 rw[K34.lw_eq];w_on;o_law;o_head (kHook K34.gl K34.kads (λz=>by kernel_rfl));(case hw=>w_witness2);exact K34.walk (l:=K34.lw) rfl rfl rfl (λw h Y0=>PySem.W.kIn_of Y0) K34.Ra λw mg h KX G=>K34.txt KX G

end
