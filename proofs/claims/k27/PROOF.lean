import PyProof.Rows.All
import Wide.All
import OpenK.AllK
import Wide.FinOn
import Lean
import PyProof.EqAt
import PyProof.EqKinds
import PyProof.TupleCall
import PyProof.DictCompW
import PyProof.EnumFor
import PyProof.EnumStmt
import PyProof.EnumMake
import PyProof.Rows.EnumRows
import PyProof.Rows.SetFrom
import PyProof.Rows.LoopUnroll
import PyProof.Draws
import PyProof.RulesTry
import PyProof.ExcClass3
import PyProof.ExcInit
import PyProof.InstStoreFacts
import PyProof.ExcArgs
import PyProof.ExcBaseAll.ValueError
import PyProof.NsDelKeeps
import PyProof.RulesAs
import KE.KTryMore
import PyProof.Rows.FStr
import PyProof.Rows.StrNews2
import PyProof.Rows.StrNews
import PySem.Challenge.RW_alwaysmeet_k27_falls_settled
set_option linter.all false
set_option maxHeartbeats 4000000
set_option maxRecDepth 1000000
open PySem renaming mainGlobals→eAA
open PySem.W renaming findIn→eAB
open PySem.W renaming kitOne→eAC
open PySem renaming Program→eAD
open PySem.Value renaming none→eAE
open PySem.Value renaming ref→eAF
open PySem.Value renaming type→eAG
open Option.some renaming inj→eAH
open PySem renaming sysModules→eAI
open List renaming range→eAJ
open PySem renaming Around→eAK
open Ne renaming symm→eAL
open PySem.Heap renaming SameBut→eAM
open PySem renaming backTo→eAN
open PySem renaming starEach→eAO
open PySem renaming compareOp→eAP
open False renaming elim→eAQ
open PySem renaming assignEach→eAR
open PySem renaming binaryOp→eAS
open PySem.W renaming plainGet→eAT
open PySem.W renaming hasDictIn→eAU
open List renaming lookup→eAV
open True renaming intro→eAW
open PySem renaming attributeBase→eAX
open PySem renaming FuncData→eAY
open List renaming replicate→eAZ
open PyProof.Rows renaming IntsAre→eAa
open PySem.Str renaming ofString→eAb
open PySem.Obj renaming mapSeq→eAc
open PySem.NameKind renaming free→eAd
open PySem.W renaming kitAny→eAe
open PySem.PyData renaming int→eAf
open PySem.PyData renaming bool→eAg
open PySem.PyData renaming eqv→eAh
open PyProof.Rows renaming seqObj→eAi
open PyProof.Rows renaming SortSt→eAj
open PySem.PyData renaming canLayAll0→eAk
open PySem.PyData renaming depthAll→eAl
open PySem.PyData renaming depth→eAm
open PySem.PyData renaming tuple→eAn
open PyProof.Rows renaming pendingOf→eAo
open List.Perm renaming refl→eAp
open PySem.PyData renaming strOk→eAq
open PySem renaming OsState→eAr
open PySem renaming excClassObj→eAs
open PySem renaming checkBuiltinCall→eAt
open PySem.Obj renaming mapFields→eAu
open PySem.W renaming boot_heap→eAv
open Nat renaming two_pow_pos→eAw
open PySem.PassesOwn renaming never→eAx
open Classical renaming byContradiction→eAy
open PySem.PyData renaming eqvAll→eAz
open Nat renaming two_pow_add_eq_or_of_lt→eA0
open PySem.PyData renaming leavesShort→eA1
open PySem.PyData renaming bulk→eA2
open PySem.Builtin renaming bitAnd→eA3
open PySem.Builtin renaming bitXor→eA4
open PySem renaming sizeLine→eA5
section
open PySem PySem.Spec PyProof.Rows
def yAA:=@List.length_map
def yAB:=@List.getElem?_eq_getElem
def yAC:=@wpAny_bind
def yAD:=@Heap.get?_push_of_some
def yAE:=@List.mem_singleton
def yAF:=@Nat.le_refl
def yAG:=@decide_eq_false
def yAH:=@List.getElem?_eq_some_iff
def yAI:=@decide_eq_true_eq
def yAJ:=@decide_eq_true
def yAK:=@PySem.W.mg_of
def yAL:=@List.mem_cons_of_mem
def yAM:=@List.size_toArray
def yAN:=@Bool.and_eq_true
def yAO:=@wpAny_pure
def yAP:=@Heap.lt_size
def yAQ:=@List.map_append
def yAR:=@Int.eq_ofNat_of_zero_le
def yAS:=@if_pos
def yAT:=@if_neg
def yAU:=@List.mem_cons_self
def yAV:=@List.length_append
def yAW:=@Int.toNat_natCast
def yAX:=@wpS_bind
def yAY:=@List.mem_append_right
def yAZ:=@of_decide_eq_true
def yAa:=@List.getElem?_map
def yAb:=@List.mem_append
def yAc:=@Heap.get?_push_size
def yAd:=@Bool.eq_iff_iff
def yAe:=@List.length_take
def yAf:=@List.mem_cons
def yAg:=@Bool.false_ne_true
def yAh:=@wpS_pure
def yAi:=@List.getElem_mem
def yAj:=@Nat.lt_of_lt_of_le
def yAk:=@List.mem_of_getElem?
def yAl:=@wpAny_loadPart_at
def yAm:=@beq_iff_eq
def yAn:=@PyProof.Rows.boot_isinstance
def yAo:=@Nat.ne_of_lt
def yAp:=@Nat.le_trans
def yAq:=@List.map_cons
def yAr:=@List.mem_map
def yAs:=@List.take_of_length_le
def yAt:=@List.getElem?_append_right
def yAu:=@Nat.pow_le_pow_right
def yAv:=@List.getElem?_append_left
def yAw:=@List.any_eq_true
def yAx:=@PyProof.Rows.boot_tuple
def yAy:=@Array.toList_push
def yAz:=@List.drop_eq_getElem_cons
def yBA:=@List.all_eq_true
def yBB:=@PySem.W.mg_none_of
def yBC:=@List.mem_range
def yBD:=@Array.getElem?_eq_some_iff
def yBE:=@Bool.not_eq_true'
def yBF:=@List.mem_filter
def yBG:=@List.take_add_one
def yBH:=@Array.getElem?_toList
def yBI:=@List.contains_cons
def yBJ:=@Array.length_toList
def yBK:=@List.length_cons
def yBL:=@Heap.get?_update_other
def yBM:=@wpAny_loadPart'
def yBN:=@Nat.zero_le
def yBO:=@of_decide_eq_false
def yBP:=@Bool.false_eq_true
def yBQ:=@PyProof.Rows.boot_list
def yBR:=@Nat.eq_of_testBit_eq
def yBS:=@List.getD_eq_getElem?_getD
def yBT:=@List.append_assoc
def yBU:=@PySem.F.plainAttrs_list
def yBV:=@List.extract_eq_take_drop
def yBW:=@wpAny_mono
def yBX:=@PySem.F.type_list_append
def yBY:=@PySem.F.slot_list_append
def yBZ:=@List.length_singleton
def yBa:=@wpAny_holding
def yBb:=@wpAny_truthy_bool
def yBc:=@List.length_range
def yBd:=@wpS_forRange
def yBe:=@Nat.testBit_eq_decide_div_mod_eq
def yBf:=@Nat.ne_of_gt
def yBg:=@List.getElem_of_mem
def yBh:=@List.append_nil
def yBi:=@Int.natCast_pow
def yBj:=@Heap.get?_update_ne
def yBk:=@Nat.lt_irrefl
def yBl:=@List.pairwise_map
def yBm:=@Array.toList_extract
def yBn:=@Nat.lt_or_ge
def yBo:=@Nat.testBit_shiftRight
def yBp:=@List.not_mem_nil
def yBq:=@PySem.mem_of_lookup
def yBr:=@Nat.testBit_two_pow
def yBs:=@wpAny_newObj_type
def yBt:=@Option.isSome_iff_exists
def yBu:=@Bool.false_and
def yBv:=@PySem.W.kia_one
def yBw:=@Int.natCast_nonneg
def yBx:=@Bool.true_and
def yBy:=@List.mem_append_left
def yBz:=@Nat.testBit_and
def yCA:=@List.map_map
def yCB:=@wpAny_Call_Name_kw
def yCC:=@Int.emod_lt_of_pos
def yCD:=@List.lookup_cons
def yCE:=@Array.toList_inj
def yCF:=@wpAny_standAt
def yCG:=@List.nodup_append
def yCH:=@wpAny_isSubtype_exc
def yCI:=@List.drop_of_length_le
def yCJ:=@Nat.zero_testBit
def yCK:=@List.length_drop
def yCL:=@wpS_mono
def yCM:=@Nat.eq_zero_or_pos
def yCN:=@List.length_filter_le
def yCO:=@List.getElem?_eq_none
def yCP:=@List.getElem?_drop
def yCQ:=@Heap.get?_update_self
def yCR:=@if_false
def yCS:=@codeAny_builtin
def yCT:=@PyProof.Rows.slot_tuple_getitem
def yCU:=@Nat.lt_succ_of_lt
def yCV:=@List.find?_cons
def yCW:=@Int.emod_nonneg
def yCX:=@codeAny_mono
def yCY:=@wpAny_field
def yCZ:=@List.replicate_succ
def yCa:=@List.pairwise_singleton
def yCb:=@List.filter_sublist
def yCc:=@List.filter_cons_of_pos
def yCd:=@List.filter_cons_of_neg
def yCe:=@Int.one_mul
def yCf:=@List.getElem_inj
def yCg:=@Heap.size_push
def yCh:=@Option.map_eq_some_iff
def yCi:=@List.filter_append
def yCj:=@List.dropLast_concat_getLast
def yCk:=@wpAny_passesOwn
def yCl:=@PyProof.Rows.callWith_type1
def yCm:=@Option.map_some
def yCn:=@Nat.sub_self
def yCo:=@List.take_append_drop
def yCp:=@List.length_nil
def yCq:=@Bool.or_eq_true
def yCr:=@wpAny_pyIter_list
def yCs:=@F.slot_tuple_iterator_next
def yCt:=@codeAny_call_builtin
def yCu:=@List.getElem?_of_mem
def yCv:=@PySem.boot_len
def yCw:=@PyProof.Rows.F.plain_set_update_loop
def yCx:=@Nat.ge_two_pow_of_testBit
def yCy:=@List.mem_of_find?_eq_some
def yCz:=@List.take_length
def yDA:=@List.drop_length
def yDB:=@beq_eq_false_iff_ne
def yDC:=@Array.toList_append
def yDD:=@wpAny_rule
def yDE:=@wpAny_callSpecial?_slot
def yDF:=@PySem.W.callWith_K
def yDG:=@Obj.data_mapFields
def yDH:=@List.pairwise_cons
def yDI:=@List.length_eq_zero_iff
def yDJ:=@Code.quiet_builtin
def yDK:=@List.getElem?_set_self
def yDL:=@List.find?_cons_of_pos
def yDM:=@List.find?_cons_of_neg
def yDN:=@Int.ediv_eq_zero_of_lt
def yDO:=@List.flatten_cons
def yDP:=@Bool.xor_false
def yDQ:=@PySem.W.methodCall_KW
def yDR:=@PyProof.Rows.callWith_builtin1
def yDS:=@PyProof.Rows.boot_str
def yDT:=@PyProof.Rows.boot_all
def yDU:=@Nat.le_of_lt
def yDV:=@Nat.sub_sub_self
def yDW:=@Nat.lt_succ_self
def yDX:=@List.mem_of_mem_take
def yDY:=@Array.toList_reverse
def yDZ:=@Around.under_plainId
def yDa:=@or_false
def yDb:=@List.any_cons
def yDc:=@wpAny_call
def yDd:=@wpAny_execs_nil
def yDe:=@Nat.le_succ
def yDf:=@List.range_succ
def yDg:=@List.nodup_cons
def yDh:=@List.filterMap_cons
def yDi:=@Array.perm_iff_toList_perm
def yDj:=@wpAny_pyIter_tuple
def yDk:=@tupleKind_room_in1
def yDl:=@SeqAt.EqAt.int_int
def yDm:=@Nat.zero_add
def yDn:=@Nat.pow_succ
def yDo:=@Nat.lt_of_le_of_lt
def yDp:=@Bool.or_true
def yDq:=@wpAny_setField
def yDr:=@repr_of_reads'
def yDs:=@if_true
def yDt:=@List.pairwise_iff_getElem
def yDu:=@List.isEmpty_eq_false_iff
def yDv:=@wpS_modify
def yDw:=@wpAny_pyIter_enum
def yDx:=@wpAny_comprehension_free
def yDy:=@PySem.W.kitx_list
def yDz:=@PySem.W.kitx_dict
def yEA:=@List.take_sublist
def yEB:=@List.getElem_take
def yEC:=@List.ext_getElem?
def yED:=@List.any_eq_false
def yEE:=@wpS_get
def yEF:=@listUpdate_at
def yEG:=@List.sum_cons
def yEH:=@List.getElem?_replicate
def yEI:=@Bool.or_false
def yEJ:=@wpAny_call_entry
def yEK:=@PyData.shown_str
def yEL:=@Nat.le_add_right
def yEM:=@Bool.not_eq_true
def yEN:=@Nat.div_div_eq_div_mul
def yEO:=@List.filter_eq_nil_iff
def yEP:=@wpAny_typeOf
def yEQ:=@get?_update_seq
def yER:=@Obj.isFreed_of_fields
def yES:=@Nat.min_le_left
def yET:=@Nat.div_add_mod
def yEU:=@Nat.add_zero
def yEV:=@List.perm_append_comm
def yEW:=@List.map_nil
def yEX:=@List.foldl_cons
def yEY:=@Int.zero_add
end
set_option hygiene false in
local macro_rules | `(dk) => `((by decide +kernel)) | `(dQ) => `((by decide)) | `(oz) => `((by lia)) | `(kM) => `(wpAny (model X.prog X.w) X.A) | `(kW) => `((Value→Shared→Prop)) | `(kA) => `(List (Addr × Obj)) | `(bq1) => `(λ_ _ _ _ _ _ us hl=>by obtain ⟨_,rfl⟩:=bk1 hl; rfl) | `(bq2) => `(λ_ _ _ _ _ _ us hl=>by obtain ⟨_,_,rfl⟩:=bk2 hl; rfl) | `(bq3) => `(λ_ _ _ _ _ _ us hl=>by obtain ⟨_,_,_,rfl⟩:=bk3 hl; rfl) | `(bq4) => `(λ_ _ _ _ _ _ us hl=>by obtain ⟨_,_,_,_,rfl⟩:=bk4 hl; rfl) | `(bq5) => `(λ_ _ _ _ _ _ us hl=>by obtain ⟨_,_,_,_,_,rfl⟩:=bk5 hl; rfl)
set_option hygiene false in
local macro_rules | `(fk $F $S) => `($F $S (λvs H Q E h=>by first | (cases h; subst_vars; rfl) | ((repeat (obtain ⟨_,h⟩:=h)); subst_vars; rfl)) (λcdv A outer s H vs Q E hr h => ?_)) | `(kq $d $h $a) => `(zEK ($d).ok $h rfl ($d).m ($d).k ($d).b .nil zAT $a) | `(oq $f $xs*) => `($f (P:=l.prog) (w:=w) (mg:=mg) (base:=base) $xs*) | `(Df $xs*) => `(Def P w K mg base $xs*) | `(Fk $xs*) => `(FnOk P w K mg base CX0 $xs*) | `(kM $xs*) => `(wpAny (model X.prog X.w) X.A $xs*) | `(kS9 $n $s $e) => `(zE7 (i := $n) ($s).nd rfl (Or.inl rfl) $e) | `(kG9 $n $s) => `(zAG (i := $n) ($s).nd rfl (Or.inl rfl)) | `(kL9 $e) => `(zAD zCP rfl T.len PySem.boot_len (zBP $e zB5)) | `(kI $x $f) => `(PySem.W.nsIn K mainGlobals $x=some (some (.ref $f))) | `(kN $x) => `(PySem.W.nsIn K mainGlobals $x=some none) | `(kF $c $x $f) => `(PySem.W.findIn K (.ref $c) $x=some (some (.ref $f))) | `(kU $a $b $c) => `(PySem.W.subIn K (.type $a) (.type $b)=some $c) | `(kJ $f) => `(PySem.W.isFn K (.ref $f)=true) | `(kZ $s) => `(($s).heap.objs.size)
set_option hygiene false in
local macro_rules | `(#v[]) => `(zB5) | `(#v[$x]) => `(zBP $x zB5) | `(#v[$x,$xs,*]) => `(zBP $x #v[$xs,*])
local macro_rules | `(#[$as,*]) => if as.getElems.size < 2 then Lean.Macro.throwUnsupported else `(⟨$as,*⟩)
local macro_rules | `(def $i:declId $s:optDeclSig $v:declVal) => if i.raw[0].getId.toString.front == 'z' then let q : Lean.TSyntax ``Lean.Parser.Command.declSig := ⟨Lean.mkNode ``Lean.Parser.Command.declSig (([s.raw[0], s.raw[1][0]] : List Lean.Syntax).toArray)⟩; `(theorem $i $q:declSig $v:declVal) else `(noncomputable def $i $s:optDeclSig $v:declVal)
local macro_rules | `(abbrev $i:declId $s:optDeclSig $v:declVal) => `(noncomputable abbrev $i $s:optDeclSig $v:declVal)
set_option hygiene false in
local macro_rules | `(def $i:declId $s:optDeclSig := $v) => do
  let n := i.raw[0].getId.toString
  if n.length != 3 || !n.back.isDigit then Lean.Macro.throwUnsupported
  let qJ ← `(Lean.Parser.Command.optDeclSig| (vs:List V) (H:Hp) (Q:VK) (E:XK) : Prop)
  let qK ← `(Lean.Parser.Command.optDeclSig| (x:V) (y:V) (H:Hp) (Q:VK) : Prop)
  let qN ← `(Lean.Parser.Command.optDeclSig| (xs:List V) (H:Hp) (Q:VK) : Prop)
  let qM ← `(Lean.Parser.Command.optDeclSig| (x:V) (vs:List V) (H:Hp) (Q:VK) : Prop)
  let qO ← `(Lean.Parser.Command.optDeclSig| (σ : St) (H:Hp) (Q:VK) : Prop)
  let q ← match n.front with
    | 'J' => pure qJ
    | 'K' => pure qK
    | 'N' => pure qN
    | 'M' => pure qM
    | 'O' => pure qO
    | _ => Lean.Macro.throwUnsupported
  let r : Lean.TSyntax ``Lean.Parser.Command.optDeclSig := ⟨Lean.mkNode ``Lean.Parser.Command.optDeclSig (List.toArray [Lean.mkNullNode (s.raw[0].getArgs ++ q.raw[0].getArgs), q.raw[1]])⟩
  `(inductive $i:declId $r:optDeclSig | mk : $v)
open PySem.W (Frag nsIn findIn kitOne subIn keepIn exmOne exmAny instObj fnOf emptyDict)
theorem bk1 {α:Type}:∀ {us:List α},us.length=1->∃ a,us=[a]|[_],_=>#[_,rfl]
theorem bk2 {α:Type}:∀ {us:List α},us.length=2->∃ a b,us=[a,b]|[_,_],_=>#[_,_,rfl]
theorem bk3 {α:Type}:∀ {us:List α},us.length=3->∃ a b c,us=[a,b,c]|[_,_,_],_=>#[_,_,_,rfl]
theorem bk4 {α:Type}:∀ {us:List α},us.length=4->∃ a b c d,us=[a,b,c,d]|[_,_,_,_],_=>#[_,_,_,_,rfl]
theorem bk5 {α:Type}:∀ {us:List α},us.length=5->∃ a b c d e,us=[a,b,c,d,e]|[_,_,_,_,_],_=>#[_,_,_,_,_,rfl]
set_option Elab.async false
set_option linter.all false
local macro_rules | `(tactic| trivial) => `(tactic| exact ⟨rfl,rfl,rfl,by decide +kernel,rfl,by decide +kernel,by decide +kernel⟩)
namespace L2
open PySem PySem.Spec PyProof.Rows
abbrev Key:=Sum Int Str
def ZJ1:Key->Value->Bool
 | .inl k,v=>Value.isInt k v
 | .inr x,v=>Value.isStrOf x v
def ZfB (w:World):Key->Int
 | .inl k=>hashInt k
 | .inr x=>hashStr w x
def zB0:∀ {k:Key} {v:Value},ZJ1 k v=true->(∃ i t,k=Sum.inl i/\v=Value.int i t) \/ (∃ x t,k=Sum.inr x/\v=Value.str x t)
 | .inl i,v,h=>by
  obtain ⟨t,e⟩:=Value.isInt_shape (k:=i) (v:=v) h;exact .inl #[i,t,rfl,e]
 | .inr x,v,h=>by
  obtain ⟨t,e⟩:=Value.isStrOf_shape (x:=x) (v:=v) h;exact .inr #[x,t,rfl,e]
def zRQ (i:Int)(t:Tok):ZJ1 (.inl i) (.int i t)=true:=by simp [ZJ1,Value.isInt]
def zTL (x:Str)(t:Tok):ZJ1 (.inr x) (.str x t)=true:=by simp [ZJ1,Value.isStrOf]
def zaU (a b:Int):decide ((Sum.inl a:Key)=Sum.inl b)=(a==b):=by
 by_cases e:a=b
 ·subst e;simp
 ·have h:¬(Sum.inl a:Key)=Sum.inl b:=λq=>e (Sum.inl.inj q)
  rw [yAG h];exact (yDB.mpr e).symm
def zbV (a b:Str):decide ((Sum.inr a:Key)=Sum.inr b)=decide (a=b):=by
 by_cases e:a=b
 ·subst e;simp
 ·have h:¬(Sum.inr a:Key)=Sum.inr b:=λq=>e (Sum.inr.inj q)
  rw [yAG h,yAG e]
def zbA (a:Int)(b:Str):decide ((Sum.inl a:Key)=Sum.inr b)=false:=yAG (λq=>nomatch q)
def zbT (a:Str)(b:Int):decide ((Sum.inr a:Key)=Sum.inl b)=false:=yAG (λq=>nomatch q)
def ZAF (prog:eAD)(w:World):PySem.KeyKind prog w Key where
 is:=ZJ1
 hash:=ZfB w
 inj:=λv a b ha hb=>by
  rcases zB0 ha with ⟨i,t,rfl,rfl⟩|⟨x,t,rfl,rfl⟩
  ·rcases zB0 hb with ⟨j,u,rfl,e⟩|⟨y,u,rfl,e⟩
   ·injection e with e1 _;rw [e1]
   ·exact nomatch e
  ·rcases zB0 hb with ⟨j,u,rfl,e⟩|⟨y,u,rfl,e⟩
   ·exact nomatch e
   ·injection e with e1 _;rw [e1]
 byValue:=λk v h=>by
  rcases zB0 h with ⟨i,t,rfl,rfl⟩|⟨x,t,rfl,rfl⟩<;>rfl
 pyHash:=λhv h=>by
  rcases zB0 hv with ⟨i,t,rfl,rfl⟩|⟨x,t,rfl,rfl⟩
  ·exact wpAny_pyHash_int h
  ·exact wpAny_pyHash_str h
 eqBool:=λhu hv h=>by
  rcases zB0 hu with ⟨i,t,rfl,rfl⟩|⟨x,t,rfl,rfl⟩
  ·rcases zB0 hv with ⟨j,u,rfl,rfl⟩|⟨y,u,rfl,rfl⟩
   ·rw [zaU] at h;exact wpAny_eqBool_int h
   ·rw [zbA] at h;exact SeqAt.EqAt.int_str i t y u _ _ _ _ h
  ·rcases zB0 hv with ⟨j,u,rfl,rfl⟩|⟨y,u,rfl,rfl⟩
   ·rw [zbT] at h;exact SeqAt.EqAt.str_int x t j u _ _ _ _ h
   ·rw [zbV] at h;exact wpAny_eqBool_str h
 «strs»:=λk x t v h=>by
  rcases zB0 h with ⟨i,u,rfl,e⟩|⟨y,u,rfl,e⟩
  ·exact nomatch e
  ·injection e with e1 _
   subst e1
   cases v<;>rfl
def zO4 (prog:eAD)(w:World)(k:Key)(v:Value):(ZAF prog w).is k v=ZJ1 k v:=rfl
def zLB (prog:eAD)(w:World)(i:Int)(t:Tok):(ZAF prog w).is (.inl i) (.int i t)=true:=zRQ i t
def zM6 (prog:eAD)(w:World)(x:Str)(t:Tok):(ZAF prog w).is (.inr x) (.str x t)=true:=zTL x t
inductive V where
 | non|bl (b:Bool)|int (i:Int)|str (x:Str)|byt (b:Array UInt8)|flt (b:UInt64)|ref (a:Addr)|ty (n:String)
 deriving DecidableEq
def RelV:V->Value->Prop
 | .non,u=>u=eAE
 | .bl b,u=>u=Value.bool b
 | .int i,u=>∃ t,u=Value.int i t
 | .str x,u=>∃ t,u=Value.str x t
 | .byt b,u=>∃ t,u=Value.bytes b t
 | .flt b,u=>∃ t,u=Value.float b t
 | .ref a,u=>u=eAF a
 | .ty n,u=>u=eAG n
abbrev Vals:List V->List Value->Prop:=Paired RelV
theorem Vals.length {xs:List V}{us:List Value}(r:Vals xs us):xs.length=us.length:=Paired.length r
theorem Vals.get:∀ {xs:List V} {us:List Value} {i:Nat} {x:V},Vals xs us->xs[i]?=some x->∃ u,us[i]?=some u/\RelV x u
 | _,_,_,_,.nil,e=>by simp at e
 | _,_,0,_,.cons r _,e=>by simp at e;subst e;exact#[_,rfl,r]
 | _,_,i+1,x,.cons _ t,e=>by
  obtain ⟨u,h1,h2⟩:=Vals.get (i:=i) (x:=x) t (by simpa using e);exact#[u,by simpa using h1,h2]
theorem Vals.set {x:V}{u:Value}(r:RelV x u):∀ {xs:List V} {us:List Value} (i:Nat),Vals xs us->Vals (xs.set i x) (us.set i u)
 | _,_,_,.nil=>.nil
 | _,_,0,.cons _ t=>.cons r t
 | _,_,i+1,.cons q t=>.cons q (Vals.set r i t)
theorem Vals.append:∀ {xs ys:List V} {us ws:List Value},Vals xs us->Vals ys ws->Vals (xs++ys) (us++ws)
 | _,_,_,_,.nil,s=>s
 | _,_,_,_,.cons r t,s=>.cons r (Vals.append t s)
theorem Vals.take:∀ {xs:List V} {us:List Value} (n:Nat),Vals xs us->Vals (xs.take n) (us.take n)
 | _,_,0,_=>.nil
 | _,_,_+1,.nil=>.nil
 | _,_,n+1,.cons r t=>.cons r (Vals.take n t)
theorem Vals.drop:∀ {xs:List V} {us:List Value} (n:Nat),Vals xs us->Vals (xs.drop n) (us.drop n)
 | _,_,0,r=>r
 | _,_,_+1,.nil=>.nil
 | _,_,n+1,.cons _ t=>Vals.drop n t
def RelO:Option V->Option Value->Prop
 | some v,some u=>RelV v u
 | none,none=>True
 | _,_=>False
def KV {κ:Type}:List (κ×V)->List (κ×Value)->Prop:=Paired λ(p:κ×V) (q:κ×Value)=>p.1=q.1/\RelV p.2 q.2
def kV:Key->V
 | .inl i=>.int i
 | .inr x=>.str x
inductive HO where
 | lst (xs:List V)
 | tup (xs:List V)
 | dK (kvs:List (Key×V))|dT (kvs:List (List Key×V))
 | set (S:Int->Bool) (n:Nat)
 | ins (C dx:Addr) (fs:List (Str×V))
 | own (x:Addr)
 | xd (fs:List (Str×V))
 | met (f x:Addr)
 | rng (lo hi:Int)
 | frz (o:Obj) (u:HO)
 | tbl (ps:Array Value)
 | ext (φ:Heap->Prop)
abbrev Hp:=Addr->Option HO
def upd (H:Hp)(a:Addr)(o:HO):Hp:=λb=>if b=a then some o else H b
def zA0 {H:Hp}{a:Addr}{o:HO}:upd H a o a=some o:=by unfold upd;rw [yAS rfl]
def zA6 {H:Hp}{a b:Addr}{o:HO}(h:b≠a):upd H a o b=H b:=by unfold upd;rw [yAT h]
def zdJ {H:Hp}{a b:Addr}{o u:HO}(h:H a=some o)(h':H b=some u)(d:o≠u):a≠b:=by
 intro e;subst e;rw [h] at h';exact d (eAH h')
def zA3 {H:Hp}{a b:Addr}{o:HO}(h:H a=some o)(h':H b=none):a≠b:=by
 intro e;subst e;rw [h] at h';cases h'
section
variable (P:eAD)(w:World)
def UAI (H:Hp)(h:Heap)(a:Addr):HO->Prop
 | .lst xs=>xs.length<=eA5/\∃ (its:List Value) (n:Nat),Vals xs its/\h.get? a=some { cls:=.type "list",data:=.seq its.toArray n }
 | .tup xs=>xs.length<=eA5/\∃ its:List Value,Vals xs its/\IsTup h a its.toArray
 | .dK kvs=>kvs.length<=eA5/\(a==eAI)=false/\∃ vs,KV kvs vs/\h.DictOf (ZAF P w) a vs
 | .dT kvs=>kvs.length<=eA5/\(a==eAI)=false/\∃ xs:List (List Key×Addr×Value),
   Paired (λ(p:List Key×V) (q:List Key×Addr×Value)=>p.1=q.1/\H q.2.1=some (.tup (p.1.map kV))/\RelV p.2 q.2.2) kvs xs /\
   ∃ o es ep,h.get? a=some o/\o.ExactDict/\o.data=.dict es ep/\es.toList=xs.map (entryOfKey (tupleKind (ZAF P w)))/\(xs.map (·.1)).Nodup
 | .set S n=>h.SetOf (intKind P w) a S n
 | .ins C dx fs=>H dx=some (.own a)/\fs.length<=1000/\dx≠a/\h.get? a=some (instObj C dx) /\
   ∃ mA,h.Ns1 dx mA/\(∀ f,RelO (fs.lookup f) (mA f))/\PySem.Within mA (fs.map (·.1))
 | .own _=>∃ o,h.get? a=some o
 | .xd fs=>∃ mA,h.Ns1 a mA/\∀ f,RelO (fs.lookup f) (mA f)
 | .rng lo hi=>∃ t u v,h.get? a=some { cls:=.type "range",data:=.fields (List.toArray [.int lo t,.int hi u,.int 1 v]) }
 | .frz o u=>h.get? a=some o/\UAI H h a u
 | .tbl ps=>h.get? a=some { cls:=.none,data:=.fields ps }
 | .met f x=>h.get? a=some (PySem.W.methodObj (.ref f) (.ref x))
 | .ext φ=>φ h/\(∃ o,h.get? a=some o)/\∀ h1 h2:Heap,φ h1->(∀ o,h1.get? a=some o->h2.get? a=some o)->φ h2
def HOk (H:Hp)(h:Heap):Prop:=∀ a o,H a=some o->UAI P w H h a o
end
section
variable {P:eAD}{w:World}{H H':Hp}{h h':Heap}{a:Addr}{o:HO}
theorem UAI.lt (x:UAI P w H h a o):a<h.objs.size:=by
 cases o with
 | lst xs=>obtain ⟨_,_,_,_,e⟩:=x;exact yAP e
 | tup xs=>obtain ⟨_,_,_,p⟩:=x;exact p.lt
 | dK kvs=>obtain ⟨_,_,_,_,o,_,_,e,_⟩:=x;exact yAP e
 | dT kvs=>obtain ⟨_,_,_,_,o,_,_,e,_⟩:=x;exact yAP e
 | set S n=>obtain ⟨o,_,_,_,e,_⟩:=x;exact yAP e
 | ins C dx fs=>obtain ⟨_,_,_,e,_⟩:=x;exact yAP e
 | own y=>obtain ⟨_,e⟩:=x;exact yAP e
 | xd fs=>obtain ⟨_,⟨_,_,_,e,_⟩,_⟩:=x;exact yAP e
 | rng lo hi=>obtain ⟨_,_,_,e⟩:=x;exact yAP e
 | frz ob u=>obtain ⟨e,_⟩:=x;exact yAP e
 | tbl ps=>exact yAP (show h.get? a=some _ from x)
 | met f y=>exact yAP (show h.get? a=some _ from x)
 | ext φ=>obtain ⟨_,⟨_,e⟩,_⟩:=x;exact yAP e
theorem Paired.mapP {α β:Type}{F G:α->β->Prop}{l₁:List α}{l₂:List β}(h:Paired F l₁ l₂)(f:∀ a b,F a b->G a b):Paired G l₁ l₂:=by
 induction h with
 | nil=>exact .nil
 | cons r _ ih=>exact .cons (f _ _ r) ih
theorem UAI.stay (x:UAI P w H h a o)(k:∀ b u,(b=a \/ H b=some (.own a))->h.get? b=some u->h'.get? b=some u)
  (ho:∀ b,H b=some (.own a)->H' b=some (.own a)) (ht:∀ b xs,H b=some (.tup xs)->H' b=some (.tup xs)):UAI P w H' h' a o:=by
 induction o with
 | lst xs=>obtain ⟨z,its,n,r,e⟩:=x;exact#[z,its,n,r,k _ _ (.inl rfl) e]
 | tup xs=>obtain ⟨z,its,r,ob,e,c⟩:=x;exact#[z,its,r,ob,k _ _ (.inl rfl) e,c]
 | dK kvs=>obtain ⟨z,y,vs,r,ob,es,ep,e,c⟩:=x;exact#[z,y,vs,r,ob,es,ep,k _ _ (.inl rfl) e,c]
 | dT kvs=>
  obtain ⟨z,y,xs,r,ob,es,ep,e,c⟩:=x;exact#[z,y,xs,Paired.mapP r λp q z=>#[z.1,ht _ _ z.2.1,z.2.2],ob,es,ep,k _ _ (.inl rfl) e,c]
 | set S n=>obtain ⟨ob,es,ep,t,e,c⟩:=x;exact#[ob,es,ep,t,k _ _ (.inl rfl) e,c]
 | ins C dx fs=>
  obtain ⟨d,z,ne,e,mA,⟨od,es,ep,e2,c⟩,r⟩:=x;exact#[ho _ d,z,ne,k _ _ (.inl rfl) e,mA,#[od,es,ep,k _ _ (.inr d) e2,c],r]
 | own y=>obtain ⟨ob,e⟩:=x;exact#[ob,k _ _ (.inl rfl) e]
 | xd fs=>obtain ⟨mA,⟨od,es,ep,e,c⟩,r⟩:=x;exact#[mA,#[od,es,ep,k _ _ (.inl rfl) e,c],r]
 | rng lo hi=>obtain ⟨t,u,v,e⟩:=x;exact#[t,u,v,k _ _ (.inl rfl) e]
 | frz ob u ih=>obtain ⟨e,q⟩:=x;exact#[k _ _ (.inl rfl) e,ih q]
 | tbl ps=>
  have e:h.get? a=some { cls:=.none,data:=.fields ps }:=x;show h'.get? a=some { cls:=.none,data:=.fields ps };exact k a _ (.inl rfl) e
 | met f y=>
  have e:h.get? a=some (PySem.W.methodObj (.ref f) (.ref y)):=x;show h'.get? a=some (PySem.W.methodObj (.ref f) (.ref y));exact k a _ (.inl rfl) e
 | ext φ=>obtain ⟨p,⟨o,e⟩,st⟩:=x;exact#[st _ _ p λo q=>k _ _ (.inl rfl) q,#[o,k _ _ (.inl rfl) e],st]
theorem HOk.lt (x:HOk P w H h)(e:H a=some o):a<h.objs.size:=(x a o e).lt
theorem HOk.fresh (x:HOk P w H h)(e:h.objs.size<=a):H a=none:=by
 cases q:H a with
 | none=>rfl
 | some u=>exact absurd (yAj (x.lt q) e) (yBk _)
theorem HOk.kept (x:HOk P w H h)(k:∀ b u,h.get? b=some u->h'.get? b=some u):HOk P w H h':=λa o e=>
 (x a o e).stay (λb u _ q=>k b u q) (λ_ q=>q) λ_ _ q=>q
theorem HOk.laid (x:HOk P w H h)(k:∀ b u,h.get? b=some u->h'.get? b=some u)(hp:h.objs.size<=a)(new:UAI P w (upd H a o) h' a o):HOk P w (upd H a o) h':=λb u e=>by
 have hn:=x.fresh hp
 by_cases hb:b=a
 ·subst hb;rw [zA0] at e;cases e;exact new
 ·rw [zA6 hb] at e
  exact (x b u e).stay (λc v _ q=>k c v q) (λc q=>by rw [zA6 (zA3 q hn)];exact q) λc xs q=>by rw [zA6 (zA3 q hn)];exact q
end
def Rd (H:Hp)(a:Addr)(u:HO):Prop:=H a=some u \/ ∃ o,H a=some (.frz o u)
theorem Rd.ok {P:eAD}{w:World}{H:Hp}{h:Heap}{a:Addr}{u:HO}(r:Rd H a u)(x:HOk P w H h):UAI P w H h a u:=by
 rcases r with r|⟨o,r⟩
 ·exact x a u r
 ·obtain ⟨_,q⟩:=x a _ r
  exact q
def Mut:Option HO->Prop
 | some (.lst _)=>True
 | some (.dK _)=>True
 | some (.dT _)=>True
 | some (.set _ _)=>True
 | some (.ins _ _ _)=>True
 | some (.ext _)=>True
 | _=>False
section
variable {P:eAD}{w:World}{H:Hp}{h h':Heap}{x e:Addr}{o':HO}
theorem HOk.write (ok:HOk P w H h)(mu:Mut (H x))(he:e=x \/ H e=some (.own x))(k:∀ b u,b≠e->h.get? b=some u->h'.get? b=some u)(heo:∃ u,h'.get? e=some u)
  (new:UAI P w (upd H x o') h' x o'):HOk P w (upd H x o') h':=λb u q=>by
 have nown:∀ c y,H c=some (.own y)->c≠x:=λc y r z=>by subst z;rw [r] at mu;exact mu
 have ntup:∀ c xs,H c=some (.tup xs)->c≠x:=λc xs r z=>by subst z;rw [r] at mu;exact mu
 by_cases hb:b=x
 ·subst hb;rw [zA0] at q;cases q;exact new
 ·rw [zA6 hb] at q
  by_cases hbe:b=e
  ·have q':H b=some (.own x):=by
    rcases he with z|z
    ·exact absurd (hbe.trans z) hb
    ·rw [hbe];exact z
   rw [q] at q';cases q';obtain ⟨v,hv⟩:=heo;exact#[v,by rw [hbe];exact hv]
  ·refine (ok b u q).stay (λc v hc r=>k c v ?_ r) (λc r=>by rw [zA6 (nown c b r)];exact r) λc xs r=>by rw [zA6 (ntup c xs r)];exact r
   rcases hc with rfl|hc
   ·exact hbe
   ·rintro rfl
    rcases he with z|z
    ·exact nown c b hc z
    ·rw [hc] at z;cases z;exact hb rfl
end
structure Un (fs ex:List Addr)(H H':Hp)(h h':Heap):Prop where
 keep:∀ b o,h.get? b=some o->H b=none->b∉fs->b∉ex->h'.get? b=some o
 slot:∀ b o,h.get? b=some o->H b=none->b∈fs->b∉ex->∃ sl,h'.get? b=some { o with slots:=sl }
 free:∀ b o,h.get? b=some o->H b=none->b∉ex->H' b=none
 there:∀ b o,h.get? b=some o->b∉ex->∃ o',h'.get? b=some o'
 tups:∀ b xs,H b=some (.tup xs)->H' b=some (.tup xs)
 frzs:∀ b o u,H b=some (.frz o u)->H' b=some (.frz o u)
 tbls:∀ b ps,H b=some (.tbl ps)->∃ more,H' b=some (.tbl (ps++more))
section
variable {fs fs' ex ex':List Addr}{H H1 H2:Hp}{h h1 h2 h':Heap}{a x e:Addr}{o:HO}
theorem Un.any (u:Un fs ex H H1 h h1){b:Addr}{ob:Obj}(q:h.get? b=some ob)(n:H b=none)(hx:b∉ex):∃ sl,h1.get? b=some { ob with slots:=sl }:=by
 by_cases hb:b∈fs
 ·exact u.slot b ob q n hb hx
 ·exact#[ob.slots,u.keep b ob q n hb hx]
theorem Un.kept (k:∀ b u,h.get? b=some u->h'.get? b=some u):Un fs ex H H h h':=
 #[λb ob q _ _ _=>k b ob q,λb ob q _ _ _=>#[ob.slots,k b ob q],λ_ _ _ n _=>n,λb ob q _=>#[ob,k b ob q],λ_ _ q=>q,λ_ _ _ q=>q,λ_ ps q=>#[#[],by rw [q];simp]]
theorem Un.refl:Un fs ex H H h h:=Un.kept λ_ _ q=>q
theorem Un.laid (k:∀ b u,h.get? b=some u->h'.get? b=some u)(hp:h.objs.size<=a)(hn:H a=none):Un fs ex H (upd H a o) h h' where
 keep:=λb u q _ _ _=>k b u q
 slot:=λb u q _ _ _=>#[u.slots,k b u q]
 free:=λb u q n _=>by rw [zA6 (yAo (yAj (yAP q) hp))];exact n
 there:=λb u q _=>#[u,k b u q]
 tups:=λb xs q=>by rw [zA6 (zA3 q hn)];exact q
 frzs:=λb u xs q=>by rw [zA6 (zA3 q hn)];exact q
 tbls:=λb ps q=>#[#[],by rw [zA6 (zA3 q hn),q];simp]
theorem Un.write (mu:Mut (H x))(he:e=x \/ H e=some (.own x))(k:∀ b u,b≠e->h.get? b=some u->h'.get? b=some u)(heo:∃ u,h'.get? e=some u):Un fs ex H (upd H x o) h h':=by
 have hx:∀ b,H b=none->b≠x:=λb n z=>by subst z;rw [n] at mu;exact mu
 have hb:∀ b,H b=none->b≠e:=λb n z=>by
  subst z
  rcases he with r|r
  ·exact hx b n r
  ·rw [n] at r;cases r
 have hm:∀ b u,H b=some u->¬Mut (some u)->b≠x:=λb u q nm z=>by subst z;rw [q] at mu;exact nm mu
 refine#[λb u q n _ _=>k b u (hb b n) q,λb u q n _ _=>#[u.slots,k b u (hb b n) q],λb u q n _=>by rw [zA6 (hx b n)];exact n,λb u q _=>?_,
  λb xs q=>by rw [zA6 (hm b _ q λz=>z)];exact q,λb u xs q=>by rw [zA6 (hm b _ q λz=>z)];exact q,λb ps q=>#[#[],by rw [zA6 (hm b _ q λz=>z),q];simp]]
 by_cases hbe:b=e
 ·subst hbe;exact heo
 ·exact#[u,k b u hbe q]
end
def trk (h:Heap)(H:Hp):List Addr:=(eAJ h.objs.size).filter λa=>(H a).isSome
def ZWC (h:Heap)(H:Hp):Heap:=PySem.W.hideAll h (trk h H)
def zQW (h:Heap)(H:Hp):(ZWC h H).objs.size=h.objs.size:=PySem.W.hideAll_size _ _
def zUZ {h:Heap}{H:Hp}{b:Addr}{o:Obj}(e:h.get? b=some o)(n:H b=none):(ZWC h H).get? b=some o:=
 PySem.W.hideAll_get _ e λhm=>by
  have q:(H b).isSome=true:=(yBF.mp hm).2;rw [n] at q;simp at q
def zZ7 {h:Heap}{H:Hp}{b:Addr}{o:Obj}(e:(ZWC h H).get? b=some o):h.get? b=some o/\H b=none:=by
 have e':h.get? b=some o:=PySem.W.of_hideAll (trk h H) e;refine#[e',?_]
 cases q:H b with
 | none=>rfl
 | some x=>
  have hm:b∈trk h H:=yBF.mpr #[yBC.mpr (yAP e'),by simp [q]];have z:(ZWC h H).get? b=none:=PySem.W.hideAll_none (trk h H) hm;rw [z] at e;cases e
def ZXM (g h:Heap)(L:Addr):kA:=(eAJ h.objs.size).filterMap λa=>if a=L \/ (g.get? a).isSome=true then none else (h.get? a).map λo=>(a,o)
def rest (g h:Heap)(L d:Addr):kA:=(ZXM g h L).filter λp=>decide (p.1≠d)
structure Mod (K:Frag)(mg:Str->Option Value)(base:Heap):Prop where
 kin:K.In base
 glob:base.Ns eAA mg
 blt:∃ mb,base.Ns builtinsNs mb/\∀ x:Str,x≠"__name__"->mb x=bootBuiltins x
 nolimit:base.NoLimit
structure Cx where
 prog:eAD
 w:World
 K:Frag
 mg:Str->Option Value
 base:Heap
 A:eAK
 N:List Str
 s₀:Shared
 H₀:Hp
 env:Env
 outer:List Env
 stack:List Env
 ex:List Addr
 fn:Str->Bool
 calm:Bool
 pn:kA
 xe:Value->Shared->Prop
def frs (l:List Env):List Addr:=l.filterMap (·.frame)
abbrev Cx.fs (X:Cx):List Addr:=frs X.outer
def Vis (sc:Scope)(x:Str):Prop:=sc.names.lookup x=some .local \/ sc.names.lookup x=some .cell \/ sc.names.lookup x=some .free
def Loc (sc:Scope)(x:Str):Prop:=sc.names.lookup x=some .local \/ sc.names.lookup x=some .cell
def ZeE (env:Env)(h:Heap)(m:Str->Option Value)(x:Str)(u:Value):Prop:=
 (env.kindOf x=some .local/\m x=some u) \/ ((env.kindOf x=some .cell \/ env.kindOf x=some .free)/\∃ c,env.cells.lookup x=some c/\h.IsCell c (some u))
structure Cx.Ok (X:Cx):Prop where
 mod:Mod X.K X.mg X.base
 kind:X.env.scope.kind=.function
 glob:X.env.globals=eAA
 blt:X.env.builtins=builtinsNs
 above:X.s₀.heap.objs.size<=X.env.locals
 inj:∀ x y c,X.env.cells.lookup x=some c->X.env.cells.lookup y=some c->x=y
 has:∀ x,(X.env.kindOf x=some .cell \/ X.env.kindOf x=some .free)->∃ c,X.env.cells.lookup x=some c
 cab:∀ x c,X.fn x=true->X.env.cells.lookup x=some c->X.s₀.heap.objs.size<=c
 hd:X.calm=true->X.A.handled=none
 frames:X.A.frames=some X.stack
 stk:X.stack=X.outer \/ (X.stack=X.env::X.outer/\X.env.frame=some X.env.locals)
 exf:∀ b∈X.ex,b≠X.env.locals/\∀ x c,X.env.cells.lookup x=some c->c≠b
 bs:∀ b o,X.base.get? b=some o->X.s₀.heap.get? b=some o/\X.H₀ b=none
 bsz:X.base.objs.size<=X.s₀.heap.objs.size
 noex:∀ b o,X.base.get? b=some o->b∉X.ex
 exfs:∀ b∈X.ex,b∉X.fs
 funs:X.s₀.heap.FunFrames X.base X.outer
 frf:∀ b∈X.fs,X.H₀ b=none
structure Inv (X:Cx)(pins:kA)(σ:List (Option V))(H:Hp)(s:Shared):Prop where
 ok:X.Ok
 os:s.os=X.s₀.os
 bare:AllBare s.gens
 base:Un X.fs X.ex X.H₀ H X.s₀.heap s.heap
 loc:∃ m,s.heap.Ns X.env.locals m/\∀ (i:Nat) (x:Str) (v:V),X.N[i]?=some x->σ[i]?=some (some v)->Vis X.env.scope x->∃ u,RelV v u/\ZeE X.env s.heap m x u
 cell:∀ x c,X.env.cells.lookup x=some c->∃ v,s.heap.IsCell c v
 free:H X.env.locals=none
 freeC:∀ x c,X.env.cells.lookup x=some c->H c=none
 pin:∀ p∈X.pn++pins,s.heap.get? p.1=some p.2/\H p.1=none/\p.1≠X.env.locals/\p.1∉X.fs/\∀ v,p.2.data≠.cell v
 hok:HOk X.prog X.w H s.heap
 len:σ.length=X.N.length
section
variable {X:Cx}{pins:kA}{σ:List (Option V)}{H H':Hp}{s:Shared}{h':Heap}
theorem Cx.Ok.nofr (ok:X.Ok){b:Addr}{o:Obj}(e:X.base.get? b=some o):b∉X.fs:=λhb=>by
 have:=(ok.funs.mem hb).1
 rw [e] at this;cases this
theorem Inv.bs (I:Inv X pins σ H s):∀ b o,X.base.get? b=some o->s.heap.get? b=some o/\H b=none:=λb o e=>
 #[I.base.keep b o (I.ok.bs b o e).1 (I.ok.bs b o e).2 (I.ok.nofr e) (I.ok.noex b o e),I.base.free b o (I.ok.bs b o e).1 (I.ok.bs b o e).2 (I.ok.noex b o e)]
theorem Inv.bk (I:Inv X pins σ H s):∀ b o,X.base.get? b=some o->s.heap.get? b=some o:=λb o e=>(I.bs b o e).1
theorem Inv.mod (I:Inv X pins σ H s):Mod X.K X.mg X.base:=I.ok.mod
theorem Inv.kIn (I:Inv X pins σ H s):X.K.In s.heap:=I.ok.mod.kin.keeps I.bk
theorem Inv.fr (I:Inv X pins σ H s):∃ m,Fr X.base X.env.locals s.heap m:=
 let ⟨m,hn,_⟩:=I.loc
 #[m,hn,I.bk,yAp I.ok.bsz I.ok.above]
theorem Inv.lt (I:Inv X pins σ H s):X.env.locals<(kZ s):=let ⟨_,hn,_⟩:=I.loc;hn.lt
theorem Inv.sz (I:Inv X pins σ H s):X.s₀.heap.objs.size<=(kZ s):=yAp I.ok.above (yDU I.lt)
theorem Inv.nofs (I:Inv X pins σ H s){a:Addr}(h:(kZ s)<=a):a∉X.fs:=λhb=>by
 obtain ⟨_,o,ho,_⟩:=I.ok.funs.mem hb;exact absurd (yAj (yAP ho) (yAp I.sz h)) (yBk _)
theorem Inv.cne (I:Inv X pins σ H s):∀ x c,X.env.cells.lookup x=some c->c≠X.env.locals:=λx c e z=>by
 obtain ⟨v,o,ho,hd⟩:=I.cell x c e;obtain ⟨m,⟨o',es,ep,ho',hd',_⟩,_⟩:=I.loc;rw [z,ho'] at ho;cases ho;rw [hd'] at hd;cases hd
theorem Inv.funs (I:Inv X pins σ H s):s.heap.FunFrames X.base X.outer:=by
 have all:∀ (l:List Env),(∀ b∈frs l,b∈X.fs)->X.s₀.heap.FunFrames X.base l->s.heap.FunFrames X.base l:=by
  intro l
  induction l with
  | nil=>intro _ _;exact trivial
  | cons env r ih=>
   intro hs hl;obtain ⟨hk,⟨L,o,hf,hn,ho,hd⟩,hr⟩:=hl;have hL:L∈X.fs:=hs L (by unfold frs;rw [yDh,hf];exact yAU);obtain ⟨sl,e⟩:=I.base.slot L o ho (I.ok.frf L hL) hL λz=>I.ok.exfs L z hL;exact#[hk,#[L,_,hf,hn,e,hd],ih (λb hb=>hs b (by unfold frs;rw [yDh,hf];exact yAL _ hb)) hr]
 exact all X.outer (λ_ hb=>hb) I.ok.funs
theorem Inv.stack (I:Inv X pins σ H s):s.heap.FunFrames X.base X.stack:=by
 rcases I.ok.stk with e|⟨e,hf⟩
 ·rw [e];exact I.funs
 ·rw [e]
  obtain ⟨m,hn,_⟩:=I.loc;refine .cons (by rw [I.ok.kind];decide) hf hn ?_ I.funs;exact Heap.get?_none_of_le (yAp I.ok.bsz I.ok.above)
theorem Inv.stkSub (I:Inv X pins σ H s):∀ b∈frs X.stack,b∈X.env.locals::X.fs:=λb hb=>by
 rcases I.ok.stk with e|⟨e,hf⟩
 ·rw [e] at hb;exact yAL _ hb
 ·rw [e] at hb
  unfold frs at hb;rw [yDh,hf] at hb;exact hb
theorem Inv.stkFree (I:Inv X pins σ H s):∀ b∈frs X.stack,H b=none:=λb hb=>by
 rcases yAf.mp (I.stkSub b hb) with e|hb
 ·rw [e];exact I.free
 ·obtain ⟨_,o,ho,_⟩:=I.ok.funs.mem hb
  exact I.base.free b o ho (I.ok.frf b hb) λz=>I.ok.exfs b z hb
theorem Inv.step {g':Array GenState}{t':Nat}{d':Drawn}{ch:List Addr}(I:Inv X pins σ H s)
  (hch:∀ b∈ch,(b∈X.ex \/ X.s₀.heap.objs.size<=b)/\b≠X.env.locals/\(∀ x c,X.env.cells.lookup x=some c->c≠b)/\∀ p∈X.pn++pins,p.1≠b)
  (keep:∀ b o,b≠X.env.locals->b∉X.fs->b∉ch->s.heap.get? b=some o->H b=none->h'.get? b=some o)
  (slot:∀ b o,b≠X.env.locals->b∈X.fs->b∉ch->s.heap.get? b=some o->H b=none->∃ sl,h'.get? b=some { o with slots:=sl }) (free:∀ b o,b∉ch->s.heap.get? b=some o->H b=none->H' b=none)
  (there:∀ b o,b∉ch->s.heap.get? b=some o->∃ o',h'.get? b=some o')
  (tups:∀ b xs,H b=some (.tup xs)->H' b=some (.tup xs)) (frzs:∀ b o u,H b=some (.frz o u)->H' b=some (.frz o u)) (tbls:∀ b ps,H b=some (.tbl ps)->∃ more,H' b=some (.tbl (ps++more)))
  (ns:∀ m,s.heap.Ns X.env.locals m->h'.Ns X.env.locals m) (hok:HOk X.prog X.w H' h') (hg:AllBare g') :
  Inv X pins σ H' { s with heap:=h',gens:=g',drawn:=d',toks:=t' }:=by
 have neL:∀ b o,X.s₀.heap.get? b=some o->b≠X.env.locals:=λb o e=>yAo (yAj (yAP e) I.ok.above)
 have neC:∀ b o,X.s₀.heap.get? b=some o->b∉X.ex->b∉ch:=λb o e hx hb=>by
  rcases (hch b hb).1 with z|z
  ·exact hx z
  ·exact absurd (yAj (yAP e) z) (yBk _)
 have cellK:∀ x c,X.env.cells.lookup x=some c->∀ v,s.heap.IsCell c v->h'.IsCell c v:=λx c e v ⟨o,ho,hd⟩=>by
  have nch:c∉ch:=λz=>(hch c z).2.2.1 x c e rfl
  by_cases hc:c∈X.fs
  ·obtain ⟨sl,q⟩:=slot c o (I.cne x c e) hc nch ho (I.freeC x c e)
   exact#[_,q,hd]
  ·exact#[o,keep c o (I.cne x c e) hc nch ho (I.freeC x c e),hd]
 refine#[I.ok,I.os,hg,#[λb o e n hb hx=>?_,λb o e n hb hx=>?_,λb o e n hx=>?_,λb o e hx=>?_,λb xs e=>tups b xs (I.base.tups b xs e),λb o xs e=>frzs b o xs (I.base.frzs b o xs e),λb ps e=>?_],?_,λx c e=>?_,?_,λx c e=>?_,λp hp=>?_,hok,I.len]
 ·exact keep b o (neL b o e) hb (neC b o e hx) (I.base.keep b o e n hb hx) (I.base.free b o e n hx)
 ·obtain ⟨sl,e1⟩:=I.base.slot b o e n hb hx
  obtain ⟨sl',e2⟩:=slot b _ (neL b o e) hb (neC b o e hx) e1 (I.base.free b o e n hx);exact#[sl',e2]
 ·obtain ⟨o',e1⟩:=I.base.there b o e hx
  exact free b o' (neC b o e hx) e1 (I.base.free b o e n hx)
 ·obtain ⟨o',e1⟩:=I.base.there b o e hx
  exact there b o' (neC b o e hx) e1
 ·obtain ⟨m1,e1⟩:=I.base.tbls b ps e
  obtain ⟨m2,e2⟩:=tbls b _ e1;exact#[m1++m2,by rw [e2,Array.append_assoc]]
 ·obtain ⟨m,hn,hl⟩:=I.loc
  refine#[m,ns m hn,λi x v e1 e2 e3=>?_];obtain ⟨u,r,l⟩:=hl i x v e1 e2 e3;refine#[u,r,?_]
  rcases l with l|⟨k,c,e,z⟩
  ·exact .inl l
  ·exact .inr #[k,c,e,cellK x c e _ z]
 ·obtain ⟨v,z⟩:=I.cell x c e
  exact#[v,cellK x c e v z]
 ·obtain ⟨m,⟨o,_,_,ho,_⟩,_⟩:=I.loc
  exact free _ o (λz=>(hch _ z).2.1 rfl) ho I.free
 ·obtain ⟨v,o,ho,hd⟩:=I.cell x c e
  exact free c o (λz=>(hch c z).2.2.1 x c e rfl) ho (I.freeC x c e)
 ·obtain ⟨e,n,ne,nf,d⟩:=I.pin p hp
  have nch:p.1∉ch:=λz=>(hch p.1 z).2.2.2 p hp rfl;exact#[keep p.1 p.2 ne nf nch e n,free p.1 p.2 nch e n,ne,nf,d]
theorem Inv.un {t':Nat}(I:Inv X pins σ H s)(u:Un X.fs [] H H' s.heap h')(hok:HOk X.prog X.w H' h'):Inv X pins σ H' { s with heap:=h',toks:=t' }:=by
 obtain ⟨m,⟨o,es,ep,ho,r⟩,_⟩:=id I.loc;obtain ⟨sl,hL⟩:=u.any ho I.free (by simp)
 exact I.step (g':=s.gens) (d':=s.drawn) (ch:=[]) (λ_ z=>nomatch z) (λb o _ hb _ e n=>u.keep b o e n hb (by simp)) (λb o _ hb _ e n=>u.slot b o e n hb (by simp)) (λb o _ e n=>u.free b o e n (by simp)) (λb o _ e=>u.there b o e (by simp)) u.tups u.frzs u.tbls (λm' hm=>by
  obtain ⟨o',es',ep',ho',r'⟩:=hm;rw [ho] at ho';cases ho';exact#[_,es',ep',hL,r']) hok I.bare
theorem Inv.call {g':Array GenState}{t':Nat}{d':Drawn}{ch:List Addr}(I:Inv X pins σ H s)(u:Un (frs X.stack) ch H H' s.heap h')(hok:HOk X.prog X.w H' h')(hg:AllBare g')
  (hch:∀ b∈ch,(b∈X.ex \/ X.s₀.heap.objs.size<=b)/\b≠X.env.locals/\(∀ x c,X.env.cells.lookup x=some c->c≠b)/\∀ p∈X.pn++pins,p.1≠b) :
  Inv X pins σ H' { s with heap:=h',gens:=g',drawn:=d',toks:=t' }:=by
 obtain ⟨m,⟨o,es,ep,ho,r⟩,_⟩:=id I.loc;obtain ⟨sl,hL⟩:=u.any ho I.free λz=>(hch _ z).2.1 rfl
 exact I.step (ch:=ch) hch (λb o hL hb hc e n=>u.keep b o e n (λz=>(yAf.mp (I.stkSub b z)).elim hL hb) hc) (λb o _ _ hc e n=>u.any e n hc) (λb o hc e n=>u.free b o e n hc) (λb o hc e=>u.there b o e hc) u.tups u.frzs u.tbls (λm' hm=>by
  obtain ⟨o',es',ep',ho',r'⟩:=hm;rw [ho] at ho';cases ho';exact#[_,es',ep',hL,r']) hok hg
theorem Inv.turned {t':Nat}{it:Addr}(I:Inv X pins σ H s)(k:∀ b o,b≠it->s.heap.get? b=some o->h'.get? b=some o)(hn:H it=none)(hL:it≠X.env.locals)
  (h1:it∈X.ex \/ X.s₀.heap.objs.size<=it) (h2:∀ x c,X.env.cells.lookup x=some c->c≠it) (h3:∀ p∈X.pn++pins,p.1≠it):Inv X pins σ H { s with heap:=h',toks:=t' }:=by
 have nit:∀ b u,H b=some u->b≠it:=λb u e z=>by rw [z,hn] at e;cases e
 refine I.step (g':=s.gens) (d':=s.drawn) (ch:=[it]) (λb hb=>?_) (λb o _ _ hc e _=>k b o (λz=>hc (by simp [z])) e) (λb o _ _ hc e _=>#[o.slots,k b o (λz=>hc (by simp [z])) e]) (λ_ _ _ _ n=>n)
  (λb o hc e=>#[o,k b o (λz=>hc (by simp [z])) e]) (λ_ _ e=>e) (λ_ _ _ e=>e) (λb ps e=>#[#[],by rw [e];simp]) (λm hm=>?_) (λb u e=>?_) I.bare
 ·have e:b=it:=by simpa using hb
  subst e;exact#[h1,hL,h2,h3]
 ·obtain ⟨o,es,ep,ho,r⟩:=hm
  exact#[o,es,ep,k _ o (eAL hL) ho,r]
 ·refine (I.hok b u e).stay (λc v hc q=>k c v ?_ q) (λ_ q=>q) λ_ _ q=>q
  rcases hc with z|z
  ·rw [z];exact nit b u e
  ·exact nit c _ z
theorem Inv.tok (I:Inv X pins σ H s)(t:Nat):Inv X pins σ H { s with toks:=t }:=I.un (h':=s.heap) (t':=t) Un.refl I.hok
theorem Inv.kept {t':Nat}(I:Inv X pins σ H s)(k:∀ b u,s.heap.get? b=some u->h'.get? b=some u):Inv X pins σ H { s with heap:=h',toks:=t' }:=I.un (Un.kept k) (I.hok.kept k)
theorem Inv.laid {a:Addr}{o:HO}{t':Nat}(I:Inv X pins σ H s)(k:∀ b u,s.heap.get? b=some u->h'.get? b=some u)(hp:(kZ s)<=a)(new:UAI X.prog X.w (upd H a o) h' a o) :
  Inv X pins σ (upd H a o) { s with heap:=h',toks:=t' }:=I.un (Un.laid k hp (I.hok.fresh hp)) (I.hok.laid k hp new)
theorem Inv.write {x e:Addr}{o:HO}{t':Nat}(I:Inv X pins σ H s)(mu:Mut (H x))(he:e=x \/ H e=some (.own x))(k:∀ b u,b≠e->s.heap.get? b=some u->h'.get? b=some u)(heo:∃ u,h'.get? e=some u)
  (new:UAI X.prog X.w (upd H x o) h' x o):Inv X pins σ (upd H x o) { s with heap:=h',toks:=t' }:=I.un (Un.write mu he k heo) (I.hok.write mu he k heo new)
theorem Inv.weak {σ':List (Option V)}(I:Inv X pins σ H s)(hl:σ'.length=σ.length)(w:∀ (i:Nat) v,σ'[i]?=some (some v)->σ[i]?=some (some v)):Inv X pins σ' H s:=
 #[I.ok,I.os,I.bare,I.base,let ⟨m,hn,hl'⟩:=I.loc;#[m,hn,λi x v e1 e2 e3=>hl' i x v e1 (w i v e2) e3],I.cell,I.free,I.freeC,I.pin,I.hok,hl.trans I.len]
theorem Inv.pins_of {pins':kA}(I:Inv X pins σ H s)(h:∀ p∈pins',s.heap.get? p.1=some p.2/\H p.1=none/\p.1≠X.env.locals/\p.1∉X.fs/\∀ v,p.2.data≠.cell v):Inv X pins' σ H s:=
 #[I.ok,I.os,I.bare,I.base,I.loc,I.cell,I.free,I.freeC,λp hp=>(yAb.mp hp).elim (λz=>I.pin p (yBy _ z)) (h p),I.hok,I.len]
def zIE {N:List Str}(hN:N.Nodup){i j:Nat}{x:Str}(a:N[i]?=some x)(b:N[j]?=some x):i=j:=by
 obtain ⟨h1,e1⟩:=yAH.mp a;obtain ⟨h2,e2⟩:=yAH.mp b;exact (yCf hN).mp (e1.trans e2.symm)
def zKQ {M:Model}{A:eAK}{E:kW}{i:Nat}{x:Str}{v:V}{u:Value}{Q:Unit->Shared->Prop}(I:Inv X pins σ H s)(hN:X.N.Nodup)(hi:X.N[i]?=some x)(hx:Loc X.env.scope x)(r:RelV v u)
  (h:∀ s',Inv X pins (σ.set i (some v)) H s'->(∃ a,eAM a s.heap s'.heap/\(a=X.env.locals \/ X.env.cells.lookup x=some a))->Q () s') (hf:X.fn x=true \/ X.env.scope.names.lookup x=some .local:=by first|exact .inl rfl|exact .inr rfl|assumption):wpAny M A (storeName X.env x u) Q E s:=by
 obtain ⟨m,hn,hl⟩:=id I.loc;have hcls:(X.env.scope.kind==.class||(X.env.scope.kind==.module&&X.env.locals != X.env.globals))=false:=by rw [I.ok.kind];rfl
 have hiσ:i<σ.length:=by rw [I.len];exact (yAH.mp hi).1
 have cne:=I.cne
 have tracked:∀ {a:Addr} {h':Heap},(∃ o,s.heap.get? a=some o/\H a=none)->eAM a s.heap h'->HOk X.prog X.w H h':=λ{a h'} ha hs b ob e=>by
  obtain ⟨_,_,hfree⟩:=ha;refine (I.hok b ob e).stay (λc w' hc q=>(hs.2 c ?_).trans q) (λ_ q=>q) λ_ _ q=>q
  rintro rfl
  rcases hc with rfl|hc
  ·rw [hfree] at e;cases e
  ·rw [hfree] at hc;cases hc
 rcases hx with hk|hk
 ·refine wpAny_storeName_local hk hn (λh' hn' hs=>?_) hcls
  obtain ⟨oL,_,_,hoL,_⟩:=id hn;refine h _ #[I.ok,I.os,I.bare,#[λb o e n hb hx=>?_,λb o e n hb hx=>?_,I.base.free,λb o e hx=>?_,I.base.tups,I.base.frzs,I.base.tbls],#[_,hn',λj y v' e1 e2 e3=>?_],λy c e=>?_,I.free,I.freeC,λp hp=>?_,tracked #[oL,hoL,I.free] hs,by simpa using I.len] #[_,hs,.inl rfl]
  ·exact (hs.2 b (yAo (yAj (yAP e) I.ok.above))).trans (I.base.keep b o e n hb hx)
  ·obtain ⟨sl,e1⟩:=I.base.slot b o e n hb hx
   exact#[sl,(hs.2 b (yAo (yAj (yAP e) I.ok.above))).trans e1]
  ·obtain ⟨o',e1⟩:=I.base.there b o e hx
   exact#[o',(hs.2 b (yAo (yAj (yAP e) I.ok.above))).trans e1]
  ·by_cases hj:j=i
   ·subst hj
    rw [hi] at e1;cases e1;rw [yDK hiσ] at e2
    cases e2
    exact#[u,r,.inl #[hk,by simp]]
   ·rw [List.getElem?_set_ne (eAL hj)] at e2
    obtain ⟨u',r',q⟩:=hl j y v' e1 e2 e3;refine#[u',r',?_]
    rcases q with ⟨k,e⟩|⟨k,c,e,z⟩
    ·refine .inl #[k,?_]
     have:y≠x:=λe=>hj (zIE hN e1 (e ▸ hi))
     simp [this,e]
    ·exact .inr #[k,c,e,z.sameBut hs (cne y c e)]
  ·obtain ⟨w',z⟩:=I.cell y c e
   exact#[w',z.sameBut hs (cne y c e)]
  ·obtain ⟨e,n,ne,nf,d⟩:=I.pin p hp
   exact#[(hs.2 p.1 ne).trans e,n,ne,nf,d]
 ·have hfn:X.fn x=true:=by
   rcases hf with z|z
   ·exact z
   ·rw [z] at hk;cases hk
  obtain ⟨c,hc⟩:=I.ok.has x (.inl hk);obtain ⟨w',z⟩:=I.cell x c hc;refine wpAny_storeName_cell I.ok.kind hk hc z (λh' hc' hs=>?_);obtain ⟨oc,hoc,hocd⟩:=id z;refine h { s with heap:=h' } #[I.ok,I.os,I.bare,#[λb o e n hb hx=>?_,λb o e n hb hx=>?_,I.base.free,λb o e hx=>?_,I.base.tups,I.base.frzs,I.base.tbls],#[m,hn.sameBut hs (eAL (cne x c hc)),λj y v' e1 e2 e3=>?_],λy c' e=>?_,I.free,I.freeC,λp hp=>?_,tracked #[oc,hoc,I.freeC x c hc] hs,by simpa using I.len] #[c,hs,.inr hc]
  ·exact (hs.2 b (yAo (yAj (yAP e) (I.ok.cab x c hfn hc)))).trans (I.base.keep b o e n hb hx)
  ·obtain ⟨sl,e1⟩:=I.base.slot b o e n hb hx
   exact#[sl,(hs.2 b (yAo (yAj (yAP e) (I.ok.cab x c hfn hc)))).trans e1]
  ·obtain ⟨o',e1⟩:=I.base.there b o e hx
   exact#[o',(hs.2 b (yAo (yAj (yAP e) (I.ok.cab x c hfn hc)))).trans e1]
  ·by_cases hj:j=i
   ·subst hj
    rw [hi] at e1;cases e1;rw [yDK hiσ] at e2
    cases e2
    exact#[u,r,.inr #[.inl hk,c,hc,hc']]
   ·rw [List.getElem?_set_ne (eAL hj)] at e2
    obtain ⟨u',r',q⟩:=hl j y v' e1 e2 e3;refine#[u',r',?_]
    rcases q with q|⟨k,c',e,z'⟩
    ·exact .inl q
    ·refine .inr #[k,c',e,z'.sameBut hs ?_]
     rintro rfl
     exact hj (zIE hN e1 (I.ok.inj _ _ _ e hc ▸ hi))
  ·by_cases hcc:c'=c
   ·subst hcc;exact#[_,hc']
   ·obtain ⟨w2,z2⟩:=I.cell y c' e
    exact#[w2,z2.sameBut hs hcc]
  ·obtain ⟨e,n,ne,nf,d⟩:=I.pin p hp
   refine#[(hs.2 p.1 ?_).trans e,n,ne,nf,d];intro q;rw [q,hoc] at e;have q':oc=p.2:=eAH e;exact d w' (by rw [<- q'];exact hocd)
def zF6 {M:Model}{A:eAK}{E:kW}{i:Nat}{x:Str}{v:V}{u:Value}{Q:Unit->Shared->Prop}(I:Inv X pins σ H s)(hN:X.N.Nodup)(hi:X.N[i]?=some x)(hx:Loc X.env.scope x)(r:RelV v u)
  (h:∀ s',Inv X pins (σ.set i (some v)) H s'->Q () s') (hf:X.fn x=true \/ X.env.scope.names.lookup x=some .local:=by first|exact .inl rfl|exact .inr rfl|assumption):wpAny M A (storeName X.env x u) Q E s:=
 zKQ I hN hi hx r (λs' I' _=>h s' I') hf
theorem Inv.call' {s':Shared}{ch:List Addr}(I:Inv X pins σ H s)(ho:s'.os=s.os)(u:Un (frs X.stack) ch H H' s.heap s'.heap)(hok:HOk X.prog X.w H' s'.heap)(hg:AllBare s'.gens)
  (hch:∀ b∈ch,(b∈X.ex \/ X.s₀.heap.objs.size<=b)/\b≠X.env.locals/\(∀ x c,X.env.cells.lookup x=some c->c≠b)/\∀ p∈X.pn++pins,p.1≠b):Inv X pins σ H' s':=by
 obtain ⟨h',g',d',t',o'⟩:=s';have e:o'=s.os:=ho;subst e;exact I.call (g':=g') (t':=t') (d':=d') u hok hg hch
end
abbrev XK:=Value->Option Addr->Hp->Prop
abbrev St:=List (Option V)
abbrev VK:=V->Hp->Prop
abbrev TE:=St->Hp->VK->Prop
abbrev TT:=St->Hp->(Bool->Hp->Prop)->Prop
abbrev TA:=St->Hp->(List V->Hp->Prop)->Prop
structure Ends where
 nx:St->Hp->Prop
 rt:VK
 bk:St->Hp->Prop:=λ_ _=>False
 ct:St->Hp->Prop:=λ_ _=>False
abbrev TS:=Ends->St->Hp->Prop
def EP (X:Cx)(pins:kA)(σ:St)(Q:VK)(u:Value)(s':Shared):Prop:=∃ v H',Inv X pins σ H' s'/\RelV v u/\Q v H'
def TP (X:Cx)(pins:kA)(σ:St)(Q:Bool->Hp->Prop)(b:Bool)(s':Shared):Prop:=∃ H',Inv X pins σ H' s'/\Q b H'
def AP (X:Cx)(pins:kA)(σ:St)(Q:List V->Hp->Prop)(us:List Value)(s':Shared):Prop:=∃ vs H',Inv X pins σ H' s'/\Vals vs us/\Q vs H'
def SP (X:Cx)(pins:kA)(D:Ends)(f:Flow)(s':Shared):Prop:=
 match f with
 | .next=>∃ σ' H',Inv X pins σ' H' s'/\D.nx σ' H'
 | .brk=>∃ σ' H',Inv X pins σ' H' s'/\D.bk σ' H'
 | .cont=>∃ σ' H',Inv X pins σ' H' s'/\D.ct σ' H'
 | .ret u=>∃ v σ' H',Inv X pins σ' H' s'/\RelV v u/\D.rt v H'
def PE (X:Cx)(e:Expr)(t:TE):Prop:=
 ∀ (pins:kA) (s:Shared) (σ:St) (H:Hp) (Q:VK),Inv X pins σ H s->t σ H Q->kM (eval e X.env) (EP X pins σ Q) X.xe s
def PT (X:Cx)(e:Expr)(t:TT):Prop:=
 ∀ (pins:kA) (s:Shared) (σ:St) (H:Hp) (Q:Bool->Hp->Prop),Inv X pins σ H s->t σ H Q->kM (isTrue e X.env (eval e X.env)) (TP X pins σ Q) X.xe s
def PW (X:Cx)(e:Expr)(t:TT):Prop:=
 ∀ (whole:Sem Value) (pins:kA) (s:Shared) (σ:St) (H:Hp) (Q:Bool->Hp->Prop),Inv X pins σ H s->t σ H Q->kM (isTrue e X.env whole) (TP X pins σ Q) X.xe s
theorem PW.pt {X:Cx}{e:Expr}{t:TT}(h:PW X e t):PT X e t:=h _
def PA (X:Cx)(es:List Expr)(t:TA):Prop:=
 ∀ (pos:Pos) (pins:kA) (s:Shared) (σ:St) (H:Hp) (Q:List V->Hp->Prop),Inv X pins σ H s->t σ H Q->kM (spliced (eAN pos (eAO es X.env))) (AP X pins σ Q) X.xe s
def PS (X:Cx)(st:Stmt)(t:TS):Prop:=
 ∀ (pins:kA) (s:Shared) (σ:St) (H:Hp) (D:Ends),Inv X pins σ H s->t D σ H->kM (exec st X.env) (SP X pins D) X.xe s
def PSs (X:Cx)(st:List Stmt)(t:TS):Prop:=
 ∀ (pins:kA) (s:Shared) (σ:St) (H:Hp) (D:Ends),Inv X pins σ H s->t D σ H->kM (execs st X.env) (SP X pins D) X.xe s
theorem thn {α:Type}{t:Sem α}{Q Q':α->Shared->Prop}{M:Model}{A:eAK}{E:kW}{s:Shared}(h:wpAny M A t Q E s)(hQ:∀ a s,Q a s->Q' a s):wpAny M A t Q' E s:=yBW h hQ λ_ _ x=>x
section
variable {X:Cx}
def OA0 (i:Nat):=∀ v,σ[i]?=some (some v)->Q v H->OA0 i σ H Q
def tC (v:V):TE:=λ_ H Q=>Q v H
def zbG {i:Nat}{x:Str}{pos:Pos}(hN:X.N[i]?=some x)(hv:Vis X.env.scope x)(hd:(x==("__debug__":Str))=false:=by decide)(hcd:(x==("__classdict__":Str))=false:=by decide):PE X (.Name x pos) (OA0 i):=by
 intro pins s σ H Q I h;obtain ⟨v,e,h⟩:=h;obtain ⟨m,hn,hl⟩:=I.loc;obtain ⟨u,r,l⟩:=hl i x v hN e hv;have fin:EP X pins σ Q u s:=#[v,H,I,r,h]
 rcases l with ⟨hk,hm⟩|⟨hk,c,hc,hcell⟩
 ·exact wpAny_Name (wpAny_loadName_local I.ok.kind hk hn hm fin) hd
 ·rcases hk with hk|hk
  ·exact wpAny_Name (wpAny_loadName_cell I.ok.kind hk hc hcell fin) hd
  ·exact wpAny_Name (wpAny_loadName_free I.ok.kind hk hc hcell fin hcd) hd
def zA5 {i j pos}:PE X (.Constant (.int i) j pos) (tC (.int i)):=λ_ _ _ H _ I h=>wpAny_Constant_int #[.int i,H,I.tok _,#[_,rfl],h]
def zC0 {b j pos}:PE X (.Constant (.bool b) j pos) (tC (.bl b)):=λ_ _ _ H _ I h=>Constant_bool #[.bl b,H,I,rfl,h]
def zBV {j pos}:PE X (.Constant .none j pos) (tC .non):=λ_ _ _ H _ I h=>Constant_none #[.non,H,I,rfl,h]
def zAL {x j pos}:PE X (.Constant (.str x) j pos) (tC (.str x)):=λ_ _ _ H _ I h=>Calls.Constant_str #[.str x,H,I.tok _,#[_,rfl],h]
def Gl (X:Cx)(x:Str):Prop:=X.env.kindOf x=some .globalImplicit
def zD5 {E:kW}{pins:kA}{s:Shared}{σ:St}{H:Hp}{x:Str}{u:Value}{pos:Pos}{Q:kW}(I:Inv X pins σ H s)(hg:Gl X x)(hm:X.mg x=some u)(h:Q u s)
  (hd:(x==("__debug__":Str))=false:=by decide):kM (eval (.Name x pos) X.env) Q E s:=
 Calls.Name_function_global I.ok.kind hg (Calls.loadGlobal_global (by rw [I.ok.glob];exact I.mod.glob.keeps I.bk) hm h) hd
def zEV {E:kW}{pins:kA}{s:Shared}{σ:St}{H:Hp}{x:Str}{u:Value}{pos:Pos}{Q:kW}(I:Inv X pins σ H s)(hg:Gl X x)(hm:X.mg x=none)(hv:bootBuiltins x=some u)(h:Q u s)
  (hn:x≠"__name__":=by decide) (hd:(x==("__debug__":Str))=false:=by decide):kM (eval (.Name x pos) X.env) Q E s:=by
 obtain ⟨mb,h1,h2⟩:=I.mod.blt;exact Calls.Name_function_global I.ok.kind hg (Calls.loadGlobal_builtin (by rw [I.ok.glob];exact I.mod.glob.keeps I.bk) hm (by rw [I.ok.blt];exact h1.keeps I.bk) ((h2 x hn).trans hv) h) hd
def zHG {x:Str}{v:V}{u:Value}{pos:Pos}(hg:Gl X x)(hm:X.mg x=some u)(r:RelV v u)(hd:(x==("__debug__":Str))=false:=by decide):PE X (.Name x pos) (tC v):=
 λ_ _ _ H _ I h=>zD5 I hg hm #[v,H,I,r,h] hd
def zB3 {x:Str}{v:V}{u:Value}{pos:Pos}(hg:Gl X x)(hm:X.mg x=none)(hv:bootBuiltins x=some u)(r:RelV v u)(hn:x≠"__name__":=by decide)(hd:(x==("__debug__":Str))=false:=by decide):PE X (.Name x pos) (tC v):=
 λ_ _ _ H _ I h=>zEV I hg hm hv #[v,H,I,r,h] hn hd
variable {a b:Expr}{ta tb:TE}{pos:Pos}
def PC (X:Cx)(op:CmpOp)(a b:Expr)(t:TE):Prop:=
 ∀ (pins:kA) (s:Shared) (σ:St) (H:Hp) (Q:VK),Inv X pins σ H s->t σ H Q ->
  kM (eval a X.env) (λv s₁=>kM (eval b X.env) (λu s₂=>kM (eAP op v u) (EP X pins σ Q) X.xe s₂) X.xe s₁) X.xe s
def tB (t:TE):TT:=λσ H Q=>t σ H λx H1=>∃ c,x=.bl c/\Q c H1
def zRI {op:CmpOp}{t:TE}(h:PC X op a b t)(h1:behindInMarks op b=false:=by first|exact nobehind _ dQ dQ|rfl):PT X (.Compare a [op] [b] pos) (tB t):=by
 intro pins s σ H Q I hw;refine wpAny_isTrue_Compare1 (thn (h pins s σ H _ I hw) λv s1 h1=>thn h1 λu s2 h2=>thn h2 λc s3 hM=>?_) h1;obtain ⟨x,H1,I1,r1,q1⟩:=hM;obtain ⟨d,rfl,q⟩:=q1
 cases r1
 exact yBb #[H1,I1,q]
def zB4 {e:Expr}{t:TE}(h:PE X e t)(he:∀ whole,isTrue e X.env whole=(do let v <- whole;standAt e.pos;holding [v] (truthy v)):=by intro _;rfl):PT X e (tB t):=by
 intro pins s σ H Q I hw;refine isTrue_plain (thn (h pins s σ H _ I hw) λv s1 hM=>?_) (he _);obtain ⟨x,H1,I1,r1,q1⟩:=hM;obtain ⟨d,rfl,q⟩:=q1
 cases r1
 exact yBb #[H1,I1,q]
variable {tA tB':TT}{rest:List Expr}
def Zf1 (t u:TT):TT:=λσ H Q=>t σ H λc H1=>if c=true then u σ H1 Q else Q false H1
def tOr (t u:TT):TT:=λσ H Q=>t σ H λc H1=>if c=true then Q true H1 else u σ H1 Q
def Zf0 (t:TT):TT:=λσ H Q=>t σ H λc H1=>Q (!c) H1
def zD6 (ha:PT X a tA):PW X (.BoolOp .And [a] pos) tA:=by
 intro wh pins s σ H Q I h;refine isTrue_and (thn (ha pins s σ H Q I h) λc s1 e=>?_)
 cases c with
 | true=>exact isTrue_and_nil e
 | false=>exact e
def zE9 (ha:PT X a tA):PW X (.BoolOp .Or [a] pos) tA:=by
 intro wh pins s σ H Q I h;refine isTrue_or (thn (ha pins s σ H Q I h) λc s1 e=>?_)
 cases c with
 | false=>exact isTrue_or_nil e
 | true=>exact e
def zEC (ha:PT X a tA)(hb:PW X (.BoolOp .And (b::rest) pos) tB'):PW X (.BoolOp .And (a::b::rest) pos) (Zf1 tA tB'):=by
 intro wh pins s σ H Q I h;refine isTrue_and (thn (ha pins s σ H _ I h) λc s1 hM=>?_);obtain ⟨H1,I1,q1⟩:=hM
 cases c with
 | true=>exact hb wh pins s1 σ H1 Q I1 q1
 | false=>exact#[H1,I1,q1]
def zGR (ha:PT X a tA)(hb:PW X (.BoolOp .Or (b::rest) pos) tB'):PW X (.BoolOp .Or (a::b::rest) pos) (tOr tA tB'):=by
 intro wh pins s σ H Q I h;refine isTrue_or (thn (ha pins s σ H _ I h) λc s1 hM=>?_);obtain ⟨H1,I1,q1⟩:=hM
 cases c with
 | true=>exact#[H1,I1,q1]
 | false=>exact hb wh pins s1 σ H1 Q I1 q1
def zBH (ha:PT X a tA):PT X (.UnaryOp .Not a pos) (Zf0 tA):=by
 intro pins s σ H Q I h;exact isTrue_not (ha pins s σ H (λc H1=>Q (!c) H1) I h)
def ZeC (ta tb:TE):TE:=λσ H Q=>ta σ H λx H1=>∃ c,x=.bl c/\if c=true then tb σ H1 Q else Q (.bl false) H1
def ZeY (ta tb:TE):TE:=λσ H Q=>ta σ H λx H1=>∃ c,x=.bl c/\if c=true then Q (.bl true) H1 else tb σ H1 Q
def ZdL (ta:TE):TE:=λσ H Q=>ta σ H λx H1=>∃ c,x=.bl c/\Q (.bl (!c)) H1
def zEA {op}{t:TE}(h:PE X a t):PE X (.BoolOp op [a] pos) t:=λpins s σ H Q I hw=>BoolOp_one (h pins s σ H Q I hw)
def zDH (ha:PE X a ta)(hb:PE X (.BoolOp .And (b::rest) pos) tb):PE X (.BoolOp .And (a::b::rest) pos) (ZeC ta tb):=by
 intro pins s σ H Q I h;refine BoolOp_and (thn (ha pins s σ H _ I h) λv s1 hM=>?_);obtain ⟨x,H1,I1,r1,q1⟩:=hM;obtain ⟨c,rfl,q1⟩:=q1
 cases r1
 refine yBb ?_
 cases c with
 | true=>exact hb pins s1 σ H1 Q I1 q1
 | false=>exact#[.bl false,H1,I1,rfl,q1]
def zdS (ha:PE X a ta)(hb:PE X (.BoolOp .Or (b::rest) pos) tb):PE X (.BoolOp .Or (a::b::rest) pos) (ZeY ta tb):=by
 intro pins s σ H Q I h;refine BoolOp_or (thn (ha pins s σ H _ I h) λv s1 hM=>?_);obtain ⟨x,H1,I1,r1,q1⟩:=hM;obtain ⟨c,rfl,q1⟩:=q1
 cases r1
 refine yBb ?_
 cases c with
 | false=>exact hb pins s1 σ H1 Q I1 q1
 | true=>exact#[.bl true,H1,I1,rfl,q1]
def zNK (ha:PE X a ta):PE X (.UnaryOp .Not a pos) (ZdL ta):=by
 intro pins s σ H Q I h;refine UnaryOp_ (thn (ha pins s σ H _ I h) λv s1 hM=>?_);obtain ⟨x,H1,I1,r1,q1⟩:=hM;obtain ⟨c,rfl,q1⟩:=q1
 cases r1
 exact not_of (yBb #[.bl (!c),H1,I1,rfl,q1])
def tIf (t:TT)(ta tb:TE):TE:=λσ H Q=>t σ H λc H1=>if c=true then ta σ H1 Q else tb σ H1 Q
def zU6 {c:Expr}(hc:PT X c tA)(ha:PE X a ta)(hb:PE X b tb):PE X (.IfExp c a b pos) (tIf tA ta tb):=by
 intro pins s σ H Q I h;refine wpAny_IfExp (thn (hc pins s σ H _ I h) λd s1 hM=>?_);obtain ⟨H1,I1,q1⟩:=hM
 cases d with
 | true=>exact ha pins s1 σ H1 Q I1 q1
 | false=>exact hb pins s1 σ H1 Q I1 q1
end
def SqL (K:Frag)(H:Hp)(a:Addr)(xs:List V):Prop:=
 Rd H a (.lst xs) \/
  ∃ (o:Obj) (its:Array Value) (n:Nat),K.lookup a=some o/\o.cls=.type "list"/\o.dict=none/\o.data=.seq its n/\its.size<=eA5/\Vals xs its.toList
def SqT (K:Frag)(H:Hp)(a:Addr)(xs:List V):Prop:=
 Rd H a (.tup xs) \/
  ∃ (o:Obj) (its:Array Value) (n:Nat),K.lookup a=some o/\o.cls=.type "tuple"/\o.data=.seq its n/\its.size<=eA5/\Vals xs its.toList
def Zb6:Value->Option V
 | .none=>some .non
 | .bool b=>some (.bl b)
 | .int i _=>some (.int i)
 | .str x _=>some (.str x)
 | .bytes b _=>some (.byt b)
 | .float b _=>some (.flt b)
 | .ref a=>some (.ref a)
 | .type n=>some (.ty n)
 | _=>none
theorem RelV.abs {x:V}{u:Value}(r:RelV x u):Zb6 u=some x:=by
 cases x with
 | non=>cases r;rfl
 | bl _=>cases r;rfl
 | int _=>obtain ⟨t,rfl⟩:=r;rfl
 | str _=>obtain ⟨t,rfl⟩:=r;rfl
 | byt _=>obtain ⟨t,rfl⟩:=r;rfl
 | flt _=>obtain ⟨t,rfl⟩:=r;rfl
 | ref _=>cases r;rfl
 | ty _=>cases r;rfl
theorem RelV.inj {x y:V}{u:Value}(r:RelV x u)(q:RelV y u):x=y:=eAH (r.abs.symm.trans q.abs)
theorem Vals.inj {xs:List V}{us:List Value}(h:Vals xs us):∀ {ys:List V},Vals ys us->xs=ys:=by
 induction h with
 | nil=>intro ys k;cases k;rfl
 | cons r _ ih=>
  intro ys k
  cases k with
  | cons r' t'=>rw [r.inj r',ih t']
section
variable {X:Cx}{pins:kA}{σ:St}{H:Hp}{s:Shared}{a:Addr}{xs ys:List V}
theorem SqL.of {K:Frag}(h:H a=some (.lst xs)):SqL K H a xs:=.inl (.inl h)
theorem SqT.of {K:Frag}(h:H a=some (.tup xs)):SqT K H a xs:=.inl (.inl h)
theorem Inv.list (I:Inv X pins σ H s)(h:SqL X.K H a xs):∃ its:List Value,Vals xs its/\PlainL s.heap a its.toArray/\xs.length<=eA5:=by
 rcases h with h|⟨o,its,n,hk,hc,hd,hs,hz,r⟩
 ·obtain ⟨z,its,n,r,e⟩:=h.ok I.hok
  exact#[its,r,#[_,n,e,rfl,rfl,rfl],z]
 ·refine#[its.toList,r,#[o,n,I.kIn a o hk,hc,hd,by simpa using hs],?_]
  have e:=r.length;simp only [yBJ] at e;lia
theorem Inv.tuple (I:Inv X pins σ H s)(h:SqT X.K H a xs):∃ its:List Value,Vals xs its/\IsTup s.heap a its.toArray/\xs.length<=eA5:=by
 rcases h with h|⟨o,its,n,hk,hc,hs,hz,r⟩
 ·obtain ⟨z,its,r,p⟩:=h.ok I.hok
  exact#[its,r,p,z]
 ·refine#[its.toList,r,#[o,I.kIn a o hk,hc,n,by simpa using hs],?_]
  have e:=r.length;simp only [yBJ] at e;lia
theorem Inv.list_inj (I:Inv X pins σ H s)(h:SqL X.K H a xs)(h':SqL X.K H a ys):xs=ys:=by
 obtain ⟨its,r,⟨o,n,e,_,_,d⟩,_⟩:=I.list h;obtain ⟨its',r',⟨o',n',e',_,_,d'⟩,_⟩:=I.list h';rw [e] at e';cases e';rw [d] at d'
 injection d' with d1 _
 have:its=its':=by simpa using congrArg Array.toList d1
 subst this;exact r.inj r'
theorem Inv.tuple_inj (I:Inv X pins σ H s)(h:SqT X.K H a xs)(h':SqT X.K H a ys):xs=ys:=by
 obtain ⟨its,r,⟨o,e,_,n,d⟩,_⟩:=I.tuple h;obtain ⟨its',r',⟨o',e',_,n',d'⟩,_⟩:=I.tuple h';rw [e] at e';cases e';rw [d] at d'
 injection d' with d1 _
 have:its=its':=by simpa using congrArg Array.toList d1
 subst this;exact r.inj r'
end
abbrev Cx.wish (X:Cx)(E:kW):Cx:={ X with xe:=E }
abbrev Cx.nox (X:Cx):Cx:=X.wish λ_ _=>False
theorem Cx.Ok.wish {X:Cx}(ok:X.Ok)(E:kW):(X.wish E).Ok:=
 #[ok.mod,ok.kind,ok.glob,ok.blt,ok.above,ok.inj,ok.has,ok.cab,ok.hd,ok.frames,ok.stk,ok.exf,ok.bs,ok.bsz,ok.noex,ok.exfs,ok.funs,ok.frf]
theorem Cx.Ok.unwish {X:Cx}{E:kW}(ok:(X.wish E).Ok):X.Ok:=
 #[ok.mod,ok.kind,ok.glob,ok.blt,ok.above,ok.inj,ok.has,ok.cab,ok.hd,ok.frames,ok.stk,ok.exf,ok.bs,ok.bsz,ok.noex,ok.exfs,ok.funs,ok.frf]
section
variable {X:Cx}{pins:kA}{σ:St}{H:Hp}{s:Shared}{E:kW}
theorem Inv.wish (I:Inv X pins σ H s)(E:kW):Inv (X.wish E) pins σ H s:=#[I.ok.wish E,I.os,I.bare,I.base,I.loc,I.cell,I.free,I.freeC,I.pin,I.hok,I.len]
theorem Inv.unwish (I:Inv (X.wish E) pins σ H s):Inv X pins σ H s:=#[I.ok.unwish,I.os,I.bare,I.base,I.loc,I.cell,I.free,I.freeC,I.pin,I.hok,I.len]
theorem SP.unwish {D:Ends}{f:Flow}{s':Shared}(h:SP (X.wish E) pins D f s'):SP X pins D f s':=by
 cases f with
 | next=>obtain ⟨σ',H',I,q⟩:=h;exact#[σ',H',I.unwish,q]
 | brk=>obtain ⟨σ',H',I,q⟩:=h;exact#[σ',H',I.unwish,q]
 | cont=>obtain ⟨σ',H',I,q⟩:=h;exact#[σ',H',I.unwish,q]
 | ret u=>obtain ⟨v,σ',H',I,r,q⟩:=h;exact#[v,σ',H',I.unwish,r,q]
theorem PSs.nox {st:List Stmt}{t:TS}(h:PSs X.nox st t):PSs X st t:=λpins s σ H D I hw=>
 yBW (h pins s σ H D (I.wish _) hw) (λ_ _ q=>q.unwish) λ_ _ z=>eAQ z
end
section
variable {X:Cx}{st:Stmt}{rest:List Stmt}{t u:TS}{e:Expr}{te:TE}{pos:Pos}
def Zd8:TS:=λD σ H=>D.nx σ H
def ZXY (t u:TS):TS:=λD σ H=>t { D with nx:=u D } σ H
def zA8:PSs X [] Zd8:=λ_ _ σ H _ I h=>yDd #[σ,H,I,h]
def zA1 (h1:PS X st t)(h2:PSs X rest u):PSs X (st::rest) (ZXY t u):=by
 intro pins s σ H D I h;refine wpAny_execs_cons (thn (h1 pins s σ H { D with nx:=u D } I h) λf s1 q=>?_)
 cases f with
 | next=>
  obtain ⟨σ',H',I',q⟩:=q;exact h2 pins s1 σ' H' D I' q
 | ret v=>exact q
 | brk=>exact q
 | cont=>exact q
def zA2 (h1:PS X st t):PSs X [st] t:=by
 intro pins s σ H D I h;refine wpAny_execs_cons (thn (h1 pins s σ H D I h) λf s1 q=>?_)
 cases f with
 | next=>exact yDd q
 | ret v=>exact q
 | brk=>exact q
 | cont=>exact q
theorem Inv.quiet {pins:kA}{σ:St}{H:Hp}{s:Shared}(I:Inv X pins σ H s):interactive X.env=false:=by simp [interactive,I.ok.kind]
def Ze8 (te:TE):TS:=λD σ H=>te σ H λ_ H1=>D.nx σ H1
def zBC (he:PE X e te)(hs:swapsWith e none pos.line X.env=pure false:=by rfl):PS X (.Expr e pos) (Ze8 te):=by
 intro pins s σ H D I h;refine wpAny_Expr_any (thn (he pins s σ H _ I h) λv s1 hM=>?_) I.quiet hs;obtain ⟨x,H1,I1,r1,q1⟩:=hM;exact#[σ,H1,I1,q1]
def ZeD (te:TE):TS:=λD σ H=>te σ H D.rt
def zA7 (he:PE X e te):PS X (.Return (some e) pos) (ZeD te):=by
 intro pins s σ H D I h;refine wpAny_Return_some (thn (he pins s σ H _ I h) λv s1 hM=>?_);obtain ⟨x,H1,I1,r1,q1⟩:=hM;exact#[x,σ,H1,I1,r1,q1]
def ZeK (c:TT)(t u:TS):TS:=λD σ H=>c σ H λb H1=>if b=true then t D σ H1 else u D σ H1
def zAK {c:Expr}{a b:List Stmt}{tc:TT}(hc:PT X c tc)(ha:PSs X a t)(hb:PSs X b u):PS X (.If c a b pos) (ZeK tc t u):=by
 intro pins s σ H D I h;refine wpAny_If (thn (hc pins s σ H _ I h) λd s1 hM=>?_);obtain ⟨H1,I1,q1⟩:=hM
 cases d with
 | true=>exact ha pins s1 σ H1 D I1 q1
 | false=>exact hb pins s1 σ H1 D I1 q1
def ZbY:TS:=λ_ _ _=>False
def zC4 {sts:List Stmt}:PSs X sts ZbY:=λ_ _ _ _ _ _ h=>h.elim
end
abbrev TG:=V->St->Hp->(St->Hp->Prop)->Prop
abbrev TGs:=List V->St->Hp->(St->Hp->Prop)->Prop
def PG (X:Cx)(target:Expr)(t:TG):Prop:=
 ∀ (pins:kA) (s:Shared) (σ:St) (H:Hp) (v:V) (u:Value) (Q:St->Hp->Prop),Inv X pins σ H s->RelV v u->t v σ H Q ->
  kM (assign target X.env u) (λ_ s'=>∃ σ' H',Inv X pins σ' H' s'/\Q σ' H') X.xe s
def PGs (X:Cx)(ts:List Expr)(t:TGs):Prop:=
 ∀ (pins:kA) (s:Shared) (σ:St) (H:Hp) (vs:List V) (us:List Value) (Q:St->Hp->Prop),Inv X pins σ H s->Vals vs us->t vs σ H Q ->
  kM (assignInOrder ((eAR ts X.env).map (·.2)) us) (λ_ s'=>∃ σ' H',Inv X pins σ' H' s'/\Q σ' H') X.xe s
abbrev zdA:=V->V->V->Hp->(Hp->Prop)->Prop
def ZeJ (X:Cx)(t:zdA):Prop:=
 ∀ (pins:kA) (s:Shared) (σ:St) (H:Hp) (o i v:V) (ov iv u:Value) (Q:Hp->Prop),Inv X pins σ H s->RelV o ov->RelV i iv->RelV v u->t o i v H Q ->
  kM (setItem ov iv u) (λ_ s'=>∃ H',Inv X pins σ H' s'/\Q H') X.xe s
abbrev TIp:=V->V->Hp->VK->Prop
def PIp (X:Cx)(op:Operator)(t:TIp):Prop:=
 ∀ (pins:kA) (s:Shared) (σ:St) (H:Hp) (x y:V) (v u:Value) (Q:VK),Inv X pins σ H s->RelV x v->RelV y u->t x y H Q ->
  kM (inplaceOp op v u) (EP X pins σ Q) X.xe s
section
variable {X:Cx}{pos:Pos}
def ZFS (i:Nat):TG:=λv σ H Q=>Q (σ.set i (some v)) H
def zAG {i:Nat}{x:Str}(hN:X.N.Nodup)(hi:X.N[i]?=some x)(hx:Loc X.env.scope x)(hf:X.fn x=true \/ X.env.scope.names.lookup x=some .local:=by first|exact .inl rfl|exact .inr rfl|assumption):PG X (.Name x pos) (ZFS i):=by
 intro pins s σ H v u Q I r h;exact wpAny_assign_Name (zF6 I hN hi hx r (λs' I'=>#[_,H,I',h]) hf)
def ZdX:TGs:=λvs σ H Q=>vs=[]/\Q σ H
inductive UAp (t:TG)(u:TGs)(vs:List V)(σ:St)(H:Hp)(Q:(St->Hp->Prop)):Prop
 | mk:∀ v r,(vs=v::r)->(t v σ H λσ' H'=>u r σ' H' Q)->UAp t u vs σ H Q
def zFP:PGs X [] ZdX:=by
 intro pins s σ H vs us Q I r h;obtain ⟨e,h⟩:=h;subst e
 cases r
 exact assignInOrder_nil #[σ,H,I,h]
def zBJ {e:Expr}{es:List Expr}{t:TG}{u:TGs}(h1:PG X e t)(h2:PGs X es u)
  (hs:(eAR (e::es) X.env).map (·.2)=assign e X.env::(eAR es X.env).map (·.2):=by rfl):PGs X (e::es) (UAp t u):=by
 intro pins s σ H vs us Q I r h;obtain ⟨v,vr,e1,h⟩:=h;subst e1
 cases r with
 | cons r rr=>
  rw [hs];refine assignInOrder_cons (thn (h1 pins s σ H _ _ _ I r h) λ_ s1 hM=>?_);obtain ⟨σ1,H1,I1,q1⟩:=hM;exact h2 pins s1 σ1 H1 _ _ Q I1 rr q1
inductive gTup (K:Frag)(n:Nat)(t:TGs)(v:V)(σ:St)(H:Hp)(Q:(St->Hp->Prop)):Prop
 | mk:∀ a xs,v=.ref a->SqT K H a xs->xs.length=n->t xs σ H Q->gTup K n t v σ H Q
def zT9 {es:List Expr}{k:Nat}{t:TGs}{n:Nat}(hc:X.calm=true)(h:PGs X es t)
  (hn:(eAR es X.env).length=n:=by rfl) (hst:(eAR es X.env).findIdx? (·.1)=none:=by rfl):PG X (.Tuple es k pos) (gTup X.K n t):=by
 intro pins s σ H v u Q I r hw;obtain ⟨a,xs,e1,hq,hl,hw⟩:=hw;subst e1
 cases r
 obtain ⟨its,rv,ht,hz⟩:=I.tuple hq;refine assign_Tuple_tuple (I.ok.hd hc) ht (by simp [hn,<- hl,rv.length]) hst λh' hx=>?_;have I1:Inv X pins σ H { s with heap:=h' }:=I.kept (t':=s.toks) λb o e=>hx b o (yAo (yAP e)) e;exact h pins _ σ H xs _ Q I1 (by simpa using rv) hw
def ZfD (to ti:TE)(t:zdA):TG:=λv σ H Q=>to σ H λo H1=>ti σ H1 λi H2=>t o i v H2 λH3=>Q σ H3
def zNJ {o i:Expr}{to ti:TE}{t:zdA}(ho:PE X o to)(hi:PE X i ti)(hs:ZeJ X t)
  (ha:∀ v,assign (.Subscript o i pos) X.env v=(do
   let ov <- holding [v] (eval o X.env)
   let iv <- holding [v,ov] (eval i X.env)
   standAt pos
   holding [v,ov,iv] (setItem ov iv v)
   release [v,ov,iv] []):=by intro _;rfl):PG X (.Subscript o i pos) (ZfD to ti t):=by
 intro pins s σ H v u Q I r h;rw [ha];refine yAC (yBa (thn (ho pins s σ H _ I h) λov s1 hM=>?_));obtain ⟨x,H1,I1,r1,q1⟩:=hM;refine yAC (yBa (thn (hi pins s1 σ H1 _ I1 q1) λiv s2 hM=>?_));obtain ⟨y,H2,I2,r2,q2⟩:=hM;refine yAC (yCF (yAC (yBa (thn (hs pins s2 σ H2 x y v ov iv u _ I2 r1 r2 r q2) λ_ s3 hM=>?_))));obtain ⟨H3,I3,q3⟩:=hM;exact wpAny_release #[σ,H3,I3,q3]
def Zd5 (te:TE)(g:TG):TS:=λD σ H=>te σ H λx H1=>g x σ H1 D.nx
def zKP {tg e:Expr}{te:TE}{g:TG}(he:PE X e te)(hg:PG X tg g)(hs:swapsWithSole [tg] e pos.line X.env=pure false:=by rfl)(hw:swappedStores [tg] e X.env=pure none:=by rfl)
  (h1:(eAR [tg] X.env).map (·.2)=[assign tg X.env]:=by rfl):PS X (.Assign [tg] e pos) (Zd5 te g):=by
 intro pins s σ H D I h;refine wpAny_Assign_stores (thn (he pins s σ H _ I h) λv s1 hM=>?_) hs hw;obtain ⟨x,H1,I1,r1,q1⟩:=hM;rw [h1];exact thn (hg pins s1 σ H1 x v _ I1 r1 q1) λ_ s2 q=>q
def zE7 {i:Nat}{x:Str}{e:Expr}{te:TE}{pos':Pos}(hN:X.N.Nodup)(hi:X.N[i]?=some x)(hx:Loc X.env.scope x)(he:PE X e te)(hs:swapsWith e (some (.Name x pos')) pos.line X.env=pure false:=by rfl)(hf:X.fn x=true \/ X.env.scope.names.lookup x=some .local:=by first|exact .inl rfl|exact .inr rfl|assumption) :
  PS X (.Assign [.Name x pos'] e pos) (Zd5 te (ZFS i)):=by
 intro pins s σ H D I h;refine wpAny_Assign_Name (thn (he pins s σ H _ I h) λv s1 hM=>?_) hs;obtain ⟨y,H1,I1,r1,q1⟩:=hM;exact zF6 I1 hN hi hx r1 (λs2 I2=>#[_,H1,I2,q1]) hf
def Zf4 (i:Nat)(te:TE)(ti:TIp):TS:=λD σ H=>∃ x,σ[i]?=some (some x)/\te σ H λy H1=>ti x y H1 λz H2=>D.nx (σ.set i (some z)) H2
def zT4 {i:Nat}{x:Str}{e:Expr}{te:TE}{op:Operator}{ti:TIp}{pos':Pos}(hN:X.N.Nodup)(hi:X.N[i]?=some x)(hx:Loc X.env.scope x)(he:PE X e te)(ho:PIp X op ti)(hf:X.fn x=true \/ X.env.scope.names.lookup x=some .local:=by first|exact .inl rfl|exact .inr rfl|assumption) :
  PS X (.AugAssign (.Name x pos') op e pos) (Zf4 i te ti):=by
 intro pins s σ H D I h;obtain ⟨v,e1,h⟩:=h;obtain ⟨m,hn,hl⟩:=I.loc;have vis:Vis X.env.scope x:=by rcases hx with k|k;exact .inl k;exact .inr (.inl k)
 obtain ⟨u,r,l⟩:=hl i x v hi e1 vis;refine wpAny_AugAssign_Name ?_
 have go:kM (eval e X.env) (λw s₂=>kM (inplaceOp op u w) (λr s₃=>kM (storeName X.env x r) (λ_=>SP X pins D .next) X.xe s₃) X.xe s₂) X.xe s:=by
  refine thn (he pins s σ H _ I h) λw s1 hM=>?_;obtain ⟨y,H1,I1,r1,q1⟩:=hM;refine thn (ho pins s1 σ H1 v y u w _ I1 r r1 q1) λz s2 hM=>?_;obtain ⟨zv,H2,I2,r2,q2⟩:=hM;exact zF6 I2 hN hi hx r2 (λs3 I3=>#[_,H2,I3,q2]) hf
 rcases l with ⟨hk,hm⟩|⟨hk,c,hc,hcell⟩
 ·exact wpAny_loadName_local I.ok.kind hk hn hm go
 ·rcases hk with hk|hk
  ·exact wpAny_loadName_cell I.ok.kind hk hc hcell go
  ·rcases hx with k|k
   ·have:X.env.scope.names.lookup x=some .free:=hk
    rw [k] at this;cases this
   ·have:X.env.scope.names.lookup x=some .free:=hk
    rw [k] at this;cases this
def ipI (f:Int->Int->Int):TIp:=λx y H Q=>∃ i j,x=.int i/\y=.int j/\Q (.int (f i j)) H
def zSR:PIp X .Add (ipI λi j=>i+j):=by
 intro pins s σ H x y v u Q I r1 r2 h;obtain ⟨i,j,e1,e2,q⟩:=h;subst e1;subst e2;obtain ⟨t,rfl⟩:=r1;obtain ⟨t',rfl⟩:=r2;exact iadd_int #[.int _,H,I.tok _,#[_,rfl],q]
end
section
variable {X:Cx}{pos:Pos}
def ZbQ (c:TT)(tb:TS):TS:=λD σ H=>∃ W:Nat->St->Hp->Prop,(∃ m,W m σ H)/\∀ m σ H,W m σ H ->
 c σ H λb H1=>if b=true then ∃ N:St->Hp->Prop,(∀ σ' H',N σ' H'->∃ m',m'<m/\W m' σ' H')/\tb { D with nx:=N,ct:=N,bk:=D.nx } σ H1 else D.nx σ H1
def zN6 {c:Expr}{body:List Stmt}{tc:TT}{tb:TS}(hp:PassesOwn (model X.prog X.w) X.A X.env X.xe)(hc:PT X c tc)(hb:PSs X body tb):PS X (.While c body [] pos) (ZbQ tc tb):=by
 intro pins s σ H D I h;obtain ⟨W,⟨m0,w0⟩,turn⟩:=h;refine wpAny_While (codeAny_whileLoop (λn s'=>∃ σ' H',Inv X pins σ' H' s'/\W n σ' H') ?_ m0 #[σ,H,I,w0])
 rintro n s1 ⟨σ1,H1,I1,w1⟩
 refine yCk hp (thn (hc pins s1 σ1 H1 _ I1 (turn n σ1 H1 w1)) λb s2 hM=>?_);obtain ⟨H2,I2,q2⟩:=hM
 cases b with
 | true=>
  obtain ⟨N,hN,q2⟩:=q2;rw [yAS rfl];refine yCk hp (thn (hb pins s2 σ1 H2 _ I2 q2) λf s3 q3=>?_)
  cases f with
  | next=>
   obtain ⟨σ3,H3,I3,n3⟩:=q3;obtain ⟨m',hm,w3⟩:=hN σ3 H3 n3;exact#[m',hm,σ3,H3,I3,w3]
  | cont=>
   obtain ⟨σ3,H3,I3,n3⟩:=q3;obtain ⟨m',hm,w3⟩:=hN σ3 H3 n3;exact#[m',hm,σ3,H3,I3,w3]
  | brk=>exact q3
  | ret v=>exact q3
 | false=>
  rw [yAT yAg];exact yDd #[σ1,H2,I2,q2]
end
structure It where
 go:Nat->Hp->Prop
 yld:Nat->Hp->V->Hp->Prop
 stop:Nat->Hp->Prop
def ZHO (X:Cx)(pins:kA)(H:Hp)(b:Addr):Prop:=
 H b=none/\b≠X.env.locals/\b∉X.fs/\(b∈X.ex \/ X.s₀.heap.objs.size<=b)/\(∀ x c,X.env.cells.lookup x=some c->c≠b)/\∀ p∈X.pn++pins,p.1≠b
theorem Inv.fpOk {X:Cx}{pins:kA}{σ:St}{H H':Hp}{s:Shared}{b:Addr}(I:Inv X pins σ H s)(hb:(kZ s)<=b)(hn:H' b=none):ZHO X pins H' b:=by
 refine#[hn,yBf (yAj I.lt hb),I.nofs hb,.inr (yAp I.sz hb),λx c e z=>?_,λp hp z=>?_]
 ·obtain ⟨v,q⟩:=I.cell x c e
  exact absurd (yAj q.lt (by rw [z];exact hb)) (yBk _)
 ·exact absurd (yAj (yAP (I.pin p hp).1) (by rw [z];exact hb)) (yBk _)
structure Turn (P:eAD)(w:World)(K:Frag)(tg:Expr)(J:It)(fp:List Addr)(it:Addr)(tn:Nat->Heap->Prop):Prop where
 mem:it∈fp
 obj:∀ i h,tn i h->∀ b∈fp,∃ o,h.get? b=some o/\∀ v,o.data≠.cell v
 keep:∀ i h h',tn i h->(∀ b∈fp,∀ o,h.get? b=some o->h'.get? b=some o)->tn i h'
 item:∀ (X:Cx),X.prog=P->X.w=w->X.K=K->X.calm=true->∀ (i:Nat) (pins:kA) (s:Shared) (σ:St) (H:Hp) (E:kW),Inv X pins σ H s->(∀ b∈fp,ZHO X pins H b)->tn i s.heap->J.go i H ->
  wpAny (model P w) X.A (pyNext (.ref it)) (λr s1=>∃ u,r=some u /\
   wpAny (model P w) X.A (letOwnedTupleGo tg (.ref it) u) (λ_ s2=>∃ x H',Inv X pins σ H' s2/\RelV x u/\J.yld i H x H'/\tn (i+1) s2.heap/\∀ b∈fp,H' b=none) E s1) E s
 done:∀ (X:Cx),X.prog=P->X.w=w->X.K=K->X.calm=true->∀ (i:Nat) (pins:kA) (s:Shared) (σ:St) (H:Hp) (E:kW),Inv X pins σ H s->(∀ b∈fp,ZHO X pins H b)->tn i s.heap->J.stop i H ->
  wpAny (model P w) X.A (pyNext (.ref it)) (λr s1=>r=none/\Inv X pins σ H s1) E s
 self:∀ (A:eAK) (i:Nat) (s:Shared) (Q:kW) (E:kW),tn i s.heap->Q (.ref it) s->wpAny (model P w) A (pyIter (.ref it)) Q E s
abbrev TI:=St->Hp->(It->Hp->Prop)->Prop
def PIE (X:Cx)(pins:kA)(σ:St)(tg:Expr)(R:It->Hp->Prop)(itv:Value)(s2:Shared):Prop:=
 ∃ (it:Addr) (fp:List Addr) (tn:Nat->Heap->Prop) (J:It) (H':Hp),itv=.ref it/\Inv X pins σ H' s2/\Turn X.prog X.w X.K tg J fp it tn/\tn 0 s2.heap/\(∀ b∈fp,ZHO X pins H' b)/\R J H'
def PI (X:Cx)(tg iter:Expr)(wi:TI):Prop:=
 ∀ (pins:kA) (s:Shared) (σ:St) (H:Hp) (R:It->Hp->Prop),Inv X pins σ H s->wi σ H R ->
  kM (eval iter X.env) (λv s1=>kM (pyIter v) (PIE X pins σ tg R) X.xe s1) X.xe s
def zY3 {M:Model}{A:eAK}{E:kW}{s:Shared}{tg:Expr}{it:Addr}{u:Value}{o:Obj}{n:String}{vs:Array Value}{Q:Unit->Shared->Prop}(ho:s.heap.get? it=some o)(hc:o.cls=.type n)(hd:o.data=.fields vs)
  (hn:["enumerate","zip","dict_itemiterator","dict_reverseitemiterator","odict_iterator","itertools.zip_longest","itertools.pairwise"].contains n=false) (hQ:Q () s):wpAny M A (letOwnedTupleGo tg (.ref it) u) Q E s:=by
 unfold letOwnedTupleGo
 cases tg<;>first
  | exact yAO hQ
  | (cases u<;>first
    | exact yAO hQ
    | (refine yAC (wpAny_load ho ?_)
       rw [hc,hd];show wpAny M A (if (["enumerate","zip","dict_itemiterator","dict_reverseitemiterator","odict_iterator","itertools.zip_longest","itertools.pairwise"].contains n&&vs[0]?==some (rawInt _))=true then _ else _) Q E s;rw [yAT (by intro h;rw [hn,yBu] at h;cases h)];exact yAO hQ))
def Itl (K:Frag)(a:Addr):It:=
 #[λi H=>∃ xs x,SqL K H a xs/\xs[i]?=some x,λi H x H'=>H'=H/\∀ xs,SqL K H a xs->xs[i]?=some x,λi H=>∃ xs,SqL K H a xs/\xs.length<=i]
def Itt (K:Frag)(a:Addr):It:=
 #[λi H=>∃ xs x,SqT K H a xs/\xs[i]?=some x,λi H x H'=>H'=H/\∀ xs,SqT K H a xs->xs[i]?=some x,λi H=>∃ xs,SqT K H a xs/\xs.length<=i]
def Itr (lo:Int)(n:Nat):It:=#[λi _=>i<n,λi H x H'=>H'=H/\x=.int (lo+i),λi _=>n<=i]
def zKR {P:eAD}{w:World}{K:Frag}{tg:Expr}(a it:Addr):Turn P w K tg (Itl K a) [it] it (λi h=>h.IsListIter it a i) where
 mem:=by simp
 obj:=λi h st b hb=>by
  have e:b=it:=by simpa using hb
  subst e;obtain ⟨o,e,c,d⟩:=st;exact#[o,e,λv z=>by rw [d] at z;cases z]
 keep:=λi h h' st k=>st.at λo e=>k it (by simp) o e
 item:=by
  intro X hP hw hK hc i pins s σ H E I hf st hg;subst hP hw hK;obtain ⟨xs,x,hq,hx⟩:=hg;obtain ⟨its,rv,p,hz⟩:=I.list hq;obtain ⟨u,hu,ru⟩:=rv.get hx;obtain ⟨f0,f1,f2,f3,f4,f5⟩:=hf it (by simp);refine wpAny_pyNext_list_item st p.isList (x:=u) (by simpa using hu) λh' st' sb=>?_;have I1:Inv X pins σ H { s with heap:=h' }:=I.turned (t':=s.toks) (λb o hb e=>(sb.2 b hb).trans e) f0 f1 f3 f4 f5;obtain ⟨o,e,c,d⟩:=id st';exact#[u,rfl,zY3 (s:={ s with heap:=h' }) e c d dQ #[x,H,I1,ru,#[rfl,λys hy=>by rw [I.list_inj hy hq];exact hx],st',λb hb=>(hf b hb).1]]
 done:=by
  intro X hP hw hK hc i pins s σ H E I hf st hg;subst hP hw hK;obtain ⟨xs,hq,hx⟩:=hg;obtain ⟨its,rv,p,hz⟩:=I.list hq;obtain ⟨f0,f1,f2,f3,f4,f5⟩:=hf it (by simp);have hl:=rv.length;exact wpAny_pyNext_list_end (I.ok.hd hc) st p.isList (by simp;lia) λh' eb=>#[rfl,I.turned (t':=s.toks) (λb o hb e=>eb b o hb e) f0 f1 f3 f4 f5]
 self:=λ_ _ _ _ _ st h=>wpAny_pyIter_listiter st h
def zPD {P:eAD}{w:World}{K:Frag}{tg:Expr}(a it:Addr):Turn P w K tg (Itt K a) [it] it (λi h=>h.IsTupleIter it a i) where
 mem:=by simp
 obj:=λi h st b hb=>by
  have e:b=it:=by simpa using hb
  subst e;obtain ⟨o,e,c,d⟩:=st;exact#[o,e,λv z=>by rw [d] at z;cases z]
 keep:=λi h h' st k=>st.at λo e=>k it (by simp) o e
 item:=by
  intro X hP hw hK hc i pins s σ H E I hf st hg;subst hP hw hK;obtain ⟨xs,x,hq,hx⟩:=hg;obtain ⟨its,rv,p,hz⟩:=I.tuple hq;obtain ⟨u,hu,ru⟩:=rv.get hx;obtain ⟨f0,f1,f2,f3,f4,f5⟩:=hf it (by simp);refine wpAny_pyNext_tuple_item st (show s.heap.IsTuple a its.toArray from p) (x:=u) (by simpa using hu) λh' st' sb=>?_;have I1:Inv X pins σ H { s with heap:=h' }:=I.turned (t':=s.toks) (λb o hb e=>(sb.2 b hb).trans e) f0 f1 f3 f4 f5;obtain ⟨o,e,c,d⟩:=id st';exact#[u,rfl,zY3 (s:={ s with heap:=h' }) e c d dQ #[x,H,I1,ru,#[rfl,λys hy=>by rw [I.tuple_inj hy hq];exact hx],st',λb hb=>(hf b hb).1]]
 done:=by
  intro X hP hw hK hc i pins s σ H E I hf st hg;subst hP hw hK;obtain ⟨xs,hq,hx⟩:=hg;obtain ⟨its,rv,p,hz⟩:=I.tuple hq;obtain ⟨f0,f1,f2,f3,f4,f5⟩:=hf it (by simp);have hl:=rv.length;exact wpAny_pyNext_tuple_end (I.ok.hd hc) st (show s.heap.IsTuple a its.toArray from p) (by simp;lia) λh' eb=>#[rfl,I.turned (t':=s.toks) (λb o hb e=>eb b o hb e) f0 f1 f3 f4 f5]
 self:=λ_ _ _ _ _ st h=>wpAny_pyIter_tupleiter st h
def zOG {P:eAD}{w:World}{K:Frag}{tg:Expr}(it:Addr)(lo:Int)(n:Nat):Turn P w K tg (Itr lo n) [it] it (λi h=>IsRangeIter h it (lo+(i:Nat)*1) ((n:Int)-(i:Nat)) 1) where
 mem:=by simp
 obj:=λi h st b hb=>by
  have e:b=it:=by simpa using hb
  subst e
  exact#[_,st,λv z=>by
   have z':Data.fields _=Data.cell v:=z
   cases z']
 keep:=λi h h' st k=>k it (by simp) _ st
 item:=by
  intro X hP hw hK hc i pins s σ H E I hf st hg;subst hP hw hK;obtain ⟨f0,f1,f2,f3,f4,f5⟩:=hf it (by simp);have W:=Walks.range (prog:=X.prog) (w:=X.w) (I.ok.hd hc) it lo 1 n;refine W.item i s _ _ hg st λv h' tk hv st' kk=>?_;obtain ⟨t,rfl⟩:=hv;have I1:Inv X pins σ H { s with heap:=h',toks:=tk }:=I.turned (λb o hb e=>kk b o (by simpa using hb) e) f0 f1 f3 f4 f5;refine#[_,rfl,zY3 (s:={ s with heap:=h',toks:=tk }) (n:="range_iterator") st' rfl rfl dQ #[.int (lo+i),H,I1,#[t,?_],#[rfl,rfl],st',λb hb=>(hf b hb).1]];rw [Int.mul_one]
 done:=by
  intro X hP hw hK hc i pins s σ H E I hf st hg;subst hP hw hK;obtain ⟨f0,f1,f2,f3,f4,f5⟩:=hf it (by simp);exact wpAny_pyNext_range_end (I.ok.hd hc) st (by have:n<=i:=hg;lia) λh' eb=>#[rfl,I.turned (t':=s.toks) (λb o hb e=>eb b o hb e) f0 f1 f3 f4 f5]
 self:=λ_ _ _ _ _ st h=>wpAny_pyIter_rangeiter st h
section
variable {X:Cx}{tg:Expr}
def ZdY (K:Frag)(tl:TE):TI:=λσ H R=>tl σ H λx H1=>∃ a,x=.ref a/\(∃ xs,SqL K H1 a xs)/\R (Itl K a) H1
def za3 {l:Expr}{tl:TE}(hl:PE X l tl):PI X tg l (ZdY X.K tl):=by
 intro pins s σ H R I h;refine thn (hl pins s σ H _ I h) λv s1 hM=>?_;obtain ⟨x,H1,I1,r1,q1⟩:=hM;obtain ⟨a,e,⟨xs,hq⟩,q⟩:=q1;subst e
 cases r1
 obtain ⟨its,rv,p,hz⟩:=I1.list hq;refine yCr p.isList ?_;refine#[(kZ s1),[(kZ s1)],_,_,H1,rfl,I1.kept (t':=s1.toks) λb o e=>yAD _ e,zKR a _,#[_,yAc _ rfl,rfl,rfl],λb hb=>?_,q];have e:b=(kZ s1):=by simpa using hb
 subst e;exact I1.fpOk (yAF _) (I1.hok.fresh (yAF _))
def zVR {pins:kA}{σ:St}{H:Hp}{s:Shared}{R:It->Hp->Prop}{E:kW}{lo hi:Int}{t u v:Tok}{tk:Nat}(I:Inv X pins σ H s)(h1:-(2^62)<=lo)(h2:lo<2^62)(h3:-(2^62)<=hi)(h4:hi<2^62)
  (q:R (Itr lo (hi-lo).toNat) H):kM (pyIter (.ref (kZ s))) (PIE X pins σ tg R) E { s with heap:=s.heap.push { cls:=.type "range",data:=.fields (List.toArray [.int lo t,.int hi u,.int 1 v]) },toks:=tk }:=by
 refine wpAny_pyIter_range (IsRange.new ..) (small_one h1 h2 h3 h4) ?_;have I1:Inv X pins σ H { s with heap:=s.heap.push { cls:=.type "range",data:=.fields (List.toArray [.int lo t,.int hi u,.int 1 v]) },toks:=tk }:=I.kept λb o e=>yAD _ e
 refine#[(s.heap.push { cls:=.type "range",data:=.fields (List.toArray [.int lo t,.int hi u,.int 1 v]) }).objs.size,[(s.heap.push { cls:=.type "range",data:=.fields (List.toArray [.int lo t,.int hi u,.int 1 v]) }).objs.size],_,_,H,rfl,
  I1.kept (t':=tk) λb o e=>yAD _ e,zOG _ lo (hi-lo).toNat,?_,λb hb=>?_,q]
 ·have e1:lo+((0:Nat):Int)*1=lo:=by simp
  have e2:(((hi-lo).toNat:Nat):Int)-((0:Nat):Int)=Builtin.Range.rangeSize lo hi 1:=by rw [rangeSize_one];split<;>lia
  show IsRangeIter _ _ (lo+((0:Nat):Int)*1) ((((hi-lo).toNat:Nat):Int)-((0:Nat):Int)) 1;rw [e1,e2];exact yAc _ rfl
 ·have e:b=(s.heap.push { cls:=.type "range",data:=.fields (List.toArray [.int lo t,.int hi u,.int 1 v]) }).objs.size:=by simpa using hb
  subst e;exact I1.fpOk (yAF _) (I1.hok.fresh (yAF _))
def ZbF (ta:TA):TI:=λσ H R=>ta σ H λvs H1=>∃ j:Int,vs=[.int j] /\ -(2^62)<=j/\j<2^62/\R (Itr 0 j.toNat) H1
def zBG {a:Expr}{ta:TA}{p pos:Pos}(hg:Gl X "range")(hm:X.mg "range"=none)(ha:PA X [a] ta)(hs:eAO [a] X.env=[(false,eval a X.env)]:=by rfl):PI X tg (.Call (.Name "range" p) [a] [] pos) (ZbF ta):=by
 intro pins s σ H R I h;refine Call_ (zEV I hg hm boot_range (yCl (thn (ha pos pins s σ H _ I h) λus s1 hM=>?_) hs rfl));obtain ⟨vs,H1,I1,r1,q1⟩:=hM;obtain ⟨j,e,q1,q2,q⟩:=q1;subst e
 cases r1 with
 | cons r rr=>
  cases rr
  obtain ⟨t,rfl⟩:=r;exact call_range_1 (zVR I1 oz oz q1 q2 (by simpa using q))
def ZaL (wi:TI)(g:TG)(tb:TS):TS:=λD σ H=>wi σ H λJ H1=>∃ W:Nat->Nat->St->Hp->Prop,(∃ m,W 0 m σ H1)/\∀ i m σ H,W i m σ H ->
 (J.stop i H/\D.nx σ H) \/ (J.go i H/\∃ N:St->Hp->Prop,(∀ σ' H',N σ' H'->∃ m',m'<m/\W (i+1) m' σ' H')/\∀ x H',J.yld i H x H'->g x σ H' λσ2 H2=>tb { D with nx:=N,ct:=N,bk:=D.nx } σ2 H2)
def ZKC (fp:List Addr)(h:Heap):kA:=fp.filterMap λb=>(h.get? b).map λo=>(b,o)
def zDZ {fp:List Addr}{h:Heap}{b:Addr}{o:Obj}(hb:b∈fp)(e:h.get? b=some o):(b,o)∈ZKC fp h:=List.mem_filterMap.mpr #[b,hb,by rw [e];rfl]
def zPL {fp:List Addr}{h:Heap}{p:Addr×Obj}(hp:p∈ZKC fp h):p.1∈fp/\h.get? p.1=some p.2:=by
 obtain ⟨b,hb,e⟩:=List.mem_filterMap.mp hp
 cases q:h.get? b with
 | none=>rw [q] at e;cases e
 | some o=>
  rw [q] at e;have e':(b,o)=p:=eAH e;subst e';exact#[hb,q]
theorem Inv.pinned {pins:kA}{σ:St}{H:Hp}{s:Shared}{fp:List Addr}(I:Inv X pins σ H s)(hf:∀ b∈fp,ZHO X pins H b)(ho:∀ b∈fp,∃ o,s.heap.get? b=some o/\∀ v,o.data≠.cell v):Inv X (pins++ZKC fp s.heap) σ H s:=
 I.pins_of λp hp=>(yAb.mp hp).elim (λz=>I.pin p (yAY _ z)) λz=>by
  obtain ⟨hb,e⟩:=zPL z;obtain ⟨f0,f1,f2,_⟩:=hf p.1 hb;obtain ⟨o,e',d⟩:=ho p.1 hb;rw [e] at e';cases e';exact#[e,f0,f1,f2,d]
theorem Inv.unpinned {pins pl:kA}{σ:St}{H:Hp}{s:Shared}(I:Inv X (pins++pl) σ H s):Inv X pins σ H s:=I.pins_of λp hp=>I.pin p (yAY _ (yBy _ hp))
def zBK {iter:Expr}{body:List Stmt}{wi:TI}{g:TG}{tb:TS}{pos:Pos}(hp:PassesOwn (model X.prog X.w) X.A X.env X.xe)(hc:X.calm=true)(hi:PI X tg iter wi)(hg:PG X tg g)(hb:PSs X body tb)
  (hs:∀ x,foldedSetIterable iter X.env x=pure x:=by intro _;rfl):PS X (.For tg iter body [] pos) (ZaL wi g tb):=by
 intro pins s σ H D I h;refine wpAny_For (thn (hi pins s σ H _ I h) λv s1 h1=>thn h1 λitv s2 h2=>?_) hs;obtain ⟨it,fp,tn,J,H2,e,I2,T,st2,f2,W,⟨m0,w0⟩,turn⟩:=h2;subst e;have stat:∀ {H':Hp},(∀ b∈fp,H' b=none)->∀ b∈fp,ZHO X pins H' b:=λhn b hb=>#[hn b hb,(f2 b hb).2];refine codeAny_forLoop_any (λn s'=>∃ i σ' H',Inv X pins σ' H' s'/\tn i s'.heap/\(∀ b∈fp,H' b=none)/\W i n σ' H') ?_ m0 #[0,σ,H2,I2,st2,λb hb=>(f2 b hb).1,w0]
 rintro n s3 ⟨i,σ3,H3,I3,st3,fr3,w3⟩
 rcases turn i n σ3 H3 w3 with ⟨stop,qn⟩|⟨go,N,hN,step⟩
 ·refine yCk hp (thn (T.done X rfl rfl rfl hc i pins s3 σ3 H3 X.xe I3 (stat fr3) st3 stop) λr s4 hM=>?_)
  obtain ⟨hr,I4⟩:=hM;subst hr;exact yDd #[σ3,H3,I4,qn]
 ·refine yCk hp (thn (T.item X rfl rfl rfl hc i pins s3 σ3 H3 X.xe I3 (stat fr3) st3 go) λr s4 hM=>?_)
  obtain ⟨u,hr,h4⟩:=hM;subst hr;refine yCk hp (thn h4 λ_ s5 hM=>?_);obtain ⟨x,H5,I5,r5,y5,st5,fr5⟩:=hM;have I5':=I5.pinned (stat fr5) (T.obj _ _ st5);refine yCk hp (thn (hg _ s5 σ3 H5 x u _ I5' r5 (step x H5 y5)) λ_ s6 hM=>?_);obtain ⟨σ6,H6,I6,q6⟩:=hM;refine yCk hp (thn (hb _ s6 σ6 H6 _ I6 q6) λf s7 q7=>?_)
  have again:∀ {σ7:St} {H7:Hp},Inv X (pins++ZKC fp s5.heap) σ7 H7 s7->N σ7 H7->∃ m,m<n/\∃ i σ' H',Inv X pins σ' H' s7/\tn i s7.heap/\(∀ b∈fp,H' b=none)/\W i m σ' H':=λ{σ7 H7} I7 n7=>by
   obtain ⟨m',hm,w7⟩:=hN σ7 H7 n7;refine#[m',hm,i+1,σ7,H7,I7.unpinned,T.keep _ _ _ st5 λb hb o e=>(I7.pin (b,o) (yAY _ (yAY _ (zDZ hb e)))).1,λb hb=>?_,w7];obtain ⟨o,e,d⟩:=T.obj _ _ st5 b hb;exact (I7.pin (b,o) (yAY _ (yAY _ (zDZ hb e)))).2.1
  cases f with
  | next=>obtain ⟨σ7,H7,I7,n7⟩:=q7;exact again I7 n7
  | cont=>obtain ⟨σ7,H7,I7,n7⟩:=q7;exact again I7 n7
  | brk=>obtain ⟨σ7,H7,I7,q7⟩:=q7;exact#[σ7,H7,I7.unpinned,q7]
  | ret v=>obtain ⟨x7,σ7,H7,I7,r7,q7⟩:=q7;exact#[x7,σ7,H7,I7.unpinned,r7,q7]
end
def zCD {lo:Int}{n:Nat}{g:TG}{tb:TS}{D:Ends}{σ:St}{H:Hp}(Pv:Nat->St->Hp->Prop)(h0:Pv 0 σ H)
  (hs:∀ i σ H,i<n->Pv i σ H->g (.int (lo+i)) σ H λσ2 H2=>tb { D with nx:=Pv (i+1),ct:=Pv (i+1),bk:=D.nx } σ2 H2) (hd:∀ σ H,Pv n σ H->D.nx σ H) :
  ∃ W:Nat->Nat->St->Hp->Prop,(∃ m,W 0 m σ H)/\∀ i m σ H,W i m σ H ->
   ((Itr lo n).stop i H/\D.nx σ H) \/ ((Itr lo n).go i H/\∃ N:St->Hp->Prop,(∀ σ' H',N σ' H'->∃ m',m'<m/\W (i+1) m' σ' H')/\∀ x H',(Itr lo n).yld i H x H'->g x σ H' λσ2 H2=>tb { D with nx:=N,ct:=N,bk:=D.nx } σ2 H2):=by
 refine#[λi m σ H=>m=n-i/\i<=n/\Pv i σ H,#[n,by simp,yBN _,h0],?_]
 rintro i m σ H ⟨rfl,hi,p⟩
 by_cases hlt:i<n
 ·refine .inr #[hlt,Pv (i+1),λσ' H' p'=>#[n-(i+1),oz,rfl,hlt,p'],λx H' y=>?_]
  obtain ⟨e,y⟩:=y;subst e y;exact hs i σ _ hlt p
 ·have e:i=n:=by lia
  subst e;exact .inl #[yAF _,hd σ H p]
abbrev R2:=V->V->Hp->VK->Prop
def OpR (X:Cx)(f:Value->Value->Sem Value)(r:R2):Prop:=
 ∀ (pins:kA) (s:Shared) (σ:St) (H:Hp) (x y:V) (v u:Value) (Q:VK),Inv X pins σ H s->RelV x v->RelV y u->r x y H Q ->
  kM (f v u) (EP X pins σ Q) X.xe s
def UnR (X:Cx)(f:Value->Sem Value)(r:V->Hp->VK->Prop):Prop:=
 ∀ (pins:kA) (s:Shared) (σ:St) (H:Hp) (x:V) (v:Value) (Q:VK),Inv X pins σ H s->RelV x v->r x H Q ->
  kM (f v) (EP X pins σ Q) X.xe s
def ZDK (X:Cx)(f:Value)(r:List V->Hp->VK->Prop):Prop:=
 ∀ (pins:kA) (s:Shared) (σ:St) (H:Hp) (xs:List V) (us:List Value) (Q:VK),Inv X pins σ H s->Vals xs us->r xs H Q ->
  kM (call f us) (EP X pins σ Q) X.xe s
def ZeX (X:Cx)(r:V->Hp->(Bool->Hp->Prop)->Prop):Prop:=
 ∀ (pins:kA) (s:Shared) (σ:St) (H:Hp) (x:V) (v:Value) (Q:Bool->Hp->Prop),Inv X pins σ H s->RelV x v->r x H Q ->
  kM (truthy v) (TP X pins σ Q) X.xe s
def tOp (r:R2)(ta tb:TE):TE:=λσ H Q=>ta σ H λx H1=>tb σ H1 λy H2=>r x y H2 Q
def tUn (r:V->Hp->VK->Prop)(ta:TE):TE:=λσ H Q=>ta σ H λx H1=>r x H1 Q
def KA0 (C:Int->Int->Prop)(g:Int->Int->V):=∀ i j,x=.int i->y=.int j->C i j->Q (g i j) H->KA0 C g x y H Q
def KA1 (g:Int->Int->V):=∀ i j,x=.int i->y=.int j->Q (g i j) H->KA1 g x y H Q
inductive rU (g:Int->V)(x:V)(H:Hp)(Q:VK):Prop
 | mk:∀ i,x=.int i->Q (g i) H->rU g x H Q
section
variable {X:Cx}{a b c:Expr}{ta tb tc:TE}{pos:Pos}
def zdI (ha:PE X a ta)(hb:PE X b tb){pins:kA}{s:Shared}{σ:St}{H:Hp}{R:V->V->Hp->Prop}(I:Inv X pins σ H s)
  (h:ta σ H λx H1=>tb σ H1 λy H2=>R x y H2) {Q:kW} {f:Value->Value->Sem Value}
  (hf:∀ v u s2 x y H2,Inv X pins σ H2 s2->RelV x v->RelV y u->R x y H2->kM (f v u) Q X.xe s2) :
  kM (eval a X.env) (λv s₁=>kM (eval b X.env) (λu s₂=>kM (f v u) Q X.xe s₂) X.xe s₁) X.xe s:=by
 refine thn (ha pins s σ H _ I h) λv s1 hM=>?_;obtain ⟨x,H1,I1,r1,q1⟩:=hM;refine thn (hb pins s1 σ H1 _ I1 q1) λu s2 hM=>?_;obtain ⟨y,H2,I2,r2,q2⟩:=hM;exact hf v u s2 x y H2 I2 r1 r2 q2
def zAC {op:Operator}{r:R2}(ho:OpR X (eAS op) r)(ha:PE X a ta)(hb:PE X b tb):PE X (.BinOp a op b pos) (tOp r ta tb):=by
 intro pins s σ H Q I h;exact wpAny_BinOp (zdI ha hb I h λv u s2 x y H2 I2 rx ry q=>ho pins s2 σ H2 x y v u Q I2 rx ry q)
def ze6 {op:UnaryOp}{r:V->Hp->VK->Prop}(ho:UnR X (unaryOp op) r)(ha:PE X a ta):PE X (.UnaryOp op a pos) (tUn r ta):=by
 intro pins s σ H Q I h;refine UnaryOp_ (thn (ha pins s σ H _ I h) λv s1 hM=>?_);obtain ⟨x,H1,I1,r1,q1⟩:=hM;exact ho pins s1 σ H1 x v Q I1 r1 q1
theorem opI {f:Value->Value->Sem Value}{C:Int->Int->Prop}{g:Int->Int->Int}
  (rule:∀ (i j:Int) (t u:Tok) (s:Shared) (Q:kW) (E:kW),C i j->Q (.int (g i j) s.toks) { s with toks:=s.toks+1 }->kM (f (.int i t) (.int j u)) Q E s) :
  OpR X f (KA0 C λi j=>.int (g i j)):=by
 intro pins s σ H x y v u Q I rx ry h;obtain ⟨i,j,rfl,rfl,hc,q⟩:=h;obtain ⟨t,rfl⟩:=rx;obtain ⟨t',rfl⟩:=ry;exact rule i j t t' s _ _ hc #[.int (g i j),H,I.tok _,#[_,rfl],q]
def zd4 {f:Value->Value->Sem Value}{g:Int->Int->Int}
  (rule:∀ (i j:Int) (t u:Tok) (s:Shared) (Q:kW) (E:kW),Q (.int (g i j) s.toks) { s with toks:=s.toks+1 }->kM (f (.int i t) (.int j u)) Q E s) :
  OpR X f (KA1 λi j=>.int (g i j)):=by
 intro pins s σ H x y v u Q I rx ry h;obtain ⟨i,j,rfl,rfl,q⟩:=h;obtain ⟨t,rfl⟩:=rx;obtain ⟨t',rfl⟩:=ry;exact rule i j t t' s _ _ #[.int (g i j),H,I.tok _,#[_,rfl],q]
def zdQ {f:Value->Value->Sem Value}{g:Int->Int->Bool}
  (rule:∀ (i j:Int) (t u:Tok) (s:Shared) (Q:kW) (E:kW),Q (.bool (g i j)) s->kM (f (.int i t) (.int j u)) Q E s) :
  OpR X f (KA1 λi j=>.bl (g i j)):=by
 intro pins s σ H x y v u Q I rx ry h;obtain ⟨i,j,rfl,rfl,q⟩:=h;obtain ⟨t,rfl⟩:=rx;obtain ⟨t',rfl⟩:=ry;exact rule i j t t' s _ _ #[.bl (g i j),H,I,rfl,q]
def ZeG (i j:Int):Prop:=0<j/\j<1073741824
def ZXA (i j:Int):Prop:=0<=j/\j<=1000000/\i.natAbs<2^64
def CMul (i j:Int):Prop:=(-(2^64)<i/\i<2^64) \/ (-(2^64)<j/\j<2^64)
theorem CMul.ok {i j:Int}(h:CMul i j):IntMulOk i j:=by
 rcases h with ⟨h1,h2⟩|⟨h1,h2⟩
 ·exact .of_left (intBits_le_64 h1 h2)
 ·exact .of_right (intBits_le_64 h1 h2)
def zOE (k:Nat):(0:Int)<=2^k:=by
 rw [two_pow_cast];exact yBw _
def zCU:OpR X (eAS .Add) (KA1 λi j=>.int (i+j)):=zd4 λ_ _ _ _ _ _ _ q=>add_int q
def zKB:OpR X (eAS .Sub) (KA1 λi j=>.int (i-j)):=zd4 λ_ _ _ _ _ _ _ q=>sub_int q
def zI0:OpR X (eAS .Mult) (KA0 CMul λi j=>.int (i*j)):=opI λ_ _ _ _ _ _ _ hc q=>mul_int q hc.ok
def zS0:OpR X (eAS .FloorDiv) (KA0 ZeG λi j=>.int (i / j)):=opI λi j _ _ _ _ _ hc q=>by
 have h1:(0:Int)<j:=hc.1;have h2:j<1073741824:=hc.2;exact floordiv_int oz (by rw [Int.fdiv_eq_ediv_of_nonneg i oz];exact q) (.inl (PyProof.noPylong_small oz))
def zI4:OpR X (eAS .Mod) (KA0 (λ_ j=>0<j) λi j=>.int (i % j)):=opI λi j _ _ _ _ _ hc q=>by
 have h1:(0:Int)<j:=hc;exact mod_int' oz (by rw [Int.fmod_eq_emod_of_nonneg i oz];exact q)
def zc0:OpR X (eAS .Pow) (KA0 ZXA λi j=>.int (i^j.toNat)):=opI λ_ _ _ _ _ _ _ hc q=>pow_int_small hc.1 hc.2.1 hc.2.2 q
def zDF:OpR X (eAS .LShift) (KA0 ZXA λi j=>.int (i*2^j.toNat)):=opI λ_ _ _ _ _ _ _ hc q=>lshift_int_small hc.1 hc.2.1 hc.2.2 q
def zNS:OpR X (eAS .RShift) (KA0 (λ_ j=>0<=j) λi j=>.int (i / 2^j.toNat)):=opI λi j _ _ _ _ _ hc q=>
 rshift_int hc (by rw [Int.fdiv_eq_ediv_of_nonneg i (zOE _)];exact q)
def zBU:OpR X (eAS .BitAnd) (KA1 λi j=>.int (eA3 i j)):=zd4 λ_ _ _ _ _ _ _ q=>and_int q
def zMS:OpR X (eAS .BitXor) (KA1 λi j=>.int (eA4 i j)):=zd4 λ_ _ _ _ _ _ _ q=>xor_int q
theorem unI {f:Value->Sem Value}{g:Int->Int}
  (rule:∀ (i:Int) (t:Tok) (s:Shared) (Q:kW) (E:kW),Q (.int (g i) s.toks) { s with toks:=s.toks+1 }->kM (f (.int i t)) Q E s) :
  UnR X f (rU λi=>.int (g i)):=by
 intro pins s σ H x v Q I rx h;obtain ⟨i,rfl,q⟩:=h;obtain ⟨t,rfl⟩:=rx;exact rule i t s _ _ #[.int (g i),H,I.tok _,#[_,rfl],q]
def zbX:UnR X (unaryOp .USub) (rU λi=>.int (-i)):=unI λ_ _ _ _ _ q=>neg_int q
def KA2:=∀ i k,x=.int i->y=.bl k->Q (.int (i+b2i k)) H->KA2 x y H Q
end
def ZeM:V->V->Bool
 | .non,.non=>true|.non,.int _=>true|.int _,.non=>true|.non,.bl _=>true|.bl _,.non=>true|.non,.str _=>true|.str _,.non=>true
 | .int _,.int _=>true|.bl _,.bl _=>true|.str _,.str _=>true|.byt _,.byt _=>true
 | .int _,.str _=>true|.str _,.int _=>true|.bl _,.str _=>true|.str _,.bl _=>true
 | _,_=>false
def rEq:R2:=λx y H Q=>ZeM x y=true/\Q (.bl (decide (x=y))) H
def rNe:R2:=λx y H Q=>ZeM x y=true/\Q (.bl (!decide (x=y))) H
def zRY {i j:Int}:decide (V.int i=V.int j)=(i==j):=by
 rw [yAd]
 simp
def zWT {i j:Bool}:decide (V.bl i=V.bl j)=(i==j):=by
 rw [yAd]
 simp
def zS8 {i j:Str}:decide (V.str i=V.str j)=(i==j):=by
 rw [yAd]
 simp
def zRS {i j:Array UInt8}:decide (V.byt i=V.byt j)=(i.toList==j.toList):=by
 rw [yAd]
 cases i
 cases j
 simp
section
variable {X:Cx}{a b c:Expr}{ta tb tc:TE}{pos:Pos}
def zAP {pins:kA}{σ:St}{H:Hp}{s:Shared}{Q:VK}{k k':Bool}(I:Inv X pins σ H s)(q:Q (.bl k) H)(e:k=k'):EP X pins σ Q (.bool k') s:=by
 subst e;exact#[.bl k,H,I,rfl,q]
def zC3:OpR X (eAP .Eq) rEq:=by
 intro pins s σ H x y v u Q I rx ry h;obtain ⟨hs,q⟩:=h
 cases x with
 | non=>
  cases rx
  cases y with
  | non=>cases ry;exact PySem.EqNone.eq_none_none (zAP I q (by simp))
  | bl j=>cases ry;exact PySem.EqNone.eq_none_bool (zAP I q (by simp))
  | int j=>obtain ⟨t',rfl⟩:=ry;exact PySem.EqNone.eq_none_int (zAP I q (by simp))
  | str j=>obtain ⟨t',rfl⟩:=ry;exact PySem.EqNone.eq_none_str (zAP I q (by simp))
  | _=>exact absurd (show false=true from hs) yAg
 | bl i=>
  cases rx
  cases y with
  | non=>cases ry;exact PySem.EqNone.eq_bool_none (zAP I q (by simp))
  | bl j=>cases ry;exact eq_bool (zAP I q zWT)
  | str j=>obtain ⟨t',rfl⟩:=ry;exact PySem.EqMixed.eq_bool_str (zAP I q (by simp))
  | _=>exact absurd (show false=true from hs) yAg
 | int i=>
  obtain ⟨t,rfl⟩:=rx
  cases y with
  | non=>cases ry;exact PySem.EqNone.eq_int_none (zAP I q (by simp))
  | int j=>obtain ⟨t',rfl⟩:=ry;exact eq_int (zAP I q zRY)
  | str j=>obtain ⟨t',rfl⟩:=ry;exact PySem.EqMixed.eq_int_str (zAP I q (by simp))
  | _=>exact absurd (show false=true from hs) yAg
 | str i=>
  obtain ⟨t,rfl⟩:=rx
  cases y with
  | non=>cases ry;exact PySem.EqNone.eq_str_none (zAP I q (by simp))
  | bl j=>cases ry;exact PySem.EqMixed.eq_str_bool (zAP I q (by simp))
  | int j=>obtain ⟨t',rfl⟩:=ry;exact PySem.EqMixed.eq_str_int (zAP I q (by simp))
  | str j=>obtain ⟨t',rfl⟩:=ry;exact eq_str (zAP I q zS8)
  | _=>exact absurd (show false=true from hs) yAg
 | byt i=>
  obtain ⟨t,rfl⟩:=rx
  cases y with
  | byt j=>obtain ⟨t',rfl⟩:=ry;exact PySem.W.eq_bytes (zAP I q zRS)
  | _=>exact absurd (show false=true from hs) yAg
 | _=>cases y<;>exact absurd (show false=true from hs) yAg
def zR6:OpR X (eAP .NotEq) rNe:=by
 intro pins s σ H x y v u Q I rx ry h;obtain ⟨hs,q⟩:=h
 cases x with
 | non=>
  cases rx
  cases y with
  | non=>cases ry;exact PySem.EqNone.ne_none_none (zAP I q (by simp))
  | bl j=>cases ry;exact PySem.EqNone.ne_none_bool (zAP I q (by simp))
  | int j=>obtain ⟨t',rfl⟩:=ry;exact PySem.EqNone.ne_none_int (zAP I q (by simp))
  | str j=>obtain ⟨t',rfl⟩:=ry;exact PySem.EqNone.ne_none_str (zAP I q (by simp))
  | _=>exact absurd (show false=true from hs) yAg
 | bl i=>
  cases rx
  cases y with
  | non=>cases ry;exact PySem.EqNone.ne_bool_none (zAP I q (by simp))
  | bl j=>cases ry;exact ne_bool (zAP I q (congrArg not zWT))
  | str j=>obtain ⟨t',rfl⟩:=ry;exact PySem.EqMixed.ne_bool_str (zAP I q (by simp))
  | _=>exact absurd (show false=true from hs) yAg
 | int i=>
  obtain ⟨t,rfl⟩:=rx
  cases y with
  | non=>cases ry;exact PySem.EqNone.ne_int_none (zAP I q (by simp))
  | int j=>obtain ⟨t',rfl⟩:=ry;exact ne_int (zAP I q (congrArg not zRY))
  | str j=>obtain ⟨t',rfl⟩:=ry;exact PySem.EqMixed.ne_int_str (zAP I q (by simp))
  | _=>exact absurd (show false=true from hs) yAg
 | str i=>
  obtain ⟨t,rfl⟩:=rx
  cases y with
  | non=>cases ry;exact PySem.EqNone.ne_str_none (zAP I q (by simp))
  | bl j=>cases ry;exact PySem.EqMixed.ne_str_bool (zAP I q (by simp))
  | int j=>obtain ⟨t',rfl⟩:=ry;exact PySem.EqMixed.ne_str_int (zAP I q (by simp))
  | str j=>obtain ⟨t',rfl⟩:=ry;exact ne_str (zAP I q (congrArg not zS8))
  | _=>exact absurd (show false=true from hs) yAg
 | byt i=>
  obtain ⟨t,rfl⟩:=rx
  cases y with
  | byt j=>obtain ⟨t',rfl⟩:=ry;exact PySem.W.ne_bytes (zAP I q (congrArg not zRS))
  | _=>exact absurd (show false=true from hs) yAg
 | _=>cases y<;>exact absurd (show false=true from hs) yAg
def zc2:OpR X (eAP .Lt) (KA1 λi j=>.bl (decide (i<j))):=zdQ λ_ _ _ _ _ _ _ q=>lt_int q
def zP2:OpR X (eAP .LtE) (KA1 λi j=>.bl (decide (i<=j))):=zdQ λ_ _ _ _ _ _ _ q=>le_int q
def zJO:OpR X (eAP .Gt) (KA1 λi j=>.bl (decide (j<i))):=zdQ λ_ _ _ _ _ _ _ q=>gt_int q
def KA3:=∀ i j,x=.str i->y=.str j->Q (.bl (decide (i.cps.toList<j.cps.toList))) H->KA3 x y H Q
def KA4:=∀ i j,x=.str i->y=.str j->Q (.bl (!(Builtin.Str.occurrences j i 0 j.length 1).isEmpty)) H->KA4 x y H Q
def zSK:OpR X (eAP .In) KA4:=by
 intro pins s σ H x y v u Q I rx ry h;obtain ⟨i,j,rfl,rfl,q⟩:=h;obtain ⟨t,rfl⟩:=rx;obtain ⟨t',rfl⟩:=ry;exact in_str (zAP I q rfl)
def zNQ:OpR X (eAP .Is) (λx y H Q=>y=.non/\Q (.bl (decide (x=.non))) H):=by
 intro pins s σ H x y v u Q I rx ry h;obtain ⟨rfl,q⟩:=h
 cases ry
 refine is_none_gen (zAP I q ?_)
 cases x<;>first
  | (cases rx;rfl)
  | (obtain ⟨t,rfl⟩:=rx;rfl)
def zLT:OpR X (eAP .IsNot) (λx y H Q=>y=.non/\Q (.bl (!decide (x=.non))) H):=by
 intro pins s σ H x y v u Q I rx ry h;obtain ⟨rfl,q⟩:=h
 cases ry
 refine isnot_none_gen (zAP I q ?_)
 cases x<;>first
  | (cases rx;rfl)
  | (obtain ⟨t,rfl⟩:=rx;rfl)
def KA5:=∀ i j,x=.str i->y=.str j->Q (.bl (!(!(Builtin.Str.occurrences j i 0 j.length 1).isEmpty))) H->KA5 x y H Q
def ZUB:HO->Bool
 | .lst _=>true
 | .ins _ _ _=>true
 | _=>false
def KA6:=∀ a b oa ob,x=.ref a->y=.ref b->H a=some oa->ZUB oa=true->H b=some ob->ZUB ob=true->Q (.bl (decide (a=b))) H->KA6 x y H Q
def KA7:=∀ a b oa ob,x=.ref a->y=.ref b->H a=some oa->ZUB oa=true->H b=some ob->ZUB ob=true->Q (.bl (!decide (a=b))) H->KA7 x y H Q
def zAB (b:Expr){op:CmpOp}(h:op≠.In:=by decide)(h2:op≠.NotIn:=by decide):behindInMarks op b=false:=by
 have e1:(op==CmpOp.In)=false:=by cases op<;>first|rfl|exact absurd rfl h
 have e2:(op==CmpOp.NotIn)=false:=by cases op<;>first|rfl|exact absurd rfl h2
 cases b<;>simp [behindInMarks,e1,e2]
def zAW {op:CmpOp}{r:R2}(ho:OpR X (eAP op) r)(ha:PE X a ta)(hb:PE X b tb)(hm:behindInMarks op b=false):PE X (.Compare a [op] [b] pos) (tOp r ta tb):=by
 intro pins s σ H Q I h;exact wpAny_Compare1 (zdI ha hb I h λv u s2 x y H2 I2 rx ry q=>ho pins s2 σ H2 x y v u Q I2 rx ry q) hm
def ZcY (t:TE):TT:=λσ H Q=>t σ H λx H'=>∃ k,x=.bl k/\Q k H'
def zA9 {op:CmpOp}{r:R2}(ho:OpR X (eAP op) r)(ha:PE X a ta)(hb:PE X b tb)(hm:behindInMarks op b=false):PT X (.Compare a [op] [b] pos) (ZcY (tOp r ta tb)):=by
 intro pins s σ H Q I h;refine wpAny_isTrue_Compare1 (thn (ha pins s σ H _ I h) λv s1 hM=>?_) hm;obtain ⟨x,H1,I1,r1,q1⟩:=hM;refine thn (hb pins s1 σ H1 _ I1 q1) λu s2 hM=>?_;obtain ⟨y,H2,I2,r2,q2⟩:=hM;refine thn (ho pins s2 σ H2 x y v u _ I2 r1 r2 q2) λc s3 hM=>?_;obtain ⟨z,H3,I3,r3,k,e,q3⟩:=hM;subst e
 cases r3
 exact yBb #[H3,I3,q3]
def ZWV (r r':R2)(ta tb tc:TE):TE:=λσ H Q=>ta σ H λx H1=>tb σ H1 λy H2=>r x y H2 λz H3=>∃ k,z=.bl k /\
 (if k=true then tc σ H3 λw' H4=>r' y w' H4 Q else Q (.bl false) H3)
def zUG {op op':CmpOp}{r r':R2}(ho:OpR X (eAP op) r)(ho':OpR X (eAP op') r')(ha:PE X a ta)(hb:PE X b tb)(hc:PE X c tc)
  (hm:lastMarks [op,op'] [b,c]=false:=by with_unfolding_all rfl):PE X (.Compare a [op,op'] [b,c] pos) (ZWV r r' ta tb tc):=by
 intro pins s σ H Q I h;refine Compare_chain (thn (ha pins s σ H _ I h) λv s1 hM=>?_) hm;obtain ⟨x,H1,I1,r1,q1⟩:=hM;refine chain_link (thn (hb pins s1 σ H1 _ I1 q1) λu s2 hM=>?_);obtain ⟨y,H2,I2,r2,q2⟩:=hM;refine thn (ho pins s2 σ H2 x y v u _ I2 r1 r2 q2) λd s3 hM=>?_;obtain ⟨z,H3,I3,r3,k,e,q3⟩:=hM;subst e
 cases r3
 refine yBb ?_
 cases k with
 | false=>exact ite_ff #[.bl false,H3,I3,rfl,q3]
 | true=>exact ite_tt (chain_last (thn (hc pins s3 σ H3 _ I3 q3) λw' s4 ⟨z',H4,I4,r4,q4⟩=>ho' pins s4 σ H4 y z' u w' Q I4 r2 r4 q4))
def zMU {op op':CmpOp}{r r':R2}(ho:OpR X (eAP op) r)(ho':OpR X (eAP op') r')(ha:PE X a ta)(hb:PE X b tb)(hc:PE X c tc)
  (hm:lastMarks [op,op'] [b,c]=false:=by with_unfolding_all rfl):PT X (.Compare a [op,op'] [b,c] pos) (ZcY (ZWV r r' ta tb tc)):=by
 intro pins s σ H Q I h;refine isTrue_chain (thn (ha pins s σ H _ I h) λv s1 hM=>?_) hm;obtain ⟨x,H1,I1,r1,q1⟩:=hM;refine test_link (thn (hb pins s1 σ H1 _ I1 q1) λu s2 hM=>?_);obtain ⟨y,H2,I2,r2,q2⟩:=hM;refine thn (ho pins s2 σ H2 x y v u _ I2 r1 r2 q2) λd s3 hM=>?_;obtain ⟨z,H3,I3,r3,k,e,q3⟩:=hM;subst e
 cases r3
 refine yBb ?_
 cases k with
 | false=>
  obtain ⟨k',e',q'⟩:=q3
  cases e'
  exact ite_ff #[H3,I3,q']
 | true=>
  refine ite_tt (test_last (thn (hc pins s3 σ H3 _ I3 q3) λw' s4 hM=>?_));obtain ⟨z',H4,I4,r4,q4⟩:=hM;refine thn (ho' pins s4 σ H4 y z' u w' _ I4 r2 r4 q4) λd' s5 hM=>?_;obtain ⟨z2,H5,I5,r5,k2,e2,q5⟩:=hM;subst e2
  cases r5
  exact yBb #[H5,I5,q5]
def ZeH (K:Frag)(x:V)(H:Hp)(k:Bool):Prop:=
 match x with
 | .non=>k=false
 | .bl b=>k=b
 | .int i=>k=(i != 0)
 | .str y=>y.length<=eA5/\k=((y.length:Int) != 0)
 | .byt y=>y.size<=eA5/\k=((y.size:Int) != 0)
 | .ref p=>(∃ xs,SqL K H p xs/\k=!xs.isEmpty) \/ (∃ xs,SqT K H p xs/\k=!xs.isEmpty) \/ ∃ kvs,H p=some (.dK kvs)/\k=!kvs.isEmpty
 | _=>False
def zOK {κ:Type}{kvs:List (κ×V)}{vs:List (κ×Value)}(r:KV kvs vs):(!vs.isEmpty)=!kvs.isEmpty:=by
 cases r<;>rfl
def zHV {xs:List V}{its:List Value}(r:Vals xs its):(!its.toArray.isEmpty)=!xs.isEmpty:=by
 cases r<;>simp
def zHI:(eA5:Nat)<2^63:=by rw [sizeLine_eq];decide
def zb3:ZeX X (λx H Q=>∃ k,ZeH X.K x H k/\Q k H):=by
 intro pins s σ H x v Q I rx h;obtain ⟨k,e,q⟩:=h;have hl:=zHI;have hs:eA5=16777216:=sizeLine_eq
 cases x with
 | non=>
  cases rx
  have e':k=false:=e;subst e';exact truthy_none #[H,I,q]
 | bl b=>
  cases rx
  have e':k=b:=e;subst e';exact yBb #[H,I,q]
 | int i=>
  obtain ⟨t,rfl⟩:=rx;have e':k=(i != 0):=e;subst e';exact PySem.P.truthy_int #[H,I,q]
 | str y=>
  obtain ⟨t,rfl⟩:=rx;obtain ⟨hy,e'⟩:y.length<=eA5/\k=((y.length:Int) != 0):=e;subst e';exact PySem.P.truthy_str oz #[H,I.tok _,q]
 | byt y=>
  obtain ⟨t,rfl⟩:=rx;obtain ⟨hy,e'⟩:y.size<=eA5/\k=((y.size:Int) != 0):=e;subst e';exact PySem.W.truthy_bytes oz #[H,I.tok _,q]
 | ref p=>
  cases rx
  have e':(∃ xs,SqL X.K H p xs/\k=!xs.isEmpty) \/ (∃ xs,SqT X.K H p xs/\k=!xs.isEmpty) \/ ∃ kvs,H p=some (.dK kvs)/\k=!kvs.isEmpty:=e
  rcases e' with ⟨xs,hx,e'⟩|⟨xs,hx,e'⟩|⟨kvs,hx,e'⟩
  ·subst e'
   obtain ⟨its,r,pl,hz⟩:=I.list hx;have hlen:=r.length;exact wpAny_truthy_list pl.isList (by simp only [yAM];lia) #[H,I.tok _,by rw [zHV r];exact q]
  ·subst e'
   obtain ⟨its,r,pl,hz⟩:=I.tuple hx;have hlen:=r.length;exact truthy_tuple pl (by simp only [yAM];lia) #[H,I.tok _,by rw [zHV r];exact q]
  ·subst e'
   obtain ⟨hz,hS,vs,r,m⟩:kvs.length<=eA5/\(p==eAI)=false/\∃ vs,KV kvs vs/\s.heap.DictOf (ZAF X.prog X.w) p vs:=I.hok p _ hx;have hlen:kvs.length=vs.length:=Paired.length r;exact wpAny_truthy_dict hS m oz #[H,I.tok _,by rw [zOK r];exact q]
 | _=>exact (show False from e).elim
def zGG (ha:PE X a ta)(he:∀ whole,isTrue a X.env whole=(do let v <- whole;standAt a.pos;holding [v] (truthy v))) :
  PT X a (λσ H Q=>ta σ H λx H'=>∃ k,ZeH X.K x H' k/\Q k H'):=by
 intro pins s σ H Q I h;refine isTrue_plain (thn (ha pins s σ H _ I h) λv s1 hM=>?_) (he _);obtain ⟨x,H1,I1,r1,q1⟩:=hM;exact zb3 pins s1 σ H1 x v Q I1 r1 q1
def KA8:=∀ i j,x=.str i->y=.str j->i.length+j.length<=eA5->Q (.str (i++j)) H->KA8 x y H Q
def zC8:OpR X (eAS .Add) KA8:=by
 intro pins s σ H x y v u Q I rx ry h;obtain ⟨i,j,rfl,rfl,hz,q⟩:=h;obtain ⟨t,rfl⟩:=rx;obtain ⟨t',rfl⟩:=ry;exact add_str (λt' tk=>#[.str (i++j),H,I.tok _,#[_,rfl],q]) hz
def KA9:=∀ i j,x=.str i->y=.str j->i.length+j.length<=eA5->Q (.str (i++j)) H->KA9 x y H Q
def KB0:=∀ i j,x=.byt i->y=.byt j->i.size+j.size<=16777216->Q (.byt (i++j)) H->KB0 x y H Q
def zEP {x:V}{us:List Value}(r:Vals [x] us):∃ u,us=[u]/\RelV x u:=by
 cases r with
 | cons r1 r2=>cases r2;exact#[_,rfl,r1]
def zUO {x y:V}{us:List Value}(r:Vals [x,y] us):∃ u w',us=[u,w']/\RelV x u/\RelV y w':=by
 cases r with
 | cons r1 r2=>
  cases r2 with
  | cons r3 r4=>cases r4;exact#[_,_,rfl,r1,r3]
def NA0:=∀ i,xs=[.int i]->(Q (.int (if i<0 then -i else i)) H)->NA0 xs H Q
def NA1:=∀ i j,xs=[.int i,.int j]->(Q (.int (if j > i then j else i)) H)->NA1 xs H Q
def zJK (hc:X.calm=true):ZDK X (.builtin "max") NA1:=by
 intro pins s σ H xs us Q I r h;obtain ⟨i,j,rfl,q⟩:=h;obtain ⟨u,w',rfl,⟨t,rfl⟩,⟨t',rfl⟩⟩:=zUO r;refine max_two_ints (I.ok.hd hc) λh' tk k=>#[_,H,I.kept k,?_,q]
 by_cases hj:j > i
 ·rw [yAS hj,yAS hj];exact#[_,rfl]
 ·rw [yAT hj,yAT hj];exact#[_,rfl]
def NA2:=∀ i j,xs=[.int i,.int j]->(Q (.int (if j<i then j else i)) H)->NA2 xs H Q
def zQY (hc:X.calm=true):ZDK X (.builtin "min") NA2:=by
 intro pins s σ H xs us Q I r h;obtain ⟨i,j,rfl,q⟩:=h;obtain ⟨u,w',rfl,⟨t,rfl⟩,⟨t',rfl⟩⟩:=zUO r;refine min_two_ints (I.ok.hd hc) λh' tk k=>#[_,H,I.kept k,?_,q]
 by_cases hj:j<i
 ·rw [yAS hj,yAS hj];exact#[_,rfl]
 ·rw [yAT hj,yAT hj];exact#[_,rfl]
def NA3:=∀ i,xs=[.int i]->i.natAbs.log2<1920->Q (.str (toString i)) H->NA3 xs H Q
def NA4:=∀ x,xs=[.str x]->x.length=1->(Q (.int (x.cps.getD 0 0:Nat)) H)->NA4 xs H Q
def NA5:=∀ i,xs=[.int i]->0<=i->i<=1114111->Q (.str ⟨#[i.toNat]⟩) H->NA5 xs H Q
def ZeW (K:Frag)(x:V)(H:Hp)(n:Nat):Prop:=
 match x with
 | .str y=>y.length<=eA5/\n=y.length
 | .byt y=>y.size<=eA5/\n=y.size
 | .ref p=>(∃ xs,SqL K H p xs/\n=xs.length) \/ ∃ xs,SqT K H p xs/\n=xs.length
 | _=>False
def NA6 (K:Frag):=∀ x n,xs=[x]->ZeW K x H n->Q (.int n) H->NA6 K xs H Q
def NA7:=∀ i j,xs=[.int i,.int j]->ZeG i j->(∀ p,H p=none->Q (.ref p) (upd H p (.tup [.int (i / j),.int (i % j)])))->NA7 xs H Q
end
structure ObjM (h:Heap)(x dx C:Addr)(mA:Str->Option Value):Prop where
 obj:h.get? x=some (instObj C dx)
 ns:h.Ns1 dx mA
 ne:dx≠x
def zPW {h:Heap}{dx:Addr}{mA:Str->Option Value}(n:h.Ns1 dx mA):∃ od,h.get? dx=some od/\∀ name,PySem.W.lookIn name od=some (mA name):=by
 obtain ⟨o,es,ep,ho,hd,hk,_,hm⟩:=n;refine#[o,ho,λname=>?_];have e:=hm name;unfold nsFind findBy at e;rw [<- Array.find?_toList] at e;unfold PySem.W.lookIn;rw [hd];dsimp only
 split
 ·rename_i y q
  rw [q] at e;exact congrArg some e
 ·rename_i q
  rw [q] at e
  have a:es.toList.any (·.refKey)=false:=by
   rw [yED];intro y hy;obtain ⟨z,t,hkey⟩:=hk y (Array.mem_toList_iff.mp hy)
   simp [DictEntry.refKey,hkey]
  have a':¬es.toList.any (·.refKey)=true:=by rw [a];exact yAg
  rw [yAT a'];exact congrArg some e
theorem ObjM.look {h:Heap}{x dx C:Addr}{mA:Str->Option Value}(I:ObjM h x dx C mA):∃ od,PySem.W.InstAt h x (instObj C dx) C (some od)/\∀ name,PySem.W.lookIn name od=some (mA name):=
 let ⟨od,ho,hl⟩:=zPW I.ns
 #[od,#[I.obj,rfl,rfl,ho],hl]
section
variable {prog:eAD}{w:World}{A:eAK}{E:kW}{s:Shared}{K:Frag}{x dx C f:Addr}{mA:Str->Option Value}{name:Str}{v:Value}
def zXN {expr:Bool}{Q:kW}(X:K.In s.heap)(I:ObjM s.heap x dx C mA)(hg:eAT K C name=true)(hh:eAU K C=true)
  (ha:eAB K (.ref C) name=some none) (hv:mA name=some v) (hv':PySem.W.handedIn v=true) (h:Q v { s with toks:=s.toks+1 }) :
  wpAny (model prog w) A (getAttr (.ref x) name expr) Q E s:=by
 obtain ⟨od,J,hl⟩:=I.look;exact PySem.W.get_value X J (PySem.W.plainGet_of hg).1 (PySem.W.findObj_own hh ha rfl (by rw [hl,hv])) hv' h
def zVY {pl:Sem Bool}{Q:Value×List Value->Shared->Prop}(X:K.In s.heap)(I:ObjM s.heap x dx C mA)(hg:eAT K C name=true)
  (hf:eAB K (.ref C) name=some (some (.ref f))) (ht:kJ f) (hv:mA name=none) (h:Q (.ref f,[.ref x]) s) :
  wpAny (model prog w) A (getMethod (.ref x) name pl) Q E s:=by
 obtain ⟨od,J,hl⟩:=I.look;exact PySem.W.method_fn X J (PySem.W.plainGet_of hg).1 (PySem.W.plainGet_of hg).2 hf (yAm.mp ht) (by show (PySem.W.lookIn name od).map (·.isSome)=some false;rw [hl,hv];rfl) h
def za5 {ns:List Str}{Q:Unit->Shared->Prop}(X:K.In s.heap)(I:ObjM s.heap x dx C mA)
  (hs:eAB K (.ref C) "__setattr__"=some (some (.builtin "object.__setattr__"))) (hp:PySem.W.plainOver K C=true) (ht:PySem.W.takerIn K C name=some none) (hh:eAU K C=true)
  (hw:PySem.Within mA ns) (hsz:ns.length<=eA5)
  (h:∀ h',ObjM h' x dx C (λy=>if y=name then some v else mA y)->eAM dx s.heap h'->Q () { s with heap:=h',toks:=s.toks+2 }) :
  wpAny (model prog w) A (setAttr (.ref x) name v) Q E s:=by
 obtain ⟨od,J,hl⟩:=I.look;refine PySem.W.set_plain X J hs (PySem.W.osa_open (s:={ s with toks:=s.toks+1 }) (r:=none) X J hp ht λb=>?_);obtain ⟨cd,hc,hd'⟩:=PySem.W.any_some hh;have hx:s.heap.get? x=some #[.ref C,some dx,.plain,#[]]:=I.obj;refine yAC (yAO (yAC (yAC (wpAny_loadPart hx (yAC (PySem.W.Looks.here (s:={ s with toks:=s.toks+1 }) (PySem.W.looks_clsIn X hc) ?_))))));rw [hd'];refine yAO (a:=some dx) (yAC (yAO (yAC ?_)));refine wpAny_nsSet1 (s:={ s with toks:=s.toks+1 }) I.ns λh' hn2 hs2=>?_;obtain ⟨oD,esD,epD,hoD,hdD,hcD⟩:=hn2.count (PySem.Within.cons name v hw);refine yAC (wpAny_lookBehind hoD (by rw [hdD];exact pastItsLine_dict (yAp hcD (by rw [yBK];lia))) ?_);exact yAO (h _ #[(hs2.2 _ (eAL I.ne)).trans I.obj,hn2,I.ne] hs2)
def zV6 {R:Result->Shared->Prop}{vs:List Value}{kw:List (Str×Value)}(X:K.In s.heap)(hm:PySem.W.makesIn K C=true)
  (hi:kF C "__init__" f) (hf:PySem.W.typeIn K (.ref f)=some (.type "function"))
  (h:codeAny (model prog w) (A.under (.builtin "type.__call__" #[.ref C::vs,kw])) (.call (.ref f) #[.ref ((kZ s)+1)::vs,kw]) (PySem.W.InitBack ((kZ s)+1) R)
   { s with heap:=(s.heap.push emptyDict).push (instObj C (kZ s)) }) :
  codeAny (model prog w) A (.call (.ref C) #[vs,kw]) R s:=by
 obtain ⟨hh,g,d,t,os⟩:=s;exact PySem.W.make_core (PySem.W.makes_of X hm) (PySem.W.looks_findIn X hi) (λself=>PySem.W.bind_fn X self hf) (.inl rfl) h
end
def putF (f:Str)(v:V):List (Str×V)->List (Str×V)
 | []=>[(f,v)]
 | (g,x)::r=>if g=f then (g,v)::r else (g,x)::putF f v r
def zGZ (f g:Str)(v:V):∀ fs:List (Str×V),(putF f v fs).lookup g=if g=f then some v else fs.lookup g
 | []=>by
  show eAV g [(f,v)]=_
  by_cases h:g=f
  ·have hb:(g==f)=true:=yAm.mpr h
   simp only [eAV,hb,yAS h]
  ·have hb:(g==f)=false:=yDB.mpr h
   simp only [eAV,hb,yAT h]
 | (k,x)::r=>by
  have ih:=zGZ f g v r;rw [show putF f v ((k,x)::r)=(if k=f then (k,v)::r else (k,x)::putF f v r) from rfl]
  by_cases hk:k=f
  ·rw [yAS hk]
   by_cases h:g=k
   ·have hb:(g==k)=true:=yAm.mpr h
    simp only [eAV,hb,yAS (h.trans hk)]
   ·have hb:(g==k)=false:=yDB.mpr h
    simp only [eAV,hb,yAT (λe:g=f=>h (e.trans hk.symm))]
  ·rw [yAT hk]
   by_cases h:g=k
   ·have hb:(g==k)=true:=yAm.mpr h
    simp only [eAV,hb,yAT (λe:g=f=>hk (h.symm.trans e))]
   ·have hb:(g==k)=false:=yDB.mpr h
    simp only [eAV,hb];exact ih
def zH1 (f:Str)(v:V):∀ fs:List (Str×V),f∈(putF f v fs).map (·.1)/\∀ g,g∈fs.map (·.1)->g∈(putF f v fs).map (·.1)
 | []=>#[by simp [putF],λg h=>by simp at h]
 | (k,x)::r=>by
  obtain ⟨i1,i2⟩:=zH1 f v r;rw [show putF f v ((k,x)::r)=(if k=f then (k,v)::r else (k,x)::putF f v r) from rfl]
  by_cases hk:k=f
  ·rw [yAS hk]
   subst hk;exact#[by simp,λg h=>by simpa using h]
  ·rw [yAT hk]
   refine#[?_,λg h=>?_]
   ·rw [yAq]
    exact yAL _ i1
   ·rw [yAq] at h ⊢
    rcases yAf.mp h with e|e
    ·exact yAf.mpr (.inl e)
    ·exact yAL _ (i2 g e)
def zGQ (f:Str)(v:V):∀ fs:List (Str×V),(putF f v fs).length<=fs.length+1
 | []=>by simp [putF]
 | (k,x)::r=>by
  have ih:=zGQ f v r;rw [show putF f v ((k,x)::r)=(if k=f then (k,v)::r else (k,x)::putF f v r) from rfl]
  by_cases hk:k=f
  ·rw [yAS hk,yBK,yBK];lia
  ·rw [yAT hk,yBK,yBK];lia
theorem RelO.some_of {v:V}{o:Option Value}(r:RelO (some v) o):∃ u,o=some u/\RelV v u:=by
 cases o with
 | none=>exact (show False from r).elim
 | some u=>exact#[u,rfl,r]
theorem RelO.none_of {o:Option Value}(r:RelO none o):o=none:=by
 cases o with
 | none=>rfl
 | some u=>exact (show False from r).elim
def zJW {v:V}{u:Value}(r:RelV v u):PySem.W.handedIn u=true:=by
 cases v with
 | non=>cases (show u=eAE from r);rfl
 | bl b=>cases (show u=Value.bool b from r);rfl
 | int i=>obtain ⟨t,e⟩:=(show ∃ t,u=Value.int i t from r);cases e;rfl
 | str x=>obtain ⟨t,e⟩:=(show ∃ t,u=Value.str x t from r);cases e;rfl
 | byt b=>obtain ⟨t,e⟩:=(show ∃ t,u=Value.bytes b t from r);cases e;rfl
 | flt b=>obtain ⟨t,e⟩:=(show ∃ t,u=Value.float b t from r);cases e;rfl
 | ref a=>cases (show u=eAF a from r);rfl
 | ty n=>cases (show u=eAG n from r);rfl
section
variable {P:eAD}{w:World}{H H':Hp}{h h':Heap}{a C dx:Addr}{fs fs':List (Str×V)}
def zH9 (hok:HOk P w H h)(e:H a=some (.ins C dx fs)):∃ mA,ObjM h a dx C mA/\(∀ f,RelO (fs.lookup f) (mA f))/\PySem.Within mA (fs.map (·.1))/\fs.length<=1000/\H dx=some (.own a):=by
 obtain ⟨d,z,ne,ob,mA,n,r,q⟩:=(show UAI P w H h a (.ins C dx fs) from hok a _ e);exact#[mA,#[ob,n,ne],r,q,z,d]
end
structure Cls (K:Frag)(C:Addr):Prop where
 pg:eAT K C Str.empty=true
 hd:eAU K C=true
 po:PySem.W.plainOver K C=true
 sa:eAB K (.ref C) "__setattr__"=some (some (.builtin "object.__setattr__"))
theorem Cls.get {K:Frag}{C:Addr}(c:Cls K C)(f:Str):eAT K C f=true:=c.pg
def UAE (K:Frag)(C:Addr)(f:Str):Prop:=eAB K (.ref C) f=some none
theorem UAE.taker {K:Frag}{C:Addr}{f:Str}(n:UAE K C f):PySem.W.takerIn K C f=some none:=by
 unfold PySem.W.takerIn;rw [show eAB K (.ref C) f=some none from n];rfl
structure Con (K:Frag)(C:Addr)(f:Str)(v:V)(u:Value):Prop where
 at_:eAB K (.ref C) f=some (some u)
 rel:RelV v u
 get:PySem.W.specialIn K u "__get__"=some none
 cp:PySem.W.copiedNames.contains f=false
structure Meth (K:Frag)(C:Addr)(m:Str)(f:Addr):Prop where
 at_:eAB K (.ref C) m=some (some (.ref f))
 fn:kJ f
 kp:keepIn K (.ref f)=true
section
variable {X:Cx}{pins:kA}{σ:St}{H:Hp}{s:Shared}{a C dx:Addr}{fs:List (Str×V)}{f:Str}{v:V}{A:eAK}{E:kW}
def zP5 {b:Bool}{Q:kW}(I:Inv X pins σ H s)(e:H a=some (.ins C dx fs))(c:Cls X.K C)(n:UAE X.K C f)(l:fs.lookup f=some v)
  (h:∀ u s',Inv X pins σ H s'->RelV v u->Q u s'):wpAny (model X.prog X.w) A (getAttr (.ref a) f b) Q E s:=by
 obtain ⟨mA,O,r,_,_,_⟩:=zH9 I.hok e;obtain ⟨u,hu,ru⟩:=RelO.some_of (v:=v) (o:=mA f) (by rw [<- l];exact r f);exact zXN I.kIn O (c.get f) c.hd n hu (zJW ru) (h u _ (I.tok _) ru)
def zI2 {m:Str}{g:Addr}{pl:Sem Bool}{Q:Value×List Value->Shared->Prop}(I:Inv X pins σ H s)(e:H a=some (.ins C dx fs))(c:Cls X.K C)(k:Meth X.K C m g)(l:fs.lookup m=none)
  (h:Q (.ref g,[.ref a]) s):wpAny (model X.prog X.w) A (getMethod (.ref a) m pl) Q E s:=by
 obtain ⟨mA,O,r,_,_,_⟩:=zH9 I.hok e;have hn:mA m=none:=RelO.none_of (by rw [<- l];exact r m);exact zVY I.kIn O (c.get m) k.at_ k.fn hn h
def zPA {y:V}{u:Value}{Q:Unit->Shared->Prop}(I:Inv X pins σ H s)(e:H a=some (.ins C dx fs))(c:Cls X.K C)(n:UAE X.K C f)(hl:fs.length<1000)(ry:RelV y u)
  (h:∀ s',Inv X pins σ (upd H a (.ins C dx (putF f y fs))) s'->Q () s'):wpAny (model X.prog X.w) A (setAttr (.ref a) f u) Q E s:=by
 obtain ⟨mA,O,r,wi,_,ho⟩:=zH9 I.hok e;have hz:(fs.map (·.1)).length<=eA5:=by rw [yAA,sizeLine_eq];lia
 refine za5 I.kIn O c.sa c.po n.taker c.hd wi hz λh' O' sb=>h _ ?_;have hd:∃ o,h'.get? dx=some o:=let ⟨o,_,_,e',_⟩:=O'.ns;#[o,e'];refine I.write (x:=a) (e:=dx) (by rw [e];exact eAW) (.inr ho) (λb q hb z=>(sb.2 b hb).trans z) hd ?_;refine#[by rw [zA6 O.ne];exact ho,?_,O.ne,O'.obj,_,O'.ns,λg=>?_,λg hg=>?_]
 ·have:=zGQ f y fs;lia
 ·show RelO ((putF f y fs).lookup g) (if g=f then some u else mA g)
  rw [zGZ]
  by_cases q:g=f
  ·rw [yAS q,yAS q];exact ry
  ·rw [yAT q,yAT q];exact r g
 ·by_cases q:g=f
  ·rw [q];exact (zH1 f y fs).1
  ·refine (zH1 f y fs).2 g (wi g λz=>hg ?_)
   show (if g=f then some u else mA g)=none;rw [yAT q];exact z
theorem Inv.made (I:Inv X pins σ H s):Inv X pins σ (upd (upd H (kZ s) (.own ((kZ s)+1))) ((kZ s)+1) (.ins C (kZ s) []))
  { s with heap:=(s.heap.push emptyDict).push (instObj C (kZ s)) }:=by
 have e1:(s.heap.push emptyDict).get? (kZ s)=some emptyDict:=yAc s.heap rfl
 have e2:((s.heap.push emptyDict).push (instObj C (kZ s))).get? ((kZ s)+1)=some (instObj C (kZ s)):=by
  have:=yAc (s.heap.push emptyDict) (o:=instObj C (kZ s)) rfl
  rwa [yCg] at this
 have e3:(s.heap.push emptyDict).Ns (kZ s) (λ_=>none):=#[emptyDict,#[],_,e1,rfl,(λe he=>absurd he (by simp)),λ_=>rfl];have I1:=I.laid (a:=(kZ s)) (o:=.own ((kZ s)+1)) (h':=s.heap.push emptyDict) (t':=s.toks) (λb u q=>yAD _ q) (yAF _) #[_,e1];refine I1.laid (a:=(kZ s)+1) (o:=.ins C (kZ s) []) (t':=s.toks) (λb u q=>yAD _ q) (Nat.le_of_eq (yCg _ _)) ?_;have ne:(kZ s)≠(kZ s)+1:=yAo (yDW _);refine#[by rw [zA6 ne,zA0],yBN _,ne,e2,λ_=>none,(Heap.Ns1.of_empty e3).at λo q=>yAD _ q,λ_=>eAW,λy hy=>absurd rfl hy]
def zQC {prog:eAD}{w:World}{env:Env}{e:Expr}{f:Str}{pos:Pos}{s:Shared}{Q:kW}(hb:eAX e f env (eval e env)=eval e env)
  (h:wpAny (model prog w) A (eval e env) (λo s₁=>wpAny (model prog w) A (getAttr o f true) Q E s₁) E s):wpAny (model prog w) A (eval (.Attribute e f pos) env) Q E s:=
 Attribute_any_ h (by rw [arm_eval_Attribute,hb])
end
def ZeS (K:Frag)(ta:TE)(f:Str):TE:=λσ H Q=>ta σ H λx H1=>∃ a C dx fs v,x=.ref a/\H1 a=some (.ins C dx fs)/\Cls K C/\UAE K C f/\fs.lookup f=some v/\Q v H1
def ZeI (K:Frag)(ta tv:TE)(f:Str):TS:=λD σ H=>tv σ H λy H1=>ta σ H1 λx H2=>∃ a C dx fs,x=.ref a/\H2 a=some (.ins C dx fs)/\Cls K C/\UAE K C f/\fs.length<1000 /\
 D.nx σ (upd H2 a (.ins C dx (putF f y fs)))
section
variable {X:Cx}{o e value:Expr}{f:Str}{pos pos' tpos:Pos}{ta tv:TE}
def zAO (he:PE X e ta)(hb:eAX e f X.env (eval e X.env)=eval e X.env):PE X (.Attribute e f pos) (ZeS X.K ta f):=by
 intro pins s σ H Q I h;refine zQC hb (thn (he pins s σ H _ I h) λu s1 hM=>?_);obtain ⟨x,H1,I1,rx,a,C,dx,fs,v,ex,ea,c,n,l,q⟩:=hM;subst ex;obtain rfl:u=eAF a:=rx;exact zP5 I1 ea c n l λu' s2 I2 ru=>#[v,H1,I2,ru,q]
def zN2 (ha:PE X o ta)(hv:PE X value tv)(hs:swapsWith value (some (.Attribute o f pos')) pos.line X.env=pure false):PS X (.Assign [.Attribute o f pos'] value pos) (ZeI X.K ta tv f):=by
 intro pins s σ H D I h;refine plainObj_wpAny_Assign_Attribute (thn (hv pins s σ H _ I h) λu s1 hM=>?_) hs;obtain ⟨y,H1,I1,ry,q⟩:=hM;refine thn (ha pins s1 σ H1 _ I1 q) λov s2 hM=>?_;obtain ⟨x,H2,I2,rx,a,C,dx,fs,ex,ea,c,n,l,q2⟩:=hM;subst ex;obtain rfl:ov=eAF a:=rx;exact zPA I2 ea c n l ry λs3 I3=>#[σ,_,I3,q2]
def KB1:=∀ i j,x=.int i->y=.int j->Q (.int (i+j)) H->KB1 x y H Q
def KB2:=∀ i j,x=.int i->y=.int j->Q (.int (i-j)) H->KB2 x y H Q
end
section
variable {X:Cx}{pins:kA}{σ:St}{H:Hp}{s:Shared}{A:eAK}{E:kW}{Q:kW}{c:Value}{b:Bool}
inductive TyOf (K:Frag)(H:Hp):V->Value->Prop where
 | non:TyOf K H .non (.type "NoneType")
 | bl (x:Bool):TyOf K H (.bl x) (.type "bool")
 | int (i:Int):TyOf K H (.int i) (.type "int")
 | str (x:Str):TyOf K H (.str x) (.type "str")
 | flt (x:UInt64):TyOf K H (.flt x) (.type "float")
 | lst {a:Addr} {xs:List V} (e:H a=some (.lst xs)):TyOf K H (.ref a) (.type "list")
 | frz {a:Addr} {o:Obj} {xs:List V} (e:H a=some (.frz o (.lst xs))):TyOf K H (.ref a) (.type "list")
 | tup {a:Addr} {xs:List V} (e:H a=some (.tup xs)):TyOf K H (.ref a) (.type "tuple")
 | dK {a:Addr} {kvs:List (Key×V)} (e:H a=some (.dK kvs)):TyOf K H (.ref a) (.type "dict")
 | dT {a:Addr} {kvs:List (List Key×V)} (e:H a=some (.dT kvs)):TyOf K H (.ref a) (.type "dict")
 | ins {a C dx:Addr} {fs:List (Str×V)} (e:H a=some (.ins C dx fs)) (cl:Cls K C) (ha:eAB K (.ref C) "__class__"=some (some (.builtin "object.__class__")))
   (hn:PySem.W.specialIn K (.builtin "object.__class__") "__get__"=some (some (.builtin "getset_descriptor.__get__"))) (htk:PySem.W.takesIn K (.builtin "object.__class__")=some true)
   (hm:PySem.W.mroIn K C (.type "object")=some true):TyOf K H (.ref a) (.ref C)
def zQ7 {x:V}{u t:Value}(I:Inv X pins σ H s)(rx:RelV x u)(ty:TyOf X.K H x t)(e:eAC X.K t c=some b)(h:∀ tk,Q (.bool b) { s with toks:=tk }) :
  wpAny (model X.prog X.w) A (call (.builtin "isinstance") [u,c]) Q E s:=by
 cases ty with
 | non=>cases (show u=eAE from rx);exact yBv PySem.W.kitx_none I.kIn eAW e (λz=>nomatch z) h
 | bl y=>cases (show u=Value.bool y from rx);exact yBv PySem.W.kitx_bool I.kIn eAW e (λz=>nomatch z) h
 | int i=>obtain ⟨t,q⟩:=(show ∃ t,u=Value.int i t from rx);cases q;exact yBv PySem.W.kitx_int I.kIn eAW e (λz=>nomatch z) h
 | str y=>obtain ⟨t,q⟩:=(show ∃ t,u=Value.str y t from rx);cases q;exact yBv PySem.W.kitx_str I.kIn eAW e (λz=>nomatch z) h
 | flt y=>obtain ⟨t,q⟩:=(show ∃ t,u=Value.float y t from rx);cases q;exact yBv PySem.W.kitx_float I.kIn eAW e (λz=>nomatch z) h
 | @lst a xs ea=>
  cases (show u=eAF a from rx)
  obtain ⟨_,_,n,_,h1⟩:=(show UAI X.prog X.w H s.heap a (.lst xs) from I.hok a _ ea);exact yBv yDy I.kIn #[_,h1,rfl] e (λz=>nomatch z) h
 | @frz a ob xs ea=>
  cases (show u=eAF a from rx)
  obtain ⟨_,_,_,n,_,h1⟩:=(show UAI X.prog X.w H s.heap a (.frz ob (.lst xs)) from I.hok a _ ea);exact yBv yDy I.kIn #[_,h1,rfl] e (λz=>nomatch z) h
 | @tup a xs ea=>
  cases (show u=eAF a from rx)
  obtain ⟨_,_,_,p⟩:=(show UAI X.prog X.w H s.heap a (.tup xs) from I.hok a _ ea);obtain ⟨o,h1,h2,_⟩:=p;exact yBv PySem.W.kitx_tuple I.kIn #[o,h1,h2] e (λz=>nomatch z) h
 | @dK a kvs ea=>
  cases (show u=eAF a from rx)
  obtain ⟨_,_,vs,_,p⟩:=(show UAI X.prog X.w H s.heap a (.dK kvs) from I.hok a _ ea);obtain ⟨o,es,ep,h1,h2,_⟩:=p;exact yBv yDz I.kIn #[o,h1,h2.1] e (λz=>nomatch z) h
 | @dT a kvs ea=>
  cases (show u=eAF a from rx)
  obtain ⟨_,_,xs,_,o,es,ep,h1,h2,_⟩:=(show UAI X.prog X.w H s.heap a (.dT kvs) from I.hok a _ ea);exact yBv yDz I.kIn #[o,h1,h2.1] e (λz=>nomatch z) h
 | @ins a C dx fs ea cl ha hn htk hm=>
  cases (show u=eAF a from rx)
  obtain ⟨mA,O,_⟩:=zH9 I.hok ea;obtain ⟨od,J,_⟩:=O.look;exact yBv (PySem.W.kitx_own (cl.get _) cl.hd ha hn htk hm) I.kIn J e (λz=>nomatch z) h
end
structure Room (k:Nat)(A:eAK):Prop where
 hd:A.handled=none
 dp:A.depth+3*k+5<recursionLimit
 un:A.units+16*k+200<cLine
 gd:A.guards=some []
theorem Room.mono {j k:Nat}{A:eAK}(r:Room k A)(h:j<=k):Room j A:=#[r.hd,by have:=r.dp;lia,by have:=r.un;lia,r.gd]
theorem Room.deeper {k:Nat}{A:eAK}(r:Room (k+1) A)(env:Env):Room k (A.deeper env):=
 #[r.hd,by have:=r.dp;show A.depth+1+3*k+5<_;lia,by have:=r.un;show A.units+3+16*k+200<_;lia,r.gd]
theorem Room.in1 {k:Nat}{A:eAK}(r:Room (k+1) A):Room k A.in1:=
 #[r.hd,by have:=r.dp;show A.depth+3*k+5<_;lia,by have:=r.un;show A.units+1+16*k+200<_;lia,r.gd]
def zP1 {A:eAK}{C:Addr}{us:List Value}{kw:List (Str×Value)}:(A.under (.builtin "type.__call__" #[.ref C::us,kw])).depth=A.depth+1:=by
 first|rfl|simp [Around.under,Code.weight,Code.isCreation,Code.isGuard,Code.isCaller,Code.frames,Code.isFrame,guardIds]
def zOI {A:eAK}{C:Addr}{us:List Value}{kw:List (Str×Value)}:(A.under (.builtin "type.__call__" #[.ref C::us,kw])).units=A.units+1:=by
 first|rfl|simp [Around.under,Code.cUnits,Code.frames,Code.isFrame]
theorem UAm {A:eAK}{C:Addr}{us:List Value}{kw:List (Str×Value)}:(A.under (.builtin "type.__call__" #[.ref C::us,kw])).guards=A.guards:=by
 first|rfl|simp [Around.under,Code.guards,Code.isGuard,guardIds,pushGuards]
theorem Room.make {k:Nat}{A:eAK}(r:Room (k+1) A)(C:Addr)(us:List Value)(kw:List (Str×Value)):Room k (A.under (.builtin "type.__call__" #[.ref C::us,kw])):=
 #[r.hd,by have:=r.dp;rw [zP1];lia,by have:=r.un;rw [zOI];lia,UAm.trans r.gd]
theorem Room.depth {k:Nat}{A:eAK}(r:Room k A):A.depth<recursionLimit:=by have:=r.dp;lia
theorem Room.units {k:Nat}{A:eAK}(r:Room k A):A.units+64<cLine:=by have:=r.un;lia
def ZWP:TA:=λ_ H Q=>Q [] H
def ZOR (ta:TE)(tr:TA):TA:=λσ H Q=>ta σ H λx H1=>tr σ H1 λxs H2=>Q (x::xs) H2
section
variable {X:Cx}{e:Expr}{es:List Expr}{te:TE}{t:TA}{pos:Pos}
def zB5:PA X [] ZWP:=λ_ _ _ _ H Q I h=>Calls.spliced_nil #[[],H,I,.nil,h]
def zBP (ha:PE X e te)(hr:PA X es t)(hs:eAO (e::es) X.env=(false,eval e X.env)::eAO es X.env:=by rfl):PA X (e::es) (ZOR te t):=by
 intro pos pins s σ H Q I h;rw [hs];show wpAny _ _ (spliced ((false,eval e X.env)::eAN pos (eAO es X.env))) _ _ s;refine Calls.spliced_cons (thn (ha pins s σ H _ I h) λu s1 hM=>?_);obtain ⟨x,H1,I1,r1,q1⟩:=hM;refine thn (hr pos pins s1 σ H1 _ I1 q1) λus s2 hM=>?_;obtain ⟨xs,H2,I2,r2,q2⟩:=hM;exact#[x::xs,H2,I2,.cons r1 r2,q2]
def ZeO (t:TA):TE:=λσ H Q=>t σ H λxs H1=>xs.length<=eA5/\∀ p,H1 p=none->Q (.ref p) (upd H1 p (.tup xs))
def ZdR (t:TA):TE:=λσ H Q=>t σ H λxs H1=>xs.length<=eA5/\∀ p,H1 p=none->Q (.ref p) (upd H1 p (.lst xs))
def zB9 {x1}(h:PA X es t):PE X (.Tuple es x1 pos) (ZeO t):=by
 intro pins s σ H Q I hq;refine wpAny_Tuple_spliced (thn (h pos pins s σ H _ I hq) λus s1 ⟨xs,H1,I1,r,z,q⟩=>#[by rw [<- r.length];exact z,?_]);have hf:H1 (kZ s1)=none:=I1.hok.fresh (yAF _);refine#[.ref (kZ s1),upd H1 (kZ s1) (.tup xs),I1.laid (t':=s1.toks) (λb u e=>yAD _ e) (yAF _) ?_,rfl,q _ hf];exact#[z,us,r,#[_,yAc _ rfl,rfl,_,rfl]]
def zB1 (h:PA X es t):PE X (.List es pos) (ZdR t):=by
 intro pins s σ H Q I hq;refine wpAny_List_spliced (thn (h pos pins s σ H _ I hq) λus s1 ⟨xs,H1,I1,r,z,q⟩=>#[by rw [<- r.length];exact z,?_]);have hf:H1 (kZ s1)=none:=I1.hok.fresh (yAF _);refine#[.ref (kZ s1),upd H1 (kZ s1) (.lst xs),I1.laid (t':=s1.toks) (λb u e=>yAD _ e) (yAF _) ?_,rfl,q _ hf];exact#[z,us,0,r,yAc _ rfl]
end
abbrev Sp:=List V->Hp->VK->XK->Prop
abbrev CXT:=List Env->Hp->Shared->XK->Value->Shared->Prop
structure Env0 (P:eAD)(w:World)(K:Frag)(mg:Str->Option Value)(base:Heap)(A:eAK)(outer:List Env)(s:Shared)(H:Hp):Prop where
 frames:A.frames=some outer
 mod:Mod K mg base
 bs:∀ b o,base.get? b=some o->s.heap.get? b=some o/\H b=none
 bsz:base.objs.size<=(kZ s)
 funs:s.heap.FunFrames base outer
 frf:∀ b∈frs outer,H b=none
 hok:HOk P w H s.heap
 bare:AllBare s.gens
def CE (outer:List Env)(P:eAD)(w:World)(H:Hp)(s:Shared)(Q:VK)(u:Value)(s':Shared):Prop:=
 ∃ v H',s'.os=s.os/\AllBare s'.gens/\Un (frs outer) [] H H' s.heap s'.heap/\HOk P w H' s'.heap/\RelV v u/\Q v H'
def CR (CX:CXT)(outer:List Env)(P:eAD)(w:World)(H:Hp)(s:Shared)(Q:VK)(E:XK)(r:Result)(s':Shared):Prop:=
 match r with
 | .ok (.ret u)=>CE outer P w H s Q u s'
 | .ok _=>False
 | .error e=>CX outer H s E e s'
structure FnOk (P:eAD)(w:World)(K:Frag)(mg:Str->Option Value)(base:Heap)(CX:CXT)(k:Nat)(f:Addr)(fd:eAY)(ps:List Str)(sp:Sp):Prop where
 len:∀ vs H Q E,sp vs H Q E->vs.length=ps.length
 run:∀ (A:eAK) (outer:List Env) (s:Shared) (H:Hp) (args:Args) (us:List Value) (vs:List V) (Q:VK) (E:XK),Room k A->Env0 P w K mg base A outer s H->BindsTo s fd args (ps.zip us)->Vals vs us->sp vs H Q E ->
  codeAny (model P w) A (.call (.ref f) args) (CR CX outer P w H s Q E) s
theorem Env0.make {P:eAD}{w:World}{K:Frag}{mg:Str->Option Value}{base:Heap}{A:eAK}{outer:List Env}{s:Shared}{H:Hp}(e:Env0 P w K mg base A outer s H)(C:Addr)(us:List Value)(kw:List (Str×Value)) :
  Env0 P w K mg base (A.under (.builtin "type.__call__" #[.ref C::us,kw])) outer s H:=#[by first|exact e.frames|(simpa [Around.under,Code.envs,Code.isFrame,pushEnvs] using e.frames),e.mod,e.bs,e.bsz,e.funs,e.frf,e.hok,e.bare]
theorem Env0.in1 {P:eAD}{w:World}{K:Frag}{mg:Str->Option Value}{base:Heap}{A:eAK}{outer:List Env}{s:Shared}{H:Hp}(e:Env0 P w K mg base A outer s H) :
  Env0 P w K mg base A.in1 outer s H:=#[e.frames,e.mod,e.bs,e.bsz,e.funs,e.frf,e.hok,e.bare]
section
variable {X:Cx}{pins:kA}{σ:St}{H:Hp}{s s':Shared}
theorem Inv.env0 (I:Inv X pins σ H s):Env0 X.prog X.w X.K X.mg X.base X.A X.stack s H:=
 #[I.ok.frames,I.ok.mod,I.bs,yAp I.ok.bsz I.sz,I.stack,I.stkFree,I.hok,I.bare]
theorem Inv.after {Q:VK}{u:Value}(I:Inv X pins σ H s)(h:CE X.stack X.prog X.w H s Q u s'):EP X pins σ Q u s':=by
 obtain ⟨v,H',os,bare,un,hok,r,q⟩:=h;obtain ⟨hh,g,d,t,os'⟩:=s';obtain rfl:os'=s.os:=os;exact#[v,H',I.call (h':=hh) (g':=g) (d':=d) (t':=t) (ch:=[]) un hok bare (λb z=>absurd z (by simp)),r,q]
end
def ZWG (sp:Sp)(dvs:List V)(E:XK)(t:TA):TE:=λσ H Q=>t σ H λvs H1=>sp (vs++dvs) H1 Q E
def ZaM (C:Addr)(m:Str)(sp:Sp)(dvs:List V)(E:XK)(ta:TE)(t:TA):TE:=λσ H Q=>ta σ H λx H1=>∃ a dx fs,x=.ref a/\H1 a=some (.ins C dx fs)/\fs.lookup m=none /\
 t σ H1 λvs H2=>sp (x::(vs++dvs)) H2 Q E
def Ze0 (C:Addr)(sp:Sp)(dvs:List V)(E:XK)(t:TA):TE:=λσ H Q=>t σ H λvs H1=>∀ x dx,H1 x=none->H1 dx=none->dx≠x ->
 sp (.ref x::(vs++dvs)) (upd (upd H1 dx (.own x)) x (.ins C dx [])) (λv H2=>v=.non/\Q (.ref x) H2) E
def UAD (K:Frag)(fd:eAY)(ps:List Str)(ds:List Value):Prop:=
 ∀ (s:Shared) (us:List Value),K.In s.heap->(us++ds).length=ps.length->BindsTo s fd #[us,[]] (ps.zip (us++ds))
theorem UAD.all {K:Frag}{fd:eAY}{ps:List Str}(h:∀ us:List Value,us.length=ps.length->bindArgs fd #[us,[]]=pure (ps.zip us)):UAD K fd ps []:=λs us _ hl=>by
 rw [yBh] at hl ⊢;exact .of_eq (h us hl)
def ZDI (CX:CXT)(X:Cx)(E:XK):Prop:=∀ (pins:kA) (σ:St) (H:Hp) (s:Shared) (e:Value) (s':Shared),Inv X pins σ H s->CX X.stack H s E e s'->X.xe e s'
section
variable {X:Cx}{CX:CXT}{k:Nat}{f C:Addr}{fd:eAY}{ps:List Str}{sp:Sp}{dvs:List V}{ds:List Value}{E:XK}{x m:Str}{p pos apos:Pos}{e o:Expr}{es:List Expr}{ta:TE}{t:TA}
def zNF {pins:kA}{σ:St}{H:Hp}{s:Shared}{Q:VK}{us:List Value}{vs:List V}(F:FnOk X.prog X.w X.K X.mg X.base CX k f fd ps sp)(hr:Room k X.A)(hb:UAD X.K fd ps ds)(hd:Vals dvs ds)(hx:ZDI CX X E)
  (I:Inv X pins σ H s) (r:Vals vs us) (h:sp (vs++dvs) H Q E):kM (call (.ref f) us) (EP X pins σ Q) X.xe s:=by
 have r2:Vals (vs++dvs) (us++ds):=r.append hd;have hl:(us++ds).length=ps.length:=by rw [<- r2.length];exact F.len _ _ _ _ h
 refine yDc (yCX (F.run X.A X.stack s H #[us,[]] (us++ds) (vs++dvs) Q E hr I.env0 (hb s us I.kIn hl) r2 h) λr s' hq=>?_)
 cases r with
 | error e=>exact hx pins σ H s e s' I hq
 | ok fl=>
  cases fl with
  | ret u=>exact I.after hq
  | next=>exact eAQ hq
  | brk=>exact eAQ hq
  | cont=>exact eAQ hq
def zEK (F:FnOk X.prog X.w X.K X.mg X.base CX k f fd ps sp)(hr:Room k X.A)(hg:Gl X x)(hm:X.mg x=some (.ref f))(hk:keepIn X.K (.ref f)=true)(hb:UAD X.K fd ps ds)(hd:Vals dvs ds)(hx:ZDI CX X E)
  (ha:PA X (e::es) t) (hdb:(x==("__debug__":Str))=false:=by decide) (he:eAO (e::es) X.env=(false,eval e X.env)::eAO es X.env:=by rfl) (hpl:(eAN pos (eAO es X.env)).any (·.1)=false:=by rfl) :
  PE X (.Call (.Name x p) (e::es) [] pos) (ZWG sp dvs E t):=by
 intro pins s σ H Q I h;refine yCB (zD5 I hg hm ?_ hdb);refine yDF (h₀:=X.base) I.ok.mod.kin hk (thn (ha pos pins s σ H _ I h) λus s1 hM=>?_) he hpl;obtain ⟨vs,H1,I1,r,q⟩:=hM;refine#[I1.kIn,?_];exact zNF F hr hb hd hx I1 r q
def zAS {pl:Sem Bool}(he:PE X o ta)(c:Cls X.K C)(hm:Meth X.K C m f)(F:FnOk X.prog X.w X.K X.mg X.base CX k f fd ps sp)(hr:Room k X.A)(hb:UAD X.K fd ps ds)(hd:Vals dvs ds)(hx:ZDI CX X E)(ha:PA X (e::es) t)
  (hst:eAO (e::es) X.env=(false,eval e X.env)::eAO es X.env:=by rfl) (hpl:(eAN pos (eAO es X.env)).any (·.1)=false:=by rfl)
  (ht:eval (.Call (.Attribute o m apos) (e::es) [] pos) X.env=(do
   let ov <- eval o X.env
   standAt apos.atName
   let (f,first) <- holding [ov] (getMethod ov m pl)
   callWith pos f first (eAN pos (eAO (e::es) X.env)) (backToKw pos (keywordEach [] X.env))):=by rfl) :
  PE X (.Call (.Attribute o m apos) (e::es) [] pos) (ZaM C m sp dvs E ta t):=by
 intro pins s σ H Q I h;refine yDQ (pl:=pl) (thn (he pins s σ H _ I h) λu s1 hM=>?_) ht;obtain ⟨x,H1,I1,rx,a,dx,fs,ex,ea,l,q⟩:=hM;subst ex;obtain rfl:u=eAF a:=rx;refine zI2 I1 ea c hm l ?_;refine yDF (first:=[.ref a]) (h₀:=X.base) I.ok.mod.kin hm.kp (thn (ha pos pins s1 σ H1 _ I1 q) λus s2 hM=>?_) hst hpl;obtain ⟨vs,H2,I2,r,q2⟩:=hM;refine#[I2.kIn,?_];exact zNF (us:=.ref a::us) (vs:=.ref a::vs) F hr hb hd hx I2 (.cons rfl r) q2
def zBE {pl:Sem Bool}(he:PE X o ta)(c:Cls X.K C)(hm:Meth X.K C m f)(F:FnOk X.prog X.w X.K X.mg X.base CX k f fd ps sp)(hr:Room k X.A)(hb:UAD X.K fd ps ds)(hd:Vals dvs ds)(hx:ZDI CX X E)
  (ht:eval (.Call (.Attribute o m apos) [] [] pos) X.env=(do
   let ov <- eval o X.env
   standAt apos.atName
   let (f,first) <- holding [ov] (getMethod ov m pl)
   callWith pos f first (eAN pos (eAO [] X.env)) (backToKw pos (keywordEach [] X.env))):=by rfl) :
  PE X (.Call (.Attribute o m apos) [] [] pos) (ZaM C m sp dvs E ta ZWP):=by
 intro pins s σ H Q I h;refine yDQ (pl:=pl) (thn (he pins s σ H _ I h) λu s1 hM=>?_) ht;obtain ⟨x,H1,I1,rx,a,dx,fs,ex,ea,l,q⟩:=hM;subst ex;obtain rfl:u=eAF a:=rx;refine zI2 I1 ea c hm l ?_;exact PySem.W.callWith_K0 (first:=[.ref a]) I1.kIn hm.kp (zNF (us:=[.ref a]) (vs:=[.ref a]) F hr hb hd hx I1 (.cons rfl .nil) q)
structure Mk (K:Frag)(C f:Addr):Prop where
 makes:PySem.W.makesIn K C=true
 init:kF C "__init__" f
 fn:kJ f
 kp:keepIn K (.ref C)=true
def zV2 {pins:kA}{σ:St}{H:Hp}{s:Shared}{Q:VK}{us:List Value}{vs:List V}(M:Mk X.K C f)(F:FnOk X.prog X.w X.K X.mg X.base CX k f fd ps sp)(hr:Room (k+1) X.A)(hb:UAD X.K fd ps ds)(hd:Vals dvs ds)
  (hx:ZDI CX X E) (I:Inv X pins σ H s) (r:Vals vs us)
  (h:∀ x dx,H x=none->H dx=none->dx≠x->sp (.ref x::(vs++dvs)) (upd (upd H dx (.own x)) x (.ins C dx [])) (λv H2=>v=.non/\Q (.ref x) H2) E) :
  kM (call (.ref C) us) (EP X pins σ Q) X.xe s:=by
 have hq:=h ((kZ s)+1) (kZ s) (I.hok.fresh (yDe _)) (I.hok.fresh (yAF _)) (yAo (yDW _));have I2:=Inv.made (C:=C) I;have r2:Vals (V.ref ((kZ s)+1)::(vs++dvs)) (eAF ((kZ s)+1)::(us++ds)):=.cons rfl (r.append hd)
 have hl:(eAF ((kZ s)+1)::us++ds).length=ps.length:=by
  have e:=r2.length;rw [F.len _ _ _ _ hq] at e;exact e.symm
 refine yDc (zV6 (f:=f) I.kIn M.makes M.init (yAm.mp M.fn) (yCX (F.run _ X.stack _ _ #[eAF ((kZ s)+1)::us,[]] (eAF ((kZ s)+1)::(us++ds)) _ _ E (hr.make C us [])
  (I2.env0.make C us []) (hb _ (eAF ((kZ s)+1)::us) I2.kIn hl) r2 hq) λr s' hq'=>?_))
 cases r with
 | error e=>exact hx pins σ _ _ e s' I2 hq'
 | ok fl=>
  cases fl with
  | ret u=>
   obtain ⟨v,H',I3,rv,ev,q3⟩:=I2.after hq';subst ev;exact#[rv,#[V.ref ((kZ s)+1),H',I3,rfl,q3]]
  | next=>exact eAQ hq'
  | brk=>exact eAQ hq'
  | cont=>exact eAQ hq'
def zGP (M:Mk X.K C f)(F:FnOk X.prog X.w X.K X.mg X.base CX k f fd ps sp)(hr:Room (k+1) X.A)(hg:Gl X x)(hm:X.mg x=some (.ref C))(hb:UAD X.K fd ps ds)(hd:Vals dvs ds)(hx:ZDI CX X E)
  (ha:PA X (e::es) t) (hdb:(x==("__debug__":Str))=false:=by decide) (he:eAO (e::es) X.env=(false,eval e X.env)::eAO es X.env:=by rfl) (hpl:(eAN pos (eAO es X.env)).any (·.1)=false:=by rfl) :
  PE X (.Call (.Name x p) (e::es) [] pos) (Ze0 C sp dvs E t):=by
 intro pins s σ H Q I h;refine yCB (zD5 I hg hm ?_ hdb);refine yDF (h₀:=X.base) I.ok.mod.kin M.kp (thn (ha pos pins s σ H _ I h) λus s1 hM=>?_) he hpl;obtain ⟨vs,H1,I1,r,q⟩:=hM;refine#[I1.kIn,?_];exact zV2 M F hr hb hd hx I1 r q
end
section
variable {X:Cx}{CX:CXT}{k:Nat}{f C:Addr}{fd:eAY}{ps ks:List Str}{sp:Sp}{E:XK}{x m:Str}{p pos apos kpos:Pos}{e o:Expr}{es:List Expr}{kws:List Keyword}{te ta:TE}{t tk:TA}{nm:Option Str}
structure KBinds (K:Frag)(fd:eAY)(ps ks:List Str)(g:List Value->List Value->List Value)(gV:List V->List V->List V):Prop where
 to:∀ (s:Shared) (us ws:List Value),K.In s.heap->(g us ws).length=ps.length->BindsTo s fd #[us,ks.zip ws] (ps.zip (g us ws))
 rel:∀ {vs:List V} {us:List Value} {zs:List V} {ws:List Value},Vals vs us->Vals zs ws->Vals (gV vs zs) (g us ws)
variable {g:List Value->List Value->List Value}{gV:List V->List V->List V}
end
structure UAC (N P:List Str)(sc:Scope):Prop where
 kind:sc.kind=.function
 co:sc.isCoroutine=false
 gen:sc.isGenerator=false
 nd:N.Nodup
 pre:N.take P.length=P
 par:∀ x∈P,sc.names.lookup x=some .local \/ sc.names.lookup x=some .cell
 nofree:∀ y∈sc.names,y.2≠.free
def zKW {kindOf:Str->Option NameKind}{x:Str}:∀ {binds:List (Str×Value)} {m:Str->Option Value},(∀ v,(x,v)∉binds)->bindL kindOf binds m x=m x
 | [],_,_=>rfl
 | (n,v)::r,m,h=>by
  unfold bindL;rw [zKW λw hw=>h w (yAL _ hw)]
  split
  ·have:x≠n:=by rintro rfl;exact h v yAU
   simp [this]
  ·rfl
def zKZ {kindOf:Str->Option NameKind}{x:Str}:∀ {binds:List (Str×Value)} {m:Str->Option Value},(∀ v,(x,v)∉binds)->bindC kindOf binds m x=m x
 | [],_,_=>rfl
 | (n,v)::r,m,h=>by
  unfold bindC;rw [zKZ λw hw=>h w (yAL _ hw)]
  split
  ·rfl
  ·have:x≠n:=by rintro rfl;exact h v yAU
   simp [this]
def zK2 {kindOf:Str->Option NameKind}{x:Str}{v:Value}:∀ {P:List Str} {vs:List Value} {i:Nat} {m:Str->Option Value},P.Nodup->P[i]?=some x->vs[i]?=some v->kindOf x=some .local ->
  bindL kindOf (P.zip vs) m x=some v
 | [],_,_,_,_,h,_,_=>by simp at h
 | _::_,[],_,_,_,_,h,_=>by simp at h
 | p::P,w::vs,0,m,nd,h1,h2,hk=>by
  simp at h1 h2;subst h1;subst h2
  show bindL kindOf ((p,w)::P.zip vs) m p=_;unfold bindL;rw [zKW λv hv=>(yDg.mp nd).1 (List.of_mem_zip hv).1,yAS hk]
  simp
 | p::P,w::vs,i+1,m,nd,h1,h2,hk=>by
  show bindL kindOf ((p,w)::P.zip vs) m x=_;unfold bindL;exact zK2 (i:=i) (yDg.mp nd).2 (by simpa using h1) (by simpa using h2) hk
def zKX {kindOf:Str->Option NameKind}{x:Str}{v:Value}:∀ {P:List Str} {vs:List Value} {i:Nat} {m:Str->Option Value},P.Nodup->P[i]?=some x->vs[i]?=some v->kindOf x≠some .local ->
  bindC kindOf (P.zip vs) m x=some v
 | [],_,_,_,_,h,_,_=>by simp at h
 | _::_,[],_,_,_,_,h,_=>by simp at h
 | p::P,w::vs,0,m,nd,h1,h2,hk=>by
  simp at h1 h2;subst h1;subst h2
  show bindC kindOf ((p,w)::P.zip vs) m p=_;unfold bindC;rw [zKZ λv hv=>(yDg.mp nd).1 (List.of_mem_zip hv).1,yAT hk]
  simp
 | p::P,w::vs,i+1,m,nd,h1,h2,hk=>by
  show bindC kindOf ((p,w)::P.zip vs) m x=_;unfold bindC;exact zKX (i:=i) (yDg.mp nd).2 (by simpa using h1) (by simpa using h2) hk
def UAf (N:List Str)(vs:List V):St:=vs.map some++eAZ (N.length-vs.length) none
def ZT1 (CX:CXT)(P:eAD)(w:World)(K:Frag)(mg:Str->Option Value)(base:Heap)(N:List Str)(qual:Str)(scope:Scope)(f:Addr)(cd:Value)(A:eAK)(outer:List Env)(s:Shared)(H:Hp)(E:XK):Cx where
 prog:=P
 w:=w
 K:=K
 mg:=mg
 base:=base
 A:=A.deeper (envOfC qual scope (kZ s) f cd)
 N:=N
 s₀:=s
 H₀:=H
 env:=envOfC qual scope (kZ s) f cd
 outer:=outer
 stack:=envOfC qual scope (kZ s) f cd::outer
 ex:=[]
 calm:=true
 fn:=λ_=>true
 pn:=[]
 xe:=λe s'=>wpAny (model P w) (A.deeper (envOfC qual scope (kZ s) f cd)) (leaving (envOfC qual scope (kZ s) f cd) e) (λ_ s''=>CX outer H s E e s'') (λe' s''=>CX outer H s E e' s'') s'
def zNM {sc:Scope}{n:Nat}{x:Str}(h:sc.names.lookup x=some .cell):∃ c,(cellsFrom n sc.names []).lookup x=some c:=by
 have q:=PySem.W.cellsFrom_some sc.names n [] (.inl h);exact yBt.mp q
def zRZ {CX:CXT}{P:eAD}{w:World}{K:Frag}{mg:Str->Option Value}{base:Heap}{N ps:List Str}{qual:Str}{scope:Scope}{f:Addr}{cd:Value}{A:eAK}{outer:List Env}{s s1:Shared}{H:Hp}{E:XK}{us:List Value}{vs:List V}
  (S:UAC N ps scope) (hd:A.handled=none) (e0:Env0 P w K mg base A outer s H) (hl:vs.length=ps.length) (r:Vals vs us)
  (x:InCallC s (kZ s) (bindL (envOfC qual scope (kZ s) f cd).kindOf (ps.zip us) λ_=>none) (cellsFrom ((kZ s)+1) scope.names []) (bindC (envOfC qual scope (kZ s) f cd).kindOf (ps.zip us) λ_=>none) s1) :
  Inv (ZT1 CX P w K mg base N qual scope f cd A outer s H E) [] (UAf N vs) H s1:=by
 have hpl:ps.length<=N.length:=by have:=congrArg List.length S.pre;rw [yAe] at this;lia
 obtain ⟨h1,tk,rfl,hk⟩:=x.done;have noA:∀ b:Addr,b∉(ZT1 CX P w K mg base N qual scope f cd A outer s H E).ex:=λb z=>absurd (show b∈([]:List Addr) from z) (by simp)
 refine#[#[e0.mod,S.kind,rfl,rfl,yAF _,λy z c h1 h2=>?_,λy hy=>?_,λy c _ h=>?_,λ_=>hd,Around.frames_deeper e0.frames,.inr #[rfl,rfl],λb z=>absurd z (noA b),e0.bs,e0.bsz,λb _ _=>noA b,λb z=>absurd z (noA b),e0.funs,e0.frf],
  rfl,e0.bare,Un.kept hk,#[_,x.toInCall.ns,λi y v h1 h2 h3=>?_],λy c h=>#[_,x.cell y c h],e0.hok.fresh (yAF _),λy c h=>?_,λp hp=>absurd (show p∈([]:kA) from hp) (by simp),e0.hok.kept hk,?_]
 ·exact name_of_addr x.apart (yBq h1) (yBq h2)
 ·have hy:scope.names.lookup y=some .cell \/ scope.names.lookup y=some .free:=hy
  rcases hy with hy|hy
  ·exact zNM hy
  ·exact absurd rfl (S.nofree _ (yBq hy))
 ·exact yDU (x.above y c (yBq h))
 ·have hi:i<vs.length:=by
   unfold UAf at h2
   by_cases hi:i<vs.length
   ·exact hi
   ·rw [yAt (by simpa using hi)] at h2
    rw [yEH] at h2
    split at h2<;>cases h2
  have ha:vs[i]?=some v:=by
   unfold UAf at h2;rw [yAv (by simpa using hi),yAa] at h2
   cases e:vs[i]? with
   | none=>rw [e] at h2;cases h2
   | some a=>rw [e] at h2;cases h2;rfl
  obtain ⟨u,hu,rv⟩:=r.get ha
  have hp:ps[i]?=some y:=by
   rw [<- S.pre,List.getElem?_take_of_lt oz];exact h1
  have ndP:ps.Nodup:=by rw [<- S.pre];exact S.nd.sublist (yEA _ _)
  refine#[u,rv,?_]
  rcases S.par y (yAk hp) with k|k
  ·exact .inl #[k,zK2 ndP hp hu k]
  ·obtain ⟨c,e⟩:=zNM (n:=(kZ s)+1) k
   refine .inr #[.inl k,c,e,?_];have q:=x.cell y c e;rw [zKX ndP hp hu (by show scope.names.lookup y≠_;rw [k];decide)] at q;exact q
 ·exact e0.hok.fresh (yDU (x.above y c (yBq h)))
 ·unfold UAf
  show _=N.length;rw [yAV,yAA,List.length_replicate];lia
def zaT {CX:CXT}{P:eAD}{w:World}{K:Frag}{mg:Str->Option Value}{base:Heap}{k:Nat}{f:Addr}{name qual:Str}{params:Arguments}{body:List Stmt}{scope:Scope}{dV kV doc pm cdv ct oc:Value}{an od:Option Addr}
  {osl:Array (Option Value)} {N ps:List Str} {sp:Sp} (lk:K.lookup f=some #[oc,od,.func (fnOf name qual params body scope dV kV doc pm an cdv ct),osl]) (hcd:PySem.W.codeIn K cdv qual=true) (S:UAC N ps scope)
  (len:∀ vs H Q E,sp vs H Q E->vs.length=ps.length)
  (hbody:∀ (A:eAK) (outer:List Env) (s:Shared) (H:Hp) (vs:List V) (Q:VK) (E:XK),Room k (A.deeper (envOfC qual scope (kZ s) f cdv))->sp vs H Q E ->
   ∃ t,PSs (ZT1 CX P w K mg base N qual scope f cdv A outer s H E) body t/\t { nx:=λ_ H'=>Q .non H',rt:=Q } (UAf N vs) H) :
  FnOk P w K mg base CX (k+1) f (fnOf name qual params body scope dV kV doc pm an cdv ct) ps sp:=by
 refine#[len,λA outer s H args us vs Q E hr e0 hb r hsp=>?_];have hl:=len _ _ _ _ hsp;have KX:K.In s.heap:=e0.mod.kin.keeps λb o e=>(e0.bs b o e).1;have lim:s.heap.NoLimit:=e0.mod.nolimit.keeps λb o e=>(e0.bs b o e).1
 have hkind:∀ y∈ps.zip us,scope.names.lookup y.1=some .local \/ (scope.names.lookup y.1=some .cell/\((cellsFrom ((kZ s)+1) scope.names []).lookup y.1).isSome=true):=λ⟨n,v⟩ hy=>by
  rcases S.par n (List.of_mem_zip hy).1 with q|q
  ·exact .inl q
  ·exact .inr #[q,PySem.W.cellsFrom_some _ _ _ (.inl q)]
 refine codeAny_call_function hr.depth (KX _ _ lk) rfl S.co S.gen rfl (PySem.W.codeRec_of KX hcd) (hb _ _ _ _ ?_);refine wpAny_newFunctionEnv_cells S.kind hkind λenv he s1 x=>?_;subst he;refine#[lim.keeps x.toInCall.keep,codeAny_func ?_];obtain ⟨t,ht,hq⟩:=hbody A outer s H vs Q E (hr.deeper _) hsp;have I:Inv (ZT1 CX P w K mg base N qual scope f cdv A outer s H E) [] (UAf N vs) H s1:=zRZ S hr.hd e0 hl r x;refine yBW (ht [] s1 (UAf N vs) H _ I hq) (λfl s' hs=>?_) λe s' hs=>hs
 have fin:∀ {σ':St} {H':Hp} {v:V} {u:Value},Inv (ZT1 CX P w K mg base N qual scope f cdv A outer s H E) [] σ' H' s'->RelV v u->Q v H'->CE outer P w H s Q u s':=
  λ{σ' H' v u} J rv q=>#[v,H',J.os,J.bare,J.base,J.hok,rv,q]
 cases fl with
 | ret u=>
  obtain ⟨v,σ',H',J,rv,q⟩:=hs;exact fin J rv q
 | next=>
  obtain ⟨σ',H',J,q⟩:=hs;exact fin (v:=V.non) (u:=eAE) J rfl q
 | brk=>
  obtain ⟨_,_,_,q⟩:=hs;exact eAQ q
 | cont=>
  obtain ⟨_,_,_,q⟩:=hs;exact eAQ q
section
variable {X:Cx}{x:Str}{p pos:Pos}{e:Expr}{es:List Expr}{t:TA}{id T:String}{r:List V->Hp->VK->Prop}
def tCB (r:List V->Hp->VK->Prop)(t:TA):TE:=λσ H Q=>t σ H λvs H1=>r vs H1 Q
def zAD (hc:ZDK X (.builtin id) r)(hg:Gl X x)(hm:X.mg x=none)(hv:bootBuiltins x=some (.builtin id))(ha:PA X (e::es) t)(hn:x≠"__name__":=by decide)(hdb:(x==("__debug__":Str))=false:=by decide)
  (he:eAO (e::es) X.env=(false,eval e X.env)::eAO es X.env:=by rfl) (hpl:(eAN pos (eAO es X.env)).any (·.1)=false:=by rfl):PE X (.Call (.Name x p) (e::es) [] pos) (tCB r t):=by
 intro pins s σ H Q I h;refine yCB (zEV I hg hm hv ?_ hn hdb);refine yDR (thn (ha pos pins s σ H _ I h) λus s1 hM=>?_) he hpl;obtain ⟨vs,H1,I1,r1,q1⟩:=hM;exact hc pins s1 σ H1 vs us Q I1 r1 q1
def zB6 (hc:ZDK X (.type T) r)(hg:Gl X x)(hm:X.mg x=none)(hv:bootBuiltins x=some (.type T))(ha:PA X (e::es) t)(hn:x≠"__name__":=by decide)(hdb:(x==("__debug__":Str))=false:=by decide)
  (he:eAO (e::es) X.env=(false,eval e X.env)::eAO es X.env:=by rfl) (hpl:(eAN pos (eAO es X.env)).any (·.1)=false:=by rfl):PE X (.Call (.Name x p) (e::es) [] pos) (tCB r t):=by
 intro pins s σ H Q I h;refine yCB (zEV I hg hm hv ?_ hn hdb);refine yCl (thn (ha pos pins s σ H _ I h) λus s1 hM=>?_) he hpl;obtain ⟨vs,H1,I1,r1,q1⟩:=hM;exact hc pins s1 σ H1 vs us Q I1 r1 q1
end
end L2
namespace HT
open PySem PyProof.Rows
def lexLt:List Int->List Int->Bool
 | [],[]=>false
 | [],_::_=>true
 | _::_,[]=>false
 | x::xs,y::ys=>if x=y then lexLt xs ys else decide (x<y)
theorem lexLt_cons (x y:Int)(xs ys:List Int):lexLt (x::xs) (y::ys)=if x=y then lexLt xs ys else decide (x<y):=rfl
def zIY:lexLt [] []=false:=rfl
def zHS (y:Int)(ys:List Int):lexLt [] (y::ys)=true:=rfl
def zHN (x:Int)(xs:List Int):lexLt (x::xs) []=false:=rfl
theorem eqAt_int (A:eAK)(s:Shared)(a:Int)(t:Tok)(c:Int)(u:Tok):∃ e,SeqAt.EqAt A s (.int a t) (.int c u) e/\(e=true ↔ a=c):=
 #[(a==c),yDl a t c u,by simp]
theorem rcLt_int (A:eAK)(s:Shared)(a:Int)(t:Tok)(c:Int)(u:Tok)(prog:eAD)(w:World)(E:kW)(Q:kW)(h:Q (.bool (decide (a<c))) s) :
  wpAny (model prog w) A (richCompare .Lt (.int a t) (.int c u)) Q E s:=
 (PyProof.Rows.lt_int h:wpAny (model prog w) A (eAP .Lt (.int a t) (.int c u)) Q E s)
section
open PySem.SeqAt
open PySem.AutoSeq1 (wpAny_loadPart')
open PySem.MeetsSeq PySem.MeetsSeq2 PySem.MeetsSeq3
def zIZ (l b:Addr)(items items2:Array Value)(n n2:Nat)(dd dd2:Option Addr)(sl sl2:Array (Option Value))(ns ms:List Int)(hi:eAa items.toList ns)(hj:eAa items2.toList ms) :
  Meets (Builtin.«tuple.__lt__» #[[.ref l,.ref b],[]])
   (λ_ R s=>s.heap.get? l=some { cls:=.type "tuple",dict:=dd,data:=.seq items n,slots:=sl }/\s.heap.get? b=some { cls:=.type "tuple",dict:=dd2,data:=.seq items2 n2,slots:=sl2 } /\
    R (.ok (.ret (.bool (lexLt ns ms)))) s):=
 .of_wp λprog w A R s h=>by
  obtain ⟨hp,g,d,tk,os⟩:=s;obtain ⟨hl,hb,h⟩:=h;have f2:=AutoSeq1.sub_tuple_tuple;have z1:items.size=ns.length:=by rw [<- hi.length];simp
  have z2:items2.size=ms.length:=by rw [<- hj.length];simp
  wp_walk using yBM hl,yBM hb,wpAny_forIn_list _ (λrest b s'=>b.1=none/\s'=#[hp,g,d,tk,os]/\∃ (vs ws:List Value) (ns' ms':List Int),rest=vs.zip ws /\
   eAa vs ns'/\eAa ws ms'/\ns'.length+items2.size=ms'.length+items.size/\R (.ok (.ret (.bool (lexLt ns' ms')))) #[hp,g,d,tk,os]) _
  case turn=>
   rintro ⟨y,x⟩ rest b s' ⟨hb',rfl,vs,ws,ns',ms',hz,hvi,hwi,hlen,hR⟩
   cases hvi with
   | nil=>rw [List.zip_nil_left] at hz;cases hz
   | cons a t hvi'=>
    cases hwi with
    | nil=>rw [List.zip_nil_right] at hz;cases hz
    | cons c u hwi'=>
     rw [List.zip_cons_cons] at hz
     injection hz with hyx hrest
     injection hyx with hy hx
     subst hy hx;rw [lexLt_cons] at hR;simp only [yBK] at hlen;obtain ⟨e,he,hiff⟩:=eqAt_int A.in1 #[hp,g,d,tk,os] a t c u;refine yAC (he prog w _ _ ?_)
     cases e with
     | true=>
      rw [yAS (hiff.mp rfl)] at hR
      wp_walk
      exact#[rfl,rfl,_,_,_,_,hrest,hvi',hwi',oz,hR]
     | false=>
      rw [yAT (λq=>absurd (hiff.mpr q) yAg)] at hR;have hri:=rcLt_int A.in1 #[hp,g,d,tk,os] a t c u prog w
      wp_walk using hri
      exact#[_,rfl,by simpa using hR]
  case fin=>
   rintro ⟨b1,b2⟩ s' ⟨hb',rfl,vs,ws,ns',ms',hz,hvi,hwi,hlen,hR⟩
   simp only at hb';subst hb'
   have hv:lexLt ns' ms'=decide (items.size<items2.size):=by
    cases hvi with
    | nil=>
     cases hwi with
     | nil=>
      simp only [yCp] at hlen;rw [zIY];exact (yAG oz).symm
     | cons c u hw=>
      simp only [yCp,yBK] at hlen;rw [zHS];exact (yAJ oz).symm
    | cons a t hv=>
     cases hwi with
     | nil=>
      simp only [yCp,yBK] at hlen;rw [zHN];exact (yAG oz).symm
     | cons c u hw=>
      rw [List.zip_cons_cons] at hz
      cases hz
   rw [hv] at hR
   wp_walk
   exact#[_,rfl,by simpa [Builtin.Tuple.tupleCompareSizes] using hR]
  case h=>
   exact#[rfl,rfl,items.toList,items2.toList,ns,ms,rfl,hi,hj,oz,h]
end
section
variable {prog:eAD}{w:World}{A:eAK}{E:kW}{s:Shared}
theorem lt_tupInts {l b:Addr}{items items2:Array Value}{ns ms:List Int}{Q:kW}(hl:IsTup s.heap l items)(hb:IsTup s.heap b items2)(hi:eAa items.toList ns)(hj:eAa items2.toList ms)
  (hu:A.units<cLine) (h:Q (.bool (lexLt ns ms)) s):wpAny (model prog w) A (eAP .Lt (.ref l) (.ref b)) Q E s:=by
 obtain ⟨⟨cls,dd,data,sl⟩,ho,hc,n,hd⟩:=id hl;obtain ⟨⟨cls2,dd2,data2,sl2⟩,ho2,hc2,n2,hd2⟩:=id hb;simp only at hc hd hc2 hd2;subst hc hd hc2 hd2
 exact richCompare_meets_room (op:=.Lt) #[_,ho,rfl] #[_,ho2,rfl] PySem.F.slot_tuple_lt PySem.F.entry_tuple_lt (PySem.F.args_tuple_lt_2 _ _) (zIZ l b items items2 n n2 dd dd2 sl sl2 ns ms hi hj)
  #[ho,ho2,show Value.bool (lexLt ns ms)≠Value.notImplemented/\Q (.bool (lexLt ns ms)) s from#[(λx=>nomatch x),h]] hu
def sIx (n d:Nat):Option Int->Nat
 | none=>d
 | some v=>if v<0 then (v+(n:Int)).toNat else min v.toNat n
def zcO (n d:Nat)(hd:d<=n)(o:Option Int):sIx n d o<=n:=by
 cases o with
 | none=>exact hd
 | some v=>
  show (if v<0 then (v+(n:Int)).toNat else min v.toNat n)<=n
  by_cases hv:v<0
  ·rw [yAS hv];lia
  ·rw [yAT hv];exact Nat.min_le_right _ _
def zPR (v:Int)(n d:Nat):(if v<0 then max (v+(n:Int)) 0 else min v (n:Int))=((sIx n d (some v):Nat):Int):=by
 show (if v<0 then max (v+(n:Int)) 0 else min v (n:Int))=(((if v<0 then (v+(n:Int)).toNat else min v.toNat n):Nat):Int)
 by_cases hv:v<0
 ·simp only [yAS hv];lia
 ·simp only [yAT hv];lia
def zOV (lo hi:Option Int)(n:Nat):Builtin.Slice.sliceAdjust lo hi 1 (n:Int)=(((sIx n 0 lo:Nat):Int),((sIx n n hi:Nat):Int)):=by
 have h1:¬((1:Int)<0):=by lia
 unfold Builtin.Slice.sliceAdjust;simp only [h1,yCR];refine Prod.ext ?_ ?_
 ·cases lo with
  | none=>rfl
  | some v=>exact zPR v n 0
 ·cases hi with
  | none=>rfl
  | some v=>exact zPR v n n
def zO3 (i j:Nat):Builtin.Slice.slicePlaces (i:Int) (j:Int) 1=j-i:=by
 unfold Builtin.Slice.slicePlaces;have h1:(1:Int) > 0:=by lia
 simp only [h1,yDs,Int.ediv_one]
 split<;>lia
def zI8 {v:Value}{o:Option Int}{Q:Option Int->Shared->Prop}(p:IsPart v o)(h:Q o s):wpAny (model prog w) A (Builtin.Slice.slicePartIndex v) Q E s:=by
 cases p with
 | none=>exact slicePart_none h
 | int i t=>exact slicePart_int h
def zDG {sl:Addr}{vl vu:Value}{lo hi:Option Int}{n:Nat}{Q:Int×Int×Nat->Shared->Prop}(hs:s.heap.IsSliceOf sl vl vu .none)(pl:IsPart vl lo)(pu:IsPart vu hi)
  (h:Q (((sIx n 0 lo:Nat):Int),1,sIx n n hi-sIx n 0 lo) s):wpAny (model prog w) A (Builtin.Slice.sliceApplied (.ref sl) (pure (n:Int))) Q E s:=by
 obtain ⟨os,hos,hcs,hds⟩:=id hs;unfold Builtin.Slice.sliceApplied Builtin.Slice.sliceFields;refine yAC (yAC (yCY hos hds (x:=vl) rfl (yAC (yCY hos hds (x:=vu) rfl (yAC (yCY hos hds (x:=.none) rfl (yAO ?_)))))));refine yAC (slicePart_none ?_);show wpAny _ _ (if ((1:Int)==0)=true then _ else _) _ _ s;rw [yAT dQ];refine yAC (zI8 pl (yAC (zI8 pu (yAC (yAO ?_)))));show wpAny _ _ (match Builtin.Slice.sliceAdjust lo hi 1 (n:Int) with|(lo,hi)=>pure (lo,(1:Int),Builtin.Slice.slicePlaces lo hi 1)) _ _ s;rw [zOV lo hi n];show wpAny _ _ (pure (((sIx n 0 lo:Nat):Int),(1:Int),Builtin.Slice.slicePlaces ((sIx n 0 lo:Nat):Int) ((sIx n n hi:Nat):Int) 1)) _ _ s;rw [zO3];exact yAO h
def zU3 (xs:Array Value)(i k:Nat):((eAJ k).filterMap λ(m:Nat)=>xs[((i:Int)+(m:Int)*1).toNat]?).toArray=((xs.toList.drop i).take k).toArray:=by
 have e:(λ(m:Nat)=>xs[((i:Int)+(m:Int)*1).toNat]?)=λm=>xs[i+m]?:=by
  funext m
  have:((i:Int)+(m:Int)*1).toNat=i+m:=by lia
  rw [this]
 rw [e]
 have:=pick_run xs i k
 rw [List.filterMap_map] at this;have e2:((λx=>xs[x]?) ∘ λx=>i+x)=λm=>xs[i+m]?:=rfl;rw [e2] at this;rw [this]
theorem getItem_tuple_cut {t sl:Addr}{items:Array Value}{vl vu:Value}{lo hi:Option Int}{Q:kW}(ht:IsTup s.heap t items)(hs:s.heap.IsSliceOf sl vl vu .none)(pl:IsPart vl lo)(pu:IsPart vu hi)
  (hw:¬(sIx items.size 0 lo=0/\sIx items.size items.size hi=items.size))
  (h:Q (.ref (kZ s)) { s with heap:=s.heap.push { cls:=.type "tuple",data:=.seq ((items.toList.drop (sIx items.size 0 lo)).take (sIx items.size items.size hi-sIx items.size 0 lo)).toArray } })
  (hsz:items.size<=eA5):wpAny (model prog w) A (getItem (.ref t) (.ref sl)) Q E s:=by
 have htake:sizeOk (.seq ((items.toList.drop (sIx items.size 0 lo)).take (sIx items.size items.size hi-sIx items.size 0 lo)).toArray):=by
  show ((items.toList.drop (sIx items.size 0 lo)).take (sIx items.size items.size hi-sIx items.size 0 lo)).toArray.size<=eA5;rw [yAM,yAe,yCK,yBJ];lia
 have hj:sIx items.size items.size hi<=items.size:=zcO _ _ (yAF _) hi;obtain ⟨os,hos,hcs,hds⟩:=id hs;have hTs:s.TypeIs (.ref sl) "slice":=#[os,hos,hcs];unfold getItem
 try with_reducible refine yBa ?_
 first|refine yAC (yAO ?_)|skip
 refine yAC (wpAny_sequenceKey ht.typeIs dQ ?_)
 refine yAC (yDE (name:=eAb "__getitem__") ht.typeIs yCT
  (yEJ yCT ht.typeIs entry_tuple_getitem ?_ (args_tuple_getitem _ _)))
 show wpAny _ _ (Builtin.Tuple.tupleItemsOf (.ref t) >>= _) _ _ s;refine yAC (tupleItemsOf_ ht ?_);refine yAC (yEP hTs ?_);rw [yAS dQ];refine yAC (zDG hs pl pu ?_)
 have hno:¬((((sIx items.size 0 lo:Nat):Int)==0&&(1:Int)==1&&(sIx items.size items.size hi-sIx items.size 0 lo)==items.size)=true):=by
  intro q;rw [yAN,yAN] at q;have q1:((sIx items.size 0 lo:Nat):Int)=0:=eq_of_beq q.1.1;have q2:sIx items.size items.size hi-sIx items.size 0 lo=items.size:=eq_of_beq q.2;exact hw #[ oz,oz]
 show wpAny _ _ (if (((sIx items.size 0 lo:Nat):Int)==0&&(1:Int)==1&&(sIx items.size items.size hi-sIx items.size 0 lo)==items.size)=true then _ else _) _ _ s;rw [yAT hno,zU3]
 first
  | exact yAC (m:=Builtin.Tuple.tupleExact _) (yBs (yAO ⟨_,rfl,yAO h⟩) htake)
  | exact yAC (m:=Builtin.Tuple.tupleExact _) (yBs (yAC (yAO (yAO ⟨_,rfl,yAO h⟩))) htake)
  | exact yAC (yAC (m:=Builtin.Tuple.tupleExact _) (yBs (yAO (yAO ⟨_,rfl,yAO h⟩)) htake))
  | exact yAC (yAC (m:=Builtin.Tuple.tupleExact _) (yBs (yAO ⟨_,rfl,yAO h⟩) htake))
end
end HT
namespace L2
open PySem PySem.Spec PyProof.Rows
abbrev TO:=St->Hp->(Option Int->Hp->Prop)->Prop
def PO (X:Cx)(e:Option Expr)(t:TO):Prop:=
 ∀ (pins:kA) (s:Shared) (σ:St) (H:Hp) (Q:Option Int->Hp->Prop),Inv X pins σ H s->t σ H Q ->
  kM (evalPart e X.env) (λu s'=>∃ o H',Inv X pins σ H' s'/\IsPart u o/\Q o H') X.xe s
def ZZF:TO:=λ_ H Q=>Q none H
def ZdF (t:TE):TO:=λσ H Q=>t σ H λx H1=>∃ i,x=.int i/\Q (some i) H1
def zHU {ns:List Int}:∀ {us:List Value},Vals (ns.map V.int) us->eAa us ns:=by
 induction ns with
 | nil=>intro us r;rw [yEW] at r;cases r;exact .nil
 | cons n ns ih=>
  intro us r;rw [yAq] at r
  cases r with
  | cons r1 r2=>
   obtain ⟨t,e⟩:=r1;subst e;exact .cons n t (ih r2)
section
variable {X:Cx}{e:Expr}{te:TE}{lo hi:Option Expr}{tl th:TO}{pos p2:Pos}
def zDD:PO X none ZZF:=by
 intro pins s σ H Q I h;rw [evalPart_none];exact yAO #[none,H,I,.none,h]
def zDR (h:PE X e te):PO X (some e) (ZdF te):=by
 intro pins s σ H Q I hw;rw [evalPart_some];refine thn (h pins s σ H _ I hw) λu s1 hM=>?_;obtain ⟨x,H1,I1,r1,q1⟩:=hM;obtain ⟨i,rfl,q⟩:=q1;obtain ⟨t,rfl⟩:=r1;exact#[some i,H1,I1,.int i t,q]
def SlR (X:Cx)(r:V->Option Int->Option Int->Hp->VK->Prop):Prop:=
 ∀ (pins:kA) (s:Shared) (σ:St) (H:Hp) (x:V) (v vl vu:Value) (lo hi:Option Int) (sl:Addr) (Q:VK),Inv X pins σ H s->RelV x v->s.heap.IsSliceOf sl vl vu .none->IsPart vl lo->IsPart vu hi->r x lo hi H Q ->
  ∃ T id,typeLookup (.type T) "__getitem__"=pure (some (.builtin id))/\s.TypeIs v T/\kM (getItem v (.ref sl)) (EP X pins σ Q) X.xe s
def tSl (r:V->Option Int->Option Int->Hp->VK->Prop)(te:TE)(tl th:TO):TE:=λσ H Q=>te σ H λx H1=>tl σ H1 λl H2=>th σ H2 λu H3=>r x l u H3 Q
def zD9 {r:V->Option Int->Option Int->Hp->VK->Prop}(hr:SlR X r)(he:PE X e te)(hl:PO X lo tl)(hu:PO X hi th):PE X (.Subscript e (.Slice lo hi none p2) pos) (tSl r te tl th):=by
 intro pins s σ H Q I h;refine Subscript_ (thn (he pins s σ H _ I h) λv s1 hM=>?_);obtain ⟨x,H1,I1,r1,q1⟩:=hM;refine wpAny_Slice (thn (hl pins s1 σ H1 _ I1 q1) λvl s2 hM=>?_);obtain ⟨l,H2,I2,pl,q2⟩:=hM;refine thn (hu pins s2 σ H2 _ I2 q2) λvu s3 hM=>?_;obtain ⟨u,H3,I3,pu,q3⟩:=hM;rw [evalPart_none];refine yAO ?_;have I4:Inv X pins σ H3 { s3 with heap:=s3.heap.push { cls:=.type "slice",data:=.fields (List.toArray [vl,vu,.none]) } }:=I3.kept (t':=s3.toks) λb ob q=>yAD _ q;obtain ⟨T,id,hT,ht,hg⟩:=hr pins { s3 with heap:=s3.heap.push { cls:=.type "slice",data:=.fields (List.toArray [vl,vu,.none]) } } σ H3 x v vl vu l u (kZ s3) Q I4 r1 (Heap.IsSliceOf.new ..) pl pu q3;show kM (subscriptTail e (.Slice lo hi none p2) v (.ref (kZ s3))) (EP X pins σ Q) X.xe { s3 with heap:=s3.heap.push { cls:=.type "slice",data:=.fields (List.toArray [vl,vu,.none]) } };exact tail_any (ops:=[.ref (kZ s3),v]) ht hT hg (by with_unfolding_all rfl)
def ZL7 (xs:List V)(lo hi:Option Int):List V:=(xs.drop (HT.sIx xs.length 0 lo)).take (HT.sIx xs.length xs.length hi-HT.sIx xs.length 0 lo)
def zGS (xs:List V)(lo hi:Option Int):(ZL7 xs lo hi).length<=xs.length:=by
 unfold ZL7;rw [yAe,yCK];lia
inductive rSlT (K:Frag)(x:V)(lo:Option Int)(hi:Option Int)(H:Hp)(Q:VK):Prop
 | mk:∀ a xs,x=.ref a->SqT K H a xs->(¬(HT.sIx xs.length 0 lo=0/\HT.sIx xs.length xs.length hi=xs.length))->(∀ p,H p=none->Q (.ref p) (upd H p (.tup (ZL7 xs lo hi))))->rSlT K x lo hi H Q
def zaO:SlR X (rSlT X.K):=by
 intro pins s σ H x v vl vu lo hi sl Q I rx hs pl pu h;obtain ⟨a,xs,rfl,hx,hw,q⟩:=h
 cases rx
 obtain ⟨its,r,ht,hz⟩:=I.tuple hx;have hlen:its.toArray.size=xs.length:=by rw [yAM];exact r.length.symm
 refine#["tuple",_,PyProof.Rows.slot_tuple_getitem.lookup,ht.typeIs,?_];refine HT.getItem_tuple_cut ht hs pl pu (by rw [hlen];exact hw) ?_ (by rw [hlen];exact hz);rw [hlen];refine#[.ref (kZ s),_,I.laid (t':=s.toks) (o:=.tup (ZL7 xs lo hi)) (λb ob q=>yAD _ q) (yAF _) ?_,rfl,q _ (I.hok.fresh (yAF _))];exact#[yAp (zGS xs lo hi) hz,_,(r.drop (HT.sIx xs.length 0 lo)).take (HT.sIx xs.length xs.length hi-HT.sIx xs.length 0 lo),IsTup.new _ _]
def KB3 (K:Frag):=∀ a b ns ms,x=.ref a->y=.ref b->SqT K H a (ns.map V.int)->SqT K H b (ms.map V.int)->Q (.bl (HT.lexLt ns ms)) H->KB3 K x y H Q
def KB4 (K:Frag):=∀ a b xs ys,x=.ref a->y=.ref b->SqT K H a xs->SqT K H b ys->xs≠[]->xs.length+ys.length<=eA5->(ys=[]->Q (.ref a) H)->(ys≠[]->∀ p,H p=none->Q (.ref p) (upd H p (.tup (xs++ys))))->KB4 K x y H Q
def NA8 (K:Frag):=∀ a ys,xs=[.ref a]->SqT K H a ys->Q (.ref a) H->NA8 K xs H Q
end
def ixN (n:Nat)(i:Int):Option Nat:=if 0<=i then (if i<n then some i.toNat else none) else if -(n:Int)<=i then some (i+n).toNat else none
def atI {α:Type}(xs:List α)(i:Int):Option α:=(ixN xs.length i).bind λj=>xs[j]?
def zSG {n:Nat}{i:Int}{j:Nat}(h:ixN n i=some j):seqIndex? i n=some j/\j<n /\ -(n:Int)<=i/\i<n:=by
 unfold ixN at h
 by_cases h0:0<=i
 ·rw [yAS h0] at h
  by_cases h1:i<n
  ·rw [yAS h1] at h
   have e:i.toNat=j:=eAH h;exact#[by rw [seqIndex_of h0 h1,e],oz,oz,h1]
  ·rw [yAT h1] at h;cases h
 ·rw [yAT h0] at h
  by_cases h1:-(n:Int)<=i
  ·rw [yAS h1] at h
   have e:(i+n).toNat=j:=eAH h;exact#[by rw [seqIndex_neg oz h1,e],oz,h1,oz]
  ·rw [yAT h1] at h;cases h
def zLK {α:Type}{xs:List α}{i:Int}{v:α}(h:atI xs i=some v):∃ j,seqIndex? i xs.length=some j/\xs[j]?=some v/\j<xs.length /\ -(xs.length:Int)<=i/\i<xs.length:=by
 unfold atI at h
 cases e:ixN xs.length i with
 | none=>rw [e] at h;cases h
 | some j=>
  rw [e] at h;obtain ⟨h1,h2,h3,h4⟩:=zSG e;exact#[j,h1,h,h2,h3,h4]
def zCE {α:Type}{xs:List α}{j:Nat}{v:α}(h:xs[j]?=some v):atI xs (j:Int)=some v:=by
 have hj:j<xs.length:=(yAH.mp h).1
 have e:ixN xs.length (j:Int)=some j:=by
  unfold ixN;rw [yAS oz,yAS oz];simp
 unfold atI;rw [e];exact h
def ZSH (b:Expr):Prop:=∀ o i,subscripted b false o i=operate [o,i] (getItem o i)
def IxR (X:Cx)(r:R2):Prop:=
 ∀ (value slice:Expr) (pins:kA) (s:Shared) (σ:St) (H:Hp) (x y:V) (v u:Value) (Q:VK),Inv X pins σ H s->RelV x v->RelV y u->r x y H Q ->
  subscripted slice false v u=operate [v,u] (getItem v u)->kM (subscriptTail value slice v u) (EP X pins σ Q) X.xe s
def MtR (X:Cx)(id:String)(r:V->List V->Hp->VK->Prop):Prop:=
 ∀ (pins:kA) (s:Shared) (σ:St) (H:Hp) (x:V) (xs:List V) (v:Value) (us:List Value) (Q:VK),Inv X pins σ H s->RelV x v->Vals xs us->r x xs H Q ->
  kM (call (.builtin id) (v::us)) (EP X pins σ Q) X.xe s
section
variable {X:Cx}{a b:Expr}{ta tb:TE}{pos:Pos}
def zBF {r:R2}(hr:IxR X r)(ha:PE X a ta)(hb:PE X b tb)(hs:ZSH b):PE X (.Subscript a b pos) (tOp r ta tb):=by
 intro pins s σ H Q I h;exact Subscript_ (zdI ha hb I h λv u s2 x y H2 I2 rx ry q=>hr a b pins s2 σ H2 x y v u Q I2 rx ry q (hs _ _))
def KB5 (K:Frag):=∀ p xs i v,x=.ref p->y=.int i->SqL K H p xs->atI xs i=some v->Q v H->KB5 K x y H Q
def KB6 (K:Frag):=∀ p xs i v,x=.ref p->y=.int i->SqT K H p xs->atI xs i=some v->Q v H->KB6 K x y H Q
def KB7:=∀ z i c,x=.str z->y=.int i->z.length<=eA5->atI z.cps.toList i=some c->Q (.str ⟨#[c]⟩) H->KB7 x y H Q
def zAJ:IxR X (KB5 X.K):=by
 intro value slice pins s σ H x y v u Q I rx ry h hs;obtain ⟨p,xs,i,z,rfl,rfl,hq,he,q⟩:=h
 cases rx
 obtain ⟨t,rfl⟩:=ry;obtain ⟨its,r,pl,hz⟩:=I.list hq;obtain ⟨j,h1,h2,h3,h4,h5⟩:=zLK he;obtain ⟨w,ew,rw'⟩:=r.get h2;have hl:=r.length;have hn:=zHI;have fin:EP X pins σ Q w s:=#[z,H,I,rw',q]
 by_cases h0:0<=i
 ·have hj:i.toNat=j:=by
   rw [seqIndex_of h0 h5] at h1;exact eAH h1
  exact item_listR pl.isList h0 oz (by rw [hj];simpa using ew) fin hs
 ·have hj:(i+(its.toArray.size:Int)).toNat=j:=by
   rw [seqIndex_neg oz h4] at h1;rw [yAM,<- hl];exact eAH h1
  exact subscriptTail_builtinR (x:=w) pl.isList.typeIs slot_list_getitem.lookup
   (wpAny_getItem_list_neg (Q:=λr s'=>r=w/\EP X pins σ Q r s') pl.isList oz (by rw [yAM]<;>lia) oz (by rw [hj];simpa using ew) #[rfl,fin]) hs
def zF1:IxR X (KB6 X.K):=by
 intro value slice pins s σ H x y v u Q I rx ry h hs;obtain ⟨p,xs,i,z,rfl,rfl,hq,he,q⟩:=h
 cases rx
 obtain ⟨t,rfl⟩:=ry;obtain ⟨its,r,pl,hz⟩:=I.tuple hq;obtain ⟨j,h1,h2,h3,h4,h5⟩:=zLK he;obtain ⟨w,ew,rw'⟩:=r.get h2;have hl:=r.length;have hn:=zHI;have fin:EP X pins σ Q w s:=#[z,H,I,rw',q]
 exact subscriptTail_builtinR (x:=w) pl.typeIs slot_tuple_getitem.lookup
  (getItem_tuple (j:=j) (Q:=λr s'=>r=w/\EP X pins σ Q r s') pl oz oz (by rw [yAM,<- hl];exact h1) (by simpa using ew) #[rfl,fin]) hs
def zc5:IxR X KB7:=by
 intro value slice pins s σ H x y v u Q I rx ry h hs;obtain ⟨z,i,c,rfl,rfl,hz,he,q⟩:=h;obtain ⟨t,rfl⟩:=rx;obtain ⟨t',rfl⟩:=ry;obtain ⟨j,h1,h2,h3,h4,h5⟩:=zLK he;have hl:z.cps.toList.length=z.length:=by simp [Str.length]
 rw [hl] at h1 h4 h5;have hn:=zHI
 exact tail_any (typeIs_str s z t) slot_str_getitem.lookup (getItem_str (c:=c) (by
  have e1:decide (i < -(2^63:Int))=false:=yAG oz;have e2:decide (i >= 2^63)=false:=yAG oz;rw [e1,e2,yEI]) (by rw [h1];simpa using h2) #[.str ⟨#[c]⟩,H,I.tok _,#[_,rfl],q]) hs
def zOO (its:List Value)(n j:Nat)(u:Value):eAc (·.setIfInBounds j u) { cls:=.type "list",data:=.seq its.toArray n }={ cls:=.type "list",data:=.seq (its.set j u).toArray n }:=by
 simp [eAc]
theorem Inv.lst {pins:kA}{σ:St}{H:Hp}{s:Shared}{p:Addr}{xs:List V}(I:Inv X pins σ H s)(h:H p=some (.lst xs)) :
  ∃ (its:List Value) (n:Nat),Vals xs its/\s.heap.get? p=some { cls:=.type "list",data:=.seq its.toArray n }/\xs.length<=eA5:=by
 obtain ⟨z,its,n,r,e⟩:=I.hok p _ h;exact#[its,n,r,e,z]
theorem Inv.lstUpd {pins:kA}{σ:St}{H:Hp}{s:Shared}{p:Addr}{xs ys:List V}{its its':List Value}{n n':Nat}{f:Obj->Obj}(I:Inv X pins σ H s)(h:H p=some (.lst xs))
  (ho:s.heap.get? p=some { cls:=.type "list",data:=.seq its.toArray n }) (hf:f { cls:=.type "list",data:=.seq its.toArray n }={ cls:=.type "list",data:=.seq its'.toArray n' }) (r:Vals ys its') (hz:ys.length<=eA5) (t:Nat) :
  Inv X pins σ (upd H p (.lst ys)) { s with heap:=s.heap.update p f,toks:=t }:=by
 have e:(s.heap.update p f).get? p=some { cls:=.type "list",data:=.seq its'.toArray n' }:=by
  rw [yCQ f ho (by rw [hf]<;>rfl),hf]
 refine I.write (x:=p) (e:=p) (by rw [h];exact trivial) (.inl rfl) (λb u hb q=>(yBL _ _ (eAL hb)).trans q) #[_,e] ?_;exact#[hz,its',n',r,e]
inductive UA8 (o:V)(i:V)(v:V)(H:Hp)(Q:(Hp->Prop)):Prop
 | mk:∀ p xs k j,o=.ref p->i=.int k->H p=some (.lst xs)->ixN xs.length k=some j->Q (upd H p (.lst (xs.set j v)))->UA8 o i v H Q
def zGH:ZeJ X UA8:=by
 intro pins s σ H o i v ov iv u Q I ro ri rv h;obtain ⟨p,xs,k,j,rfl,rfl,hp,hj,q⟩:=h
 cases ro
 obtain ⟨t,rfl⟩:=ri;obtain ⟨its,n,r,ho,hz⟩:=I.lst hp;obtain ⟨h1,h2,h3,h4⟩:=zSG hj;have hl:=r.length;have hn:=zHI
 have I':Inv X pins σ (upd H p (.lst (xs.set j v))) { s with heap:=s.heap.update p (eAc (·.setIfInBounds j u)) }:=
  I.lstUpd hp ho (zOO its n j u) (r.set rv j) (by rw [List.length_set];exact hz) s.toks
 by_cases h0:0<=k
 ·have hk:k.toNat=j:=by
   rw [seqIndex_of h0 h4] at h1;exact eAH h1
  exact PySem.W.ki_setAt ho h0 oz (by rw [yAM,<- hl];exact h4) (by rw [hk];exact#[_,I',q])
 ·have hk:(k+(its.toArray.size:Int)).toNat=j:=by
   rw [seqIndex_neg oz h3] at h1;rw [yAM,<- hl];exact eAH h1
  exact PySem.W.ki_setBack ho oz (by rw [yAM,<- hl];exact h3) oz (by rw [hk];exact#[_,I',q])
def zJS (lo hi:Option Int)(n:Nat):(sliceBounds lo hi none n).1=((HT.sIx n 0 lo:Nat):Int)/\(sliceBounds lo hi none n).2.1=((HT.sIx n n hi:Nat):Int)/\(sliceBounds lo hi none n).2.2=1:=by
 refine#[?_,?_,rfl]
 ·cases lo with
  | none=>simp [sliceBounds,HT.sIx]
  | some i=>
   simp only [sliceBounds,HT.sIx,Option.getD_none,show (1:Int) > 0 by decide,yDs]
   by_cases h:i<0
   ·simp only [h,yDs]<;>lia
   ·simp only [h,yCR]<;>lia
 ·cases hi with
  | none=>simp [sliceBounds,HT.sIx]
  | some i=>
   simp only [sliceBounds,HT.sIx,Option.getD_none,show (1:Int) > 0 by decide,yDs]
   by_cases h:i<0
   ·simp only [h,yDs]<;>lia
   ·simp only [h,yCR]<;>lia
def zIJ (its:List Value)(lo hi:Option Int):slicePick its.toArray lo hi none=((its.drop (HT.sIx its.length 0 lo)).take (HT.sIx its.length its.length hi-HT.sIx its.length 0 lo)).toArray:=by
 obtain ⟨h1,h2,h3⟩:=zJS lo hi its.toArray.size;unfold slicePick;rw [h1,h2,h3];simp only [sliceRange_one,pick_run,yAM]<;>rfl
inductive rSlL (K:Frag)(x:V)(lo:Option Int)(hi:Option Int)(H:Hp)(Q:VK):Prop
 | mk:∀ a xs,x=.ref a->SqL K H a xs->(∀ p,H p=none->Q (.ref p) (upd H p (.lst (ZL7 xs lo hi))))->rSlL K x lo hi H Q
def zH8:SlR X (rSlL X.K):=by
 intro pins s σ H x v vl vu lo hi sl Q I rx hs pl pu h;obtain ⟨a,xs,rfl,hx,q⟩:=h
 cases rx
 obtain ⟨its,r,ht,hz⟩:=I.list hx;have hlen:=r.length;refine#["list",_,slot_list_getitem.lookup,ht.isList.typeIs,?_];refine wpAny_getItem_list_slice ht.isList hs pl pu .none (by simp) ?_ (by rw [yAM]<;>lia);rw [zIJ,<- hlen];refine#[.ref (kZ s),_,I.laid (t':=s.toks) (o:=.lst (ZL7 xs lo hi)) (λb ob q=>yAD _ q) (yAF _) ?_,rfl,q _ (I.hok.fresh (yAF _))];exact#[yAp (zGS xs lo hi) hz,_,0,(r.drop (HT.sIx xs.length 0 lo)).take (HT.sIx xs.length xs.length hi-HT.sIx xs.length 0 lo),yAc _ rfl]
def ZEN:V->Bool
 | .non=>true
 | .bl _=>true
 | .int _=>true
 | .str _=>true
 | _=>false
def eqV:V->V->Bool
 | .non,.non=>true
 | .bl a,.bl b=>a==b
 | .bl a,.int b=>(if a then 1 else 0)==b
 | .int a,.bl b=>a==(if b then 1 else 0)
 | .int a,.int b=>a==b
 | .str a,.str b=>a==b
 | _,_=>false
def zcP {A:eAK}{s:Shared}{y x:V}{u v:Value}(ry:RelV y u)(rx:RelV x v)(fy:ZEN y=true)(fx:ZEN x=true):SeqAt.EqAt A s u v (eqV y x):=by
 cases y with
 | non=>
  cases ry
  cases x with
  | non=>cases rx;exact SeqAt.EqAt.same _
  | bl b=>cases rx;exact SeqAt.EqAt.none_bool b
  | int b=>obtain ⟨t,rfl⟩:=rx;exact SeqAt.EqAt.none_int b t
  | str b=>obtain ⟨t,rfl⟩:=rx;exact SeqAt.EqAt.none_str b t
  | _=>exact absurd (show false=true from fx) yAg
 | bl a=>
  cases ry
  cases x with
  | non=>cases rx;exact SeqAt.EqAt.bool_none a
  | bl b=>cases rx;exact SeqAt.EqAt.bool_bool a b
  | int b=>obtain ⟨t,rfl⟩:=rx;exact SeqAt.EqAt.bool_int a b t
  | str b=>obtain ⟨t,rfl⟩:=rx;exact SeqAt.EqAt.bool_str a b t
  | _=>exact absurd (show false=true from fx) yAg
 | int a=>
  obtain ⟨t',rfl⟩:=ry
  cases x with
  | non=>cases rx;exact SeqAt.EqAt.int_none a t'
  | bl b=>cases rx;exact SeqAt.EqAt.int_bool a t' b
  | int b=>obtain ⟨t,rfl⟩:=rx;exact yDl a t' b t
  | str b=>obtain ⟨t,rfl⟩:=rx;exact SeqAt.EqAt.int_str a t' b t
  | _=>exact absurd (show false=true from fx) yAg
 | str a=>
  obtain ⟨t',rfl⟩:=ry
  cases x with
  | non=>cases rx;exact SeqAt.EqAt.str_none a t'
  | bl b=>cases rx;exact SeqAt.EqAt.str_bool a t' b
  | int b=>obtain ⟨t,rfl⟩:=rx;exact SeqAt.EqAt.str_int a t' b t
  | str b=>obtain ⟨t,rfl⟩:=rx;exact SeqAt.EqAt.str_str a t' b t
  | _=>exact absurd (show false=true from fx) yAg
 | _=>exact absurd (show false=true from fy) yAg
def eqU (x:V)(u:Value):Bool:=match u with
 | .none=>eqV .non x
 | .bool b=>eqV (.bl b) x
 | .int i _=>eqV (.int i) x
 | .str z _=>eqV (.str z) x
 | _=>false
def zWX {x y:V}{u:Value}(r:RelV y u)(f:ZEN y=true):eqU x u=eqV y x:=by
 cases y with
 | non=>cases r;rfl
 | bl b=>cases r;rfl
 | int i=>obtain ⟨t,rfl⟩:=r;rfl
 | str z=>obtain ⟨t,rfl⟩:=r;rfl
 | _=>exact absurd (show false=true from f) yAg
def zHD {x:V}:∀ {xs:List V} {us:List Value},Vals xs us->xs.all ZEN=true->us.any (eqU x)=xs.any λy=>eqV y x
 | _,_,.nil,_=>rfl
 | y::xs,u::us,.cons r t,f=>by
  rw [List.all_cons,yAN] at f;rw [yDb,yDb,zWX r f.1,zHD t f.2]
def zEU {A:eAK}{s:Shared}{x:V}{v:Value}(rx:RelV x v)(fx:ZEN x=true):∀ {xs:List V} {us:List Value},Vals xs us->xs.all ZEN=true->∀ u∈us,SeqAt.EqAt A s u v (eqU x u)
 | _,_,.nil,_=>λu hu=>by cases hu
 | y::xs,u::us,.cons r t,f=>λu' hu=>by
  rw [List.all_cons,yAN] at f
  rcases yAf.mp hu with rfl|hu
  ·rw [zWX r f.1];exact zcP r rx f.1 fx
  ·exact zEU rx fx t f.2 u' hu
def inV (x:V)(xs:List V):Bool:=xs.any λy=>eqV y x
def KB8 (K:Frag)(neg:Bool):=∀ p xs,y=.ref p->(SqL K H p xs \/ SqT K H p xs)->ZEN x=true->xs.all ZEN=true->(Q (.bl (if neg then !inV x xs else inV x xs)) H)->KB8 K neg x y H Q
def zH2:OpR X (eAP .In) (KB8 X.K false):=by
 intro pins s σ H x y v u Q I rx ry h;obtain ⟨p,xs,rfl,hq,fx,fs,q⟩:=h
 cases ry
 rcases hq with hq|hq
 ·obtain ⟨its,r,pl,hz⟩:=I.list hq
  refine SeqAt.in_listAt (eqU x) pl.isList (λw hw=>zEU rx fx r fs w (by simpa using hw)) #[.bl _,H,I,rfl,?_];rw [show its.toArray.any (eqU x)=its.any (eqU x) by simp,zHD r fs];exact q
 ·obtain ⟨its,r,pl,hz⟩:=I.tuple hq
  refine SeqAt.in_tupleAt (eqU x) pl (λw hw=>zEU rx fx r fs w (by simpa using hw)) #[.bl _,H,I,rfl,?_];rw [show its.toArray.any (eqU x)=its.any (eqU x) by simp,zHD r fs];exact q
def zCN:OpR X (eAP .NotIn) (KB8 X.K true):=by
 intro pins s σ H x y v u Q I rx ry h;obtain ⟨p,xs,rfl,hq,fx,fs,q⟩:=h
 cases ry
 rcases hq with hq|hq
 ·obtain ⟨its,r,pl,hz⟩:=I.list hq
  refine SeqAt.notIn_listAt (eqU x) pl.isList (λw hw=>zEU rx fx r fs w (by simpa using hw)) #[.bl _,H,I,rfl,?_];rw [show its.toArray.any (eqU x)=its.any (eqU x) by simp,zHD r fs];exact q
 ·obtain ⟨its,r,pl,hz⟩:=I.tuple hq
  refine SeqAt.notIn_tupleAt (eqU x) pl (λw hw=>zEU rx fx r fs w (by simpa using hw)) #[.bl _,H,I,rfl,?_];rw [show its.toArray.any (eqU x)=its.any (eqU x) by simp,zHD r fs];exact q
def KB9:=∀ i j,x=.str i->y=.str j->Q (.bl (!(!(Builtin.Str.occurrences j i 0 j.length 1).isEmpty))) H->KB9 x y H Q
def NA9 (K:Frag):=∀ p ys,xs=[.ref p]->(SqL K H p ys \/ SqT K H p ys)->Q (.int ys.length) H->NA9 K xs H Q
def zCP:ZDK X (.builtin "len") (NA9 X.K):=by
 intro pins s σ H xs us Q I r h;obtain ⟨p,ys,rfl,hq,q⟩:=h;obtain ⟨u,rfl,rx⟩:=zEP r
 cases rx
 have hn:=zHI
 rcases hq with hq|hq
 ·obtain ⟨its,r',pl,hz⟩:=I.list hq
  have hlen:=r'.length;exact Calls.call_len_list pl.isList (by simp only [yAM]<;>lia) #[.int ys.length,H,I.tok _,#[s.toks+1,by rw [yAM,hlen]],q]
 ·obtain ⟨its,r',pl,hz⟩:=I.tuple hq
  have hlen:=r'.length;exact len_tuple pl (by simp only [yAM]<;>lia) #[.int ys.length,H,I.tok _,#[s.toks+1,by rw [yAM,hlen]],q]
def NB0:=∀ z,xs=[.str z]->z.length<=eA5->Q (.int z.length) H->NB0 xs H Q
def zG2:ZDK X (.builtin "len") NB0:=by
 intro pins s σ H xs us Q I r h;obtain ⟨z,rfl,hz,q⟩:=h;obtain ⟨u,rfl,t,rfl⟩:=zEP r;have hn:=zHI;exact len_str oz #[.int z.length,H,I.tok _,#[_,rfl],q]
def NB1 (K:Frag):=∀ p ys,xs=[.ref p]->(SqL K H p ys \/ SqT K H p ys)->(∀ l,H l=none->Q (.ref l) (upd H l (.lst ys)))->NB1 K xs H Q
def zDM:ZDK X (.type "list") (NB1 X.K):=by
 intro pins s σ H xs us Q I r h;obtain ⟨p,ys,rfl,hq,q⟩:=h;obtain ⟨u,rfl,rx⟩:=zEP r
 cases rx
 have fin:∀ (its:List Value),Vals ys its->ys.length<=eA5->∀ (h':Heap) (c':Nat),(∀ b o',s.heap.get? b=some o'->h'.get? b=some o') ->
   h'.get? (kZ s)=some { cls:=.type "list",dict:=none,data:=.seq its.toArray c',slots:=#[] }->EP X pins σ Q (.ref (kZ s)) { s with heap:=h' }:=λits r' hz h' c' kp e=>
  #[.ref (kZ s),_,I.laid (t':=s.toks) kp (yAF _) (show UAI X.prog X.w _ h' _ (.lst ys) from#[hz,its,c',r',e]),rfl,q _ (I.hok.fresh (yAF _))]
 rcases hq with hq|hq
 ·obtain ⟨its,r',pl,hz⟩:=I.list hq
  have hlen:=r'.length;obtain ⟨o,ho,hc,n,hd⟩:=pl.isList;exact call_list_seq p (.inl rfl) ho hc hd (λh' c' kp e=>fin its r' hz h' c' kp e) (by simp only [yAM]<;>lia)
 ·obtain ⟨its,r',pl,hz⟩:=I.tuple hq
  have hlen:=r'.length;obtain ⟨o,ho,hc,n,hd⟩:=pl;exact call_list_seq p (.inr rfl) ho hc hd (λh' c' kp e=>fin its r' hz h' c' kp e) (by simp only [yAM]<;>lia)
def NB2 (K:Frag):=∀ p ys,xs=[.ref p]->((SqL K H p ys/\∀ l,H l=none->Q (.ref l) (upd H l (.tup ys))) \/ (SqT K H p ys/\Q (.ref p) H))->NB2 K xs H Q
def zBA:ZDK X (.type "tuple") (NB2 X.K):=by
 intro pins s σ H xs us Q I r h;obtain ⟨p,ys,rfl,h⟩:=h;obtain ⟨u,rfl,rx⟩:=zEP r
 cases rx
 rcases h with ⟨hq,q⟩|⟨hq,q⟩
 ·obtain ⟨its,r',pl,hz⟩:=I.list hq
  have hlen:=r'.length;refine call_tuple_list pl.isList (λh' kp=>?_) (by simp only [yAM]<;>lia);have I1:Inv X pins σ H { s with heap:=h' }:=I.kept (t':=s.toks) kp
  have I2:Inv X pins σ (upd H h'.objs.size (.tup ys)) { s with heap:=h'.push { cls:=.type "tuple",data:=.seq its.toArray } }:=
   I1.laid (t':=s.toks) (λb o e=>yAD _ e) (yAF _) (show UAI X.prog X.w _ _ _ (.tup ys) from#[hz,its,r',IsTup.new _ _])
  exact#[.ref h'.objs.size,_,I2,rfl,q _ (I1.hok.fresh (yAF _))]
 ·obtain ⟨its,r',pl,hz⟩:=I.tuple hq
  exact call_tuple_same pl #[.ref p,H,I,rfl,q]
def tyV (K:Frag)(T:String)(x:V)(H:Hp):Prop:=match x with
 | .str _=>T="str"
 | .int _=>T="int"
 | .ref p=>(T="list"/\∃ xs,SqL K H p xs) \/ (T="tuple"/\∃ o,K.lookup p=some o/\o.cls=.type "tuple"/\o.dict=none) \/
   (T="dict"/\((∃ kvs,H p=some (.dK kvs)) \/ ∃ kvs,H p=some (.dT kvs))) \/ (T="set"/\∃ S n,H p=some (.set S n))
 | _=>False
def zWY {pins:kA}{σ:St}{H:Hp}{s:Shared}{T:String}{x:V}{v:Value}(I:Inv X pins σ H s)(r:RelV x v)(ty:tyV X.K T x H) :
  s.TypeIs v T/\∀ a,v=.ref a->∃ ob,s.heap.get? a=some ob/\ob.dict=none:=by
 cases x with
 | str z=>
  obtain ⟨t,rfl⟩:=r
  cases (show T="str" from ty)
  exact#[typeIs_str s z t,λ_ e=>nomatch e]
 | int i=>
  obtain ⟨t,rfl⟩:=r
  cases (show T="int" from ty)
  exact#[typeIs_int s i t,λ_ e=>nomatch e]
 | ref p=>
  cases r
  rcases ty with ⟨rfl,xs,hq⟩|⟨rfl,o,hk,hc,hd⟩|⟨rfl,hk⟩|⟨rfl,S,n,hk⟩
  ·obtain ⟨its,_,pl,_⟩:=I.list hq
   refine#[pl.isList.typeIs,λa e=>?_]
   cases e
   obtain ⟨o,n,e,c,hd,_⟩:=pl;exact#[o,e,hd]
  ·refine#[#[o,I.kIn p o hk,hc],λa e=>?_]
   cases e
   exact#[o,I.kIn _ o hk,hd]
  ·have z:∃ o,s.heap.get? p=some o/\o.ExactDict:=by
    rcases hk with ⟨kvs,hk⟩|⟨kvs,hk⟩
    ·obtain ⟨_,_,_,_,o,_,_,e,ex,_⟩:=I.hok p _ hk
     exact#[o,e,ex]
    ·obtain ⟨_,_,_,_,o,_,_,e,ex,_⟩:=I.hok p _ hk
     exact#[o,e,ex]
   obtain ⟨o,e,ex⟩:=z;refine#[#[o,e,ex.1],λa e2=>?_]
   cases e2
   exact#[o,e,ex.2.1]
  ·obtain ⟨o,_,_,_,e,ex,_⟩:=I.hok p _ hk
   refine#[#[o,e,ex.1],λa e2=>?_]
   cases e2
   exact#[o,e,ex.2.1]
 | _=>exact eAQ ty
def Zf7 (K:Frag)(T:String)(r:V->List V->Hp->VK->Prop)(to:TE):TE:=λσ H Q=>to σ H λx H1=>tyV K T x H1/\r x [] H1 Q
def tBM (K:Frag)(T:String)(r:V->List V->Hp->VK->Prop)(to:TE)(t:TA):TE:=λσ H Q=>to σ H λx H1=>tyV K T x H1/\t σ H1 λxs H2=>r x xs H2 Q
variable {o e:Expr}{es:List Expr}{to:TE}{t:TA}{name:Str}{apos cpos:Pos}{T id:String}{r:V->List V->Hp->VK->Prop}
def zcU (pa:PlainAttrs T)(slot:Slot T name id)(hty:typeOf (.builtin id)=pure (.type "method_descriptor"))(hm:MtR X id r)(ho:PE X o to)
  (hbase:eAX o name X.env (eval o X.env)=eval o X.env:=by rfl) (hline:(apos.endLine==cpos.line)=true:=by rfl):PE X (.Call (.Attribute o name apos) [] [] cpos) (Zf7 X.K T r to):=by
 intro pins s σ H Q I h;refine wpAny_Call_method0_late hbase hline (thn (ho pins s σ H _ I h) λv s1 hM=>?_);obtain ⟨x,H1,I1,r1,ty,q1⟩:=hM;obtain ⟨h1,h2⟩:=zWY I1 r1 ty;exact#[T,id,pa,slot,hty,h1,h2,Calls.callWith_builtin rfl (PySem.evalArgs_none (hm pins s1 σ H1 x [] v [] Q I1 r1 .nil q1))]
def zH4 (pa:PlainAttrs T)(slot:Slot T name id)(hty:typeOf (.builtin id)=pure (.type "method_descriptor"))(hm:MtR X id r)(ho:PE X o to)(ha:PA X (e::es) t)
  (hbase:eAX o name X.env (eval o X.env)=eval o X.env:=by rfl)
  (hfew:((eAN cpos (eAO (e::es) X.env)).all (λx=>!x.1)&&(backToKw cpos (keywordEach [] X.env)).all (λx=>x.1.isSome)
   && decide ((e::es).length+([]:List Keyword).length+(if ([]:List Keyword).isEmpty then 0 else 1)<30))=true:=by rfl)
  (hline:(apos.endLine==cpos.line)=true:=by rfl) (hs:eAO (e::es) X.env=(false,eval e X.env)::eAO es X.env:=by rfl) (hplain:(eAN cpos (eAO es X.env)).any (·.1)=false:=by rfl) :
  PE X (.Call (.Attribute o name apos) (e::es) [] cpos) (tBM X.K T r to t):=by
 intro pins s σ H Q I h;refine wpAny_Call_method_late hbase hfew hline rfl (thn (ho pins s σ H _ I h) λv s1 hM=>?_);obtain ⟨x,H1,I1,r1,ty,q1⟩:=hM;obtain ⟨h1,h2⟩:=zWY I1 r1 ty;refine#[T,id,pa,slot,hty,h1,h2,?_];have hA:=ha cpos pins s1 σ H1 _ I1 q1;rw [hs] at hA ⊢;refine Calls.callWith_builtin (by show (false||(eAN cpos (eAO es X.env)).any (·.1))=false;rw [hplain]<;>rfl) (Calls.evalArgs_plain ?_);refine thn hA λus s2 hM=>?_;obtain ⟨vs,H2,I2,r2,q2⟩:=hM;exact hm pins s2 σ H2 x vs v us Q I2 r1 r2 q2
end
def MtM (X:Cx)(id:String)(r:V->List V->Hp->VK->Prop):Prop:=
 ∀ (pins:kA) (s:Shared) (σ:St) (H:Hp) (x:V) (xs:List V) (v:Value) (us:List Value) (Q:VK),Inv X pins σ H s->RelV x v->Vals xs us->r x xs H Q ->
  kM (call (.builtin id) (v::us)) (EP X pins σ Q) X.xe s
theorem Vals.zero {us:List Value}(h:Vals [] us):us=[]:=by cases h;rfl
theorem Vals.inv {x:V}{xs:List V}{us:List Value}(h:Vals (x::xs) us):∃ u r,us=u::r/\RelV x u/\Vals xs r:=by
 cases h with
 | cons a b=>exact#[_,_,rfl,a,b]
theorem Vals.one {x:V}{us:List Value}(h:Vals [x] us):∃ u,us=[u]/\RelV x u:=by
 obtain ⟨u,r,e,a,b⟩:=h.inv;rw [b.zero] at e;exact#[u,e,a]
theorem Vals.eraseIdx:∀ {xs:List V} {us:List Value} (i:Nat),Vals xs us->Vals (xs.eraseIdx i) (us.eraseIdx i)
 | _,_,_,.nil=>.nil
 | _,_,0,.cons _ t=>t
 | _,_,i+1,.cons r t=>.cons r (Vals.eraseIdx i t)
theorem Vals.reverse {xs:List V}{us:List Value}(h:Vals xs us):Vals xs.reverse us.reverse:=by
 induction h with
 | nil=>exact .nil
 | cons r t ih=>rw [List.reverse_cons,List.reverse_cons];exact Vals.append ih (.cons r .nil)
theorem Vals.rep {xs:List V}{us:List Value}(h:Vals xs us):∀ k:Nat,Vals (eAZ k xs).flatten (eAZ k us).flatten
 | 0=>.nil
 | k+1=>by
  rw [yCZ,yCZ,yDO,yDO];exact Vals.append h (Vals.rep h k)
def zJY {α:Type}:∀ (l:List α) (i:Nat),(l.eraseIdx i).length<=l.length
 | [],_=>yAF _
 | _::_,0=>yDe _
 | _::r,i+1=>Nat.succ_le_succ (zJY r i)
def zJV (its:List Value):∀ (k:Nat) (acc:List Value),
  List.foldl (λx1 x2=>x1++x2) acc.toArray (eAZ k its.toArray)=(acc++(eAZ k its).flatten).toArray
 | 0,acc=>by simp
 | k+1,acc=>by
  have e:acc.toArray++its.toArray=(acc++its).toArray:=by simp
  have e2:(acc++its)++(eAZ k its).flatten=acc++(eAZ (k+1) its).flatten:=by
   rw [yCZ,yDO,yBT]
  rw [<- e2,<- zJV its k (acc++its),<- e,yCZ,yEX]
section
variable {X:Cx}{pins:kA}{σ:St}{H:Hp}{s:Shared}{l b:Addr}{xs ys zs:List V}
theorem Inv.lset {its its':List Value}{n:Nat}{f:Array Value->Array Value}{t':Nat}(I:Inv X pins σ H s)(hH:H l=some (.lst xs))
  (e:s.heap.get? l=some { cls:=.type "list",data:=.seq its.toArray n }) (hf:f its.toArray=its'.toArray) (hv:Vals ys its') (hz:ys.length<=eA5) :
  Inv X pins σ (upd H l (.lst ys)) { s with heap:=s.heap.update l (eAc f),toks:=t' }:=by
 have q:=PySem.IsL.update e f;rw [hf] at q;refine I.write (x:=l) (e:=l) (by rw [hH];exact trivial) (.inl rfl) (λb' u hb hu=>(yBL s.heap (eAc f) (eAL hb)).trans hu) #[_,q] ?_;exact#[hz,its',_,hv,q]
theorem Inv.lnew {its:List Value}{t':Nat}(I:Inv X pins σ H s)(hv:Vals ys its)(hz:ys.length<=eA5) :
  Inv X pins σ (upd H (kZ s) (.lst ys)) { s with heap:=s.heap.push { cls:=.type "list",data:=.seq its.toArray },toks:=t' }:=
 I.laid (λ_ _ q=>yAD _ q) (yAF _) #[hz,its,0,hv,yAc _ rfl]
theorem Inv.fresh (I:Inv X pins σ H s):H (kZ s)=none:=I.hok.fresh (yAF _)
theorem Inv.lstM (I:Inv X pins σ H s)(hH:H l=some (.lst xs)):xs.length<=eA5/\∃ (its:List Value) (n:Nat),Vals xs its/\xs.length=its.length/\s.heap.get? l=some { cls:=.type "list",data:=.seq its.toArray n }:=by
 obtain ⟨z,its,n,r,e⟩:=I.hok l _ hH;exact#[z,its,n,r,r.length,e]
def zUQ {n:Nat}(h:n<=eA5):Builtin.List.listTooLong n=false:=by
 unfold Builtin.List.listTooLong;exact yAG oz
end
section
variable {X:Cx}
def MA0:=∀ l xs y,x=.ref l->vs=[y]->H l=some (.lst xs)->xs.length<eA5->Q .non (upd H l (.lst (xs++[y])))->MA0 x vs H Q
def zBN:MtM X "list.append" MA0:=by
 intro pins s σ H x vs v us Q I rx rv h;obtain ⟨l,xs,y,rfl,rfl,hH,hz,q⟩:=h
 cases rx
 obtain ⟨u,rfl,ru⟩:=rv.one;obtain ⟨z,its,n,r,hl,e⟩:=I.lstM hH;refine call_meets F.slot_list_append #[_,e,rfl] F.entry_list_append (F.args_list_append_2 _ _) (PySem.list_append l its.toArray n u (by rw [yAM];lia)) #[e,?_];refine#[.non,_,I.lset (its':=its++[u]) hH e (by simp) (r.append (.cons ru .nil)) ?_,rfl,q];rw [yAV,yBZ];lia
def MA1:=∀ l b xs zs,x=.ref l->vs=[.ref b]->H l=some (.lst xs)->H b=some (.lst zs)->xs.length+zs.length<=eA5->Q .non (upd H l (.lst (xs++zs)))->MA1 x vs H Q
def MA2:=∀ l xs y,x=.ref l->vs=[]->H l=some (.lst xs)->xs[xs.length-1]?=some y->Q y (upd H l (.lst xs.dropLast))->MA2 x vs H Q
def MA3:=∀ l xs i k y,x=.ref l->vs=[.int i]->H l=some (.lst xs)->-(2^63)<=i->i<2^63->seqIndex? i xs.length=some k->xs[k]?=some y->Q y (upd H l (.lst (xs.eraseIdx k)))->MA3 x vs H Q
def zUA:MtM X "list.pop" MA3:=by
 intro pins s σ H x vs v us Q I rx rv h;obtain ⟨l,xs,i,k,y,rfl,rfl,hH,h1,h2,hk,hy,q⟩:=h
 cases rx
 obtain ⟨u,rfl,ru⟩:=rv.one;obtain ⟨t,rfl⟩:=ru;obtain ⟨z,its,n,r,hl,e⟩:=I.lstM hH;obtain ⟨w,hw,rw'⟩:=r.get hy
 refine call_meets F.slot_list_pop #[_,e,rfl] F.entry_list_pop (F.args_list_pop_2 _ _)
  (MeetsSeq.list_pop_at l its.toArray n i t k w (fitsIndex_both h1 h2) (by rw [yAM,<- hl];exact hk) (by rw [<- yBH];exact hw) (by rw [yAM];lia)) #[e,?_]
 refine#[y,_,I.lset (its':=its.eraseIdx k) hH e ?_ (r.eraseIdx k) ?_,rw',q]
 ·show its.toArray.eraseIdxIfInBounds k=(its.eraseIdx k).toArray
  rw [List.eraseIdxIfInBounds_toArray]
 ·have:=zJY xs k
  lia
def MA4:=∀ l xs,x=.ref l->vs=[]->H l=some (.lst xs)->Q .non (upd H l (.lst xs.reverse))->MA4 x vs H Q
def MA5:=∀ l xs,x=.ref l->vs=[]->H l=some (.lst xs)->Q .non (upd H l (.lst []))->MA5 x vs H Q
def KC0:=∀ l b xs zs,x=.ref l->y=.ref b->H l=some (.lst xs)->H b=some (.lst zs)->xs.length+zs.length<=eA5->(∀ p,H p=none->Q (.ref p) (upd H p (.lst (xs++zs))))->KC0 x y H Q
def zQ9:OpR X (eAS .Add) KC0:=by
 intro pins s σ H x y v u Q I rx ry h;obtain ⟨l,b,xs,zs,rfl,rfl,hH,hB,hz,q⟩:=h
 cases rx
 cases ry
 obtain ⟨z,its,n,r,hl,e⟩:=I.lstM hH;obtain ⟨z2,its2,n2,r2,hl2,e2⟩:=I.lstM hB;refine PySem.P.add_list e e2 ?_ (by rw [yAM,yAM];lia);have ea:its.toArray++its2.toArray=(its++its2).toArray:=by simp
 rw [ea];exact#[.ref _,_,I.lnew (t':=s.toks) (r.append r2) (by rw [yAV];lia),rfl,q _ I.fresh]
def KC1:=∀ l k xs,x=.ref l->y=.int k->H l=some (.lst xs)->-(2^63)<=k->k<2^63->xs.length*k.toNat<=eA5->(∀ p,H p=none->Q (.ref p) (upd H p (.lst (eAZ k.toNat xs).flatten)))->KC1 x y H Q
def zYF {α:Type}(xs:List α)(k:Nat):(eAZ k xs).flatten.length=k*xs.length:=by
 induction k with
 | zero=>simp
 | succ k ih=>rw [yCZ,yDO,yAV,ih,Nat.succ_mul,Nat.add_comm]
def zcH:OpR X (eAS .Mult) KC1:=by
 intro pins s σ H x y v u Q I rx ry h;obtain ⟨l,k,xs,rfl,rfl,hH,h1,h2,hz,q⟩:=h
 cases rx
 obtain ⟨t,rfl⟩:=ry;obtain ⟨z,its,n,r,hl,e⟩:=I.lstM hH;have hlen:its.toArray.size*k.toNat<=eA5:=by rw [yAM,<- hl];exact hz
 have hcap:¬its.toArray.size*k.toNat > (2^63-1) / 8:=by
  have:(eA5:Nat)<=(2^63-1) / 8:=by decide
  lia
 have hfit:¬(!Builtin.List.listFitsIndex k)=true:=by
  rw [fitsIndex_both h1 h2];exact yAg
 have hlong:¬Builtin.List.listTooLong (its.toArray.size*k.toNat)=true:=by
  rw [zUQ hlen];exact yAg
 have hnew:List.foldl (λx1 x2=>x1++x2) #[] (eAZ (if its.toArray.isEmpty=true then 0 else k.toNat) its.toArray)=(eAZ k.toNat its).flatten.toArray:=by
  have f0:∀ m:Nat,List.foldl (λx1 x2=>x1++x2) #[] (eAZ m its.toArray)=(eAZ m its).flatten.toArray:=λm=>by
   have:=zJV its m []
   rw [List.nil_append] at this;exact this
  rw [f0]
  cases its with
  | nil=>simp
  | cons a r'=>rw [yAT (by simp)]
 refine wpAny_binaryOp_repeat_ref (T:="list") (U:="int") dQ #[_,e,rfl] (λs'=>typeIs_int s' k t) noFill_list_mul F.fills_int_mul F.slot_int_rmul repeat_list F.slot_int_index.lookup
  (call_meets F.slot_int_rmul (typeIs_int s k t) F.entry_int_rmul (F.args_int_rmul_2 _ _) (int___rmul___int_list k t l its.toArray n)
   #[e,rfl,#[_,e,rfl],call_meets F.slot_list_mul #[_,e,rfl] F.entry_list_mul (F.args_list_mul_2 _ _) (AutoListH.list___mul___list_int_3 l its.toArray n k t hfit hcap hlong) #[e,?_]])
 rw [hnew];exact#[.ref _,_,I.lnew (t':=s.toks) (r.rep k.toNat) (by rw [zYF,Nat.mul_comm];exact hz),rfl,q _ I.fresh]
end
section
variable {prog:eAD}{w:World}{A:eAK}{E:kW}{s:Shared}
end
section
variable {X:Cx}
end
end L2
namespace Att
open PySem PySem.W PySem.Calls PyProof.Rows
def zGU {P:Params}{h:Heap}:∀ (ns:List Int) (vs:List Value),WellAll P h vs (ns.map WData.int)->eAa vs ns:=by
 intro ns
 induction ns with
 | nil=>
  intro vs w;rw [yEW] at w
  cases w
  exact .nil
 | cons n ns ih=>
  intro vs w;rw [yAq] at w
  cases w with
  | cons a b=>
   cases a
   exact .cons _ _ (ih _ b)
def zRT {l:OpenLaw}{n:Nat}(hn:l.most=some n){P:Params}{h:Heap}{args:List WData}{vals:List Value}
  (hpre:l.row.toRowW.claim.pre args=true) (hwl:WellAll P h vals args) :
  ∃ a vs ns,vals=[eAF a]/\args=[WData.list (ns.map WData.int)]/\h.get? a=some { cls:=.type "list",data:=.seq vs.toArray }/\eAa vs ns/\ns.length<=n:=by
 have hsh:WShape.hasAll [] args [.list .int]=true:=(pre_splitW hpre).1;have hc:l.pre.holds [] { args:=args }=true:=(pre_splitW hpre).2;obtain ⟨d,r,rfl,h1,h2⟩:=hasAllW_cons hsh;obtain rfl:=hasAllW_nil h2;obtain ⟨xs,rfl,h3⟩:=hasW_list h1;obtain ⟨ns,rfl⟩:=items_int h3
 have hlen:ns.length<=n:=by
  unfold OpenLaw.pre at hc
  have h4:(WTm.not (.lt (.lit (.int (n:Int))) (.len (.arg 0)))).holds [] { args:=[.list (ns.map .int)] }=true:=by
   have h4:=(holds_andW hc).1;rw [hn] at h4;exact h4
  have h5:=condW_of h4 (w_not (w_lt w_lit (w_len_list (w_arg rfl))));rw [yAA] at h5;refine Nat.le_of_not_lt λq=>?_;have q':(n:Int)<((ns.length:Nat):Int):=by lia
  first
   | (rw [yAJ q'] at h5;exact absurd h5 dQ)
   | (simp at h5;lia)
 cases hwl with
 | cons w1 w2=>
  cases w2
  cases w1 with
  | list ho hall=>exact#[_,_,ns,rfl,rfl,ho,zGU ns _ hall,hlen]
def zPJ (l:OpenLaw)(args:List WData):l.row.toRowW.claim.post args (.bool true) args=true:=
 postW_of (r:=l.row.toRowW) (X:=(true==true))
  (show WShape.has [] (.bool true) .bool=true by first|rfl|decide|simp [WShape.has,WShape.arms,WShape.armsAll])
  (show (WTm.eq .res (.lit (.bool true))).value [] { args:=args,res:=some (.bool true),after:=args }=some (.bool (true==true)) from w_eq_bool (w_res rfl) w_lit) rfl
theorem attach_call {l:OpenLaw}{n:Nat}{q:eAD}{loose:List Str}{XP:(Str->Option Value)->Heap->Prop}{YP:World->Heap->Prop}{d:DefRec}
  (hn:l.most=some n) (hdf:d.params.defaults=[])
  (call:∀ (w:World) (s₀ s₁:Shared) (mg mb:Str->Option Value) (fa:Addr) (o:Obj) (pm cd doc:Value) (a:Addr) (vs:List Value) (ns:List Int),
   Ground q loose [] XP w s₀ mg mb s₁.heap->YP w s₁.heap ->
   s₁.heap.get? fa=some o->o.data=.func (docDef d.name d.params d.body d.scope pm cd doc)->s₁.heap.CodeRec cd d.name->mg d.name=some (.ref fa) ->
   s₁.heap.get? a=some { cls:=.type "list",data:=.seq vs.toArray }->eAa vs ns->ns.length<=n->s₁.gens=#[] ->
   codeAny (model l.prog w) callerA (.call (.ref fa) #[[.ref a],[]]) (λr s'=>r=.ok (.ret (.bool true))/\OldK s₁.heap s'.heap/\s'.os=s₁.os/\AllBare s'.gens) s₁) :
  WalkO q loose XP YP l.row.toRowW d [] (λf vs=>PySem.call f vs):=by
 intro w s₀ s₁ mg mb G Y fa o pm cd doc dV kV ho hd hcd hD hmg hg args vals as hpre hlay hrd hwl hlo;obtain rfl:dV=.none:=Dflts.none hD hdf;obtain rfl:kV=.none:=Dflts.noKw hD;obtain ⟨a,vs,ns,rfl,rfl,hobj,hints,hlen⟩:=zRT hn hpre hwl;refine enter_call (yCX (call w s₀ s₁ mg mb fa o pm cd doc a vs ns G Y ho (fd_plain hd) hcd hmg hobj hints hlen hg) λr s' hq=>?_);obtain ⟨rfl,h2,h3,h4⟩:=hq;exact#[.inl #[.bool true,.bool true,[],rfl,λ_=>rfl,.bool true,zPJ l _,λ_=>#[List.Pairwise.nil,λ_ hm=>(nomatch hm)]],h2,h3,h4]
section
variable {prog:eAD}{w:World}{A:eAK}{E:kW}{s:Shared}{K:Frag}
end
end Att
namespace L2
open PySem PySem.Spec PyProof.Rows
def zKT:∀ {vs:List Value} {ns:List Int},eAa vs ns->Vals (ns.map V.int) vs
 | _,_,.nil=>.nil
 | _,_,.cons n t h=>.cons #[t,rfl] (zKT h)
def Ze3 (H:Hp):Prop:=∀ b,H b=none \/ ∃ o xs,H b=some (.frz o (.lst xs))
def zWJ {P:eAD}{w:World}{K:Frag}{mg mb:Str->Option Value}{CX:CXT}{k:Nat}{fa a:Addr}{fd:eAY}{x:Str}{sp:Sp}{s₁:Shared}{vs:List Value}{ns:List Int}
  (KX:K.In s₁.heap) (hns:s₁.heap.Ns eAA mg) (hb:s₁.heap.Ns builtinsNs mb) (hbb:∀ x:Str,x≠"__name__"->mb x=bootBuiltins x) (hlim:s₁.heap.NoLimit) (hg:s₁.gens=#[])
  (ha:s₁.heap.get? a=some { cls:=.type "list",data:=.seq vs.toArray }) (hi:eAa vs ns) (hl:ns.length<=eA5) (hr:Room k callerA)
  (F:∀ base:Heap,K.In base->base.Ns eAA mg->FnOk P w K mg base CX k fa fd [x] sp) (hbind:∀ (s:Shared) (u:Value),BindsTo s fd #[[u],[]] [(x,u)])
  (hsp:∀ H:Hp,Ze3 H->SqL K H a (ns.map V.int)->sp [.ref a] H (λv _=>v=.bl true) λ_ _ _=>False)
  (hCX:∀ H e s',CX [] H s₁ (λ_ _ _=>False) e s'->False) :
  codeAny (model P w) callerA (.call (.ref fa) #[[.ref a],[]]) (λr s'=>r=.ok (.ret (.bool true))/\OldK s₁.heap s'.heap/\s'.os=s₁.os/\AllBare s'.gens) s₁:=by
 have rv:=zKT hi;have lenV:=hi.length
 have core:∀ H:Hp,Ze3 H->SqL K H a (ns.map V.int)->HOk P w H s₁.heap->(∀ b,H b≠none->b=a)->(H a≠none->K.lookup a=none) ->
   codeAny (model P w) callerA (.call (.ref fa) #[[.ref a],[]]) (λr s'=>r=.ok (.ret (.bool true))/\OldK s₁.heap s'.heap/\s'.os=s₁.os/\AllBare s'.gens) s₁:=by
  intro H hO hS hok hA hK;have base_of:∀ {b:Addr} {o:Obj},s₁.heap.get? b=some o->H b=none->(ZWC s₁.heap H).get? b=some o:=λe n=>zUZ e n
  have noA:∀ {b:Addr} {o:Obj} {es:Array DictEntry} {ep:Nat},s₁.heap.get? b=some o->o.data=.dict es ep->H b=none:=λ{b o es ep} e d=>by
   cases q:H b with
   | none=>rfl
   | some u=>
    have e':b=a:=hA b (by rw [q];simp);subst e';rw [ha] at e;cases e;have d':Data.seq vs.toArray _=Data.dict es ep:=d
    cases d'
  have nsK:∀ {b:Addr} {m:Str->Option Value},s₁.heap.Ns b m->(ZWC s₁.heap H).Ns b m:=λ{b m} ⟨o,es,ep,e,d,r⟩=>#[o,es,ep,base_of e (noA e d),d,r]
  have hKb:K.In (ZWC s₁.heap H):=λb o e=>base_of (KX b o e) (by
   cases q:H b with
   | none=>rfl
   | some u=>
    have e':b=a:=hA b (by rw [q];simp);subst e';rw [hK (by rw [q];simp)] at e;cases e)
  have hM:Mod K mg (ZWC s₁.heap H):=#[hKb,nsK hns,#[mb,nsK hb,hbb],let ⟨mc,h1,h2⟩:=hlim;#[mc,nsK h1,h2]];have e0:Env0 P w K mg (ZWC s₁.heap H) callerA [] s₁ H:=#[rfl,hM,λb o e=>zZ7 e,Nat.le_of_eq (zQW _ _),trivial,λb hb=>absurd (show b∈([]:List Addr) from hb) (by simp),hok,.of_eq hg];refine yCX ((F _ hKb (nsK hns)).run callerA [] s₁ H #[[.ref a],[]] [.ref a] [.ref a] _ _ hr e0 (hbind s₁ (.ref a)) (.cons rfl .nil) (hsp H hO hS)) λr s' h=>?_
  cases r with
  | error e=>exact (hCX H e s' h).elim
  | ok fl=>
   cases fl with
   | next=>exact eAQ h
   | brk=>exact eAQ h
   | cont=>exact eAQ h
   | ret u=>
    obtain ⟨v,H',os,bare,un,hok',r',q⟩:=h;have q':v=.bl true:=q;subst q';obtain rfl:u=Value.bool true:=r';refine#[rfl,OldK.of_keep λb o e=>?_,os,bare]
    cases q:H b with
    | none=>exact un.keep b o e q (by intro z;exact absurd (show b∈([]:List Addr) from z) (by simp)) (by simp)
    | some u=>
     rcases hO b with z|⟨ob,xs,z⟩
     ·rw [q] at z;cases z
     ·have z2:=un.frzs b ob _ z
      obtain ⟨e1,_⟩:=hok b _ z;obtain ⟨e2,_⟩:=hok' b _ z2;rw [e] at e1;cases e1;exact e2
 cases hk:K.lookup a with
 | some o=>
  have e:=KX a o hk;rw [ha] at e
  cases e
  refine core (λ_=>none) (λ_=>.inl rfl) (.inr #[_,vs.toArray,_,hk,rfl,rfl,rfl,by rw [yAM,lenV];exact hl,by simpa using rv]) (λb u z=>by have z':(none:Option HO)=some u:=z;cases z') (λb z=>absurd rfl z) λz=>absurd rfl z
 | none=>
  refine core (λb=>if b=a then some (.frz { cls:=.type "list",data:=.seq vs.toArray } (.lst (ns.map V.int))) else none) (λb=>?_) (.inl (.inr #[{ cls:=.type "list",data:=.seq vs.toArray },yAS rfl])) (λb u z=>?_) (λb z=>?_) λ_=>hk
  ·by_cases hb:b=a
   ·exact .inr #[_,_,yAS hb]
   ·exact .inl (yAT hb)
  ·by_cases hb:b=a
   ·have z':=(yAS hb).symm.trans z
    cases z'
    subst hb;exact#[ha,by rw [yAA];exact hl,vs,_,rv,ha]
   ·have z':=(yAT hb).symm.trans z
    cases z'
  ·by_cases hb:b=a
   ·exact hb
   ·exact absurd (yAT hb) z
theorem UA2 {l:PySem.W.OpenLaw}{n k:Nat}{q:eAD}{loose:List Str}{XP:(Str->Option Value)->Heap->Prop}{YP:World->Heap->Prop}{d:DefRec}{K:Params->Frag}{CX:World->CXT}{sp:World->Sp}{x:Str}
  (hn:l.most=some n) (hn2:n<=eA5) (hdf:d.params.defaults=[]) (hr:Room k callerA)
  (hY:∀ (w:World) (h:Heap),YP w h->(K w.params).In h)
  (F:∀ (w:World) (mg:Str->Option Value) (fa:Addr) (h:Heap),(K w.params).In h->h.Ns eAA mg->mg d.name=some (.ref fa) ->
   ∃ fd:eAY,(∀ (s:Shared) (u:Value),BindsTo s fd #[[u],[]] [(x,u)]) /\
    ∀ base:Heap,(K w.params).In base->base.Ns eAA mg->FnOk l.prog w (K w.params) mg base (CX w) k fa fd [x] (sp w))
  (hsp:∀ (w:World) (H:Hp) (a:Addr) (ns:List Int),ns.length<=n->Ze3 H->SqL (K w.params) H a (ns.map V.int)->sp w [.ref a] H (λv _=>v=.bl true) λ_ _ _=>False)
  (hCX:∀ (w:World) (H:Hp) (s:Shared) (e:Value) (s':Shared),CX w [] H s (λ_ _ _=>False) e s'->False) :
  PySem.W.WalkO q loose XP YP l.row.toRowW d [] (λf vs=>PySem.call f vs):=by
 refine Att.attach_call hn hdf λw s₀ s₁ mg mb fa o pm cd doc a vs ns G Y ho hd hcd hmg hobj hints hlen hg=>?_;have KX:=hY w _ Y;obtain ⟨fd,hb,hF⟩:=F w mg fa _ KX G.T.g hmg;exact zWJ KX G.T.g G.T.b G.T.builtins G.T.nolimit hg hobj hints (yAp hlen hn2) hr hF hb (λH hO hS=>hsp w H a ns hlen hO hS) λH e s'=>hCX w H s₁ e s'
def ZFA (s:Stmt):Arguments:=match s with
 | .FunctionDef _ a _ _ _ _ _ _ _ _=>a
 | _=>{ posonlyargs:=[],args:=[],vararg:=none,kwonlyargs:=[],kw_defaults:=[],kwarg:=none,defaults:=[] }
def ZD3 (s:Stmt):List Stmt:=match s with
 | .FunctionDef _ _ b _ _ _ _ _ _ _=>b
 | _=>[]
def ZA4 (s:Stmt):Scope:=match s with
 | .FunctionDef _ _ _ _ _ _ sc _ _ _=>sc
 | _=>{ kind:=.function,names:=[],isGenerator:=false,isCoroutine:=false }
abbrev CX0:CXT:=λ_ _ _ _ _ _=>False
abbrev E0:XK:=λ_ _ _=>False
def zAT {X:Cx}:ZDI CX0 X E0:=λ_ _ _ _ _ _ _ h=>h.elim
structure Fun (K:Frag)(x qual:Str)(st:Stmt)(f:Addr)(fd:eAY):Prop where
 ex:∃ (oc:Value) (od:Option Addr) (kV doc pm:Value) (an:Option Addr) (cdv ct:Value) (osl:Array (Option Value)),
  fd=fnOf x qual (ZFA st) (ZD3 st) (ZA4 st) .none kV doc pm an cdv ct/\K.lookup f=some #[oc,od,.func fd,osl]/\PySem.W.codeIn K cdv qual=true
 kp:keepIn K (.ref f)=true
section
variable {P:eAD}{w:World}{K:Frag}{mg:Str->Option Value}{base:Heap}
theorem Fun.ok {x qual:Str}{st:Stmt}{f:Addr}{fd:eAY}{N ps:List Str}{k:Nat}{sp:Sp}(F:Fun K x qual st f fd)(S:UAC N ps (ZA4 st))(len:∀ vs H Q E,sp vs H Q E->vs.length=ps.length)
  (hbody:∀ (cdv:Value) (A:eAK) (outer:List Env) (s:Shared) (H:Hp) (vs:List V) (Q:VK) (E:XK),Room k (A.deeper (envOfC qual (ZA4 st) (kZ s) f cdv))->sp vs H Q E ->
   ∃ t,PSs (ZT1 CX0 P w K mg base N qual (ZA4 st) f cdv A outer s H E).nox (ZD3 st) t/\t { nx:=λ_ H'=>Q .non H',rt:=Q } (UAf N vs) H):Fk (k+1) f fd ps sp:=by
 obtain ⟨oc,od,kV,doc,pm,an,cdv,ct,osl,rfl,lk,hcd⟩:=F.ex;refine zaT lk hcd S len λA outer s H vs Q E hr hsp=>?_;obtain ⟨t,h,q⟩:=hbody cdv A outer s H vs Q E hr hsp;exact#[t,h.nox,q]
theorem Fun.binds {x qual:Str}{st:Stmt}{f:Addr}{fd:eAY}{ps:List Str}(F:Fun K x qual st f fd)
  (h:∀ (kV doc pm:Value) (an:Option Addr) (cdv ct:Value) (us:List Value),us.length=ps.length->bindArgs (fnOf x qual (ZFA st) (ZD3 st) (ZA4 st) .none kV doc pm an cdv ct) #[us,[]]=pure (ps.zip us)):UAD K fd ps []:=by
 obtain ⟨oc,od,kV,doc,pm,an,cdv,ct,osl,rfl,lk,hcd⟩:=F.ex;exact .all (h kV doc pm an cdv ct)
theorem UA0 {x qual:Str}{st:Stmt}{f:Addr}{oc:Value}{od an:Option Addr}{osl:Array (Option Value)}{kV doc pm cdv ct:Value}(l:K.lookup f=some #[oc,od,.func (fnOf x qual (ZFA st) (ZD3 st) (ZA4 st) .none kV doc pm an cdv ct),osl])
  (c:PySem.W.codeIn K cdv qual=true) (k:keepIn K (.ref f)=true):Fun K x qual st f (fnOf x qual (ZFA st) (ZD3 st) (ZA4 st) .none kV doc pm an cdv ct):=#[#[oc,od,kV,doc,pm,an,cdv,ct,osl,rfl,l,c],k]
def zXX {A:eAK}{k:Nat}(hr:Room k A):A.units+1<cLine:=yDo (Nat.add_le_add_left (by decide:1<=64) _) hr.units
def zKJ {n:Nat}(h:n<=1000):n<eA5:=yDo h dQ
section
variable {X:Cx}
theorem pv (i:Nat){x:Str}{pos:Pos}(hN:X.N[i]?=some x:=by rfl)(hv:Vis X.env.scope x:=by first|exact Or.inl rfl|exact Or.inr (Or.inl rfl)|exact Or.inr (Or.inr rfl))(hd:(x==("__debug__":Str))=false:=by decide)
  (hcd:(x==("__classdict__":Str))=false:=by decide):PE X (.Name x pos) (OA0 i):=zbG hN hv hd hcd
end
def zAY {A B:Prop}(h:B):if false=true then A else B:=by
 rw [yAT yAg];exact h
def zCQ {A B:Prop}(h:A):if true=true then A else B:=by
 rw [yAS rfl];exact h
def zD2 {c A B:Prop}[Decidable c](h1:c->A)(h2:¬c->B):if c then A else B:=by
 by_cases h:c
 ·rw [yAS h]
  exact h1 h
 ·rw [yAT h]
  exact h2 h
def Same (H H':Hp):Prop:=∀ b o,H b=some o->H' b=some o
theorem Same.refl (H:Hp):Same H H:=λ_ _ h=>h
theorem Same.trans {H H1 H2:Hp}(a:Same H H1)(b:Same H1 H2):Same H H2:=λc o h=>b c o (a c o h)
theorem Same.free {H H':Hp}(e:Same H H'){l:Addr}(h:H' l=Option.none):H l=Option.none:=by
 cases q:H l with
 | none=>rfl
 | some o=>
  rw [e l o q] at h
  cases h
theorem Same.seq {K:Frag}{H H':Hp}{a:Addr}{xs:List V}(e:Same H H')(h:SqL K H a xs):SqL K H' a xs:=by
 rcases h with (h|⟨o,h⟩)|h
 ·exact .inl (.inl (e _ _ h))
 ·exact .inl (.inr #[o,e _ _ h])
 ·exact .inr h
def ZRH (env:Env):List (Str×NameKind)->List (Str×Addr)->List (Str×Addr)
 | [],acc=>acc
 | (n,k)::r,acc=>if k==.free then ZRH env r ((n,(env.cells.lookup n).getD 0)::acc) else ZRH env r acc
def ZYV (scope:Scope)(env:Env):List (Str×Addr):=ZRH env scope.names []
def zJG {env:Env}{y:Str}{c:Addr}:∀ {names:List (Str×NameKind)} {acc:List (Str×Addr)},(y,c)∈ZRH env names acc->(y,c)∈acc \/ ((y,eAd)∈names/\c=(env.cells.lookup y).getD 0)
 | [],_,h=>.inl h
 | (n,k)::r,acc,h=>by
  unfold ZRH at h
  split at h
  ·rename_i hk
   have hk:k=.free:=by simpa using hk
   rcases zJG h with h1|⟨h1,h2⟩
   ·rcases yAf.mp h1 with h1|h1
    ·cases h1
     exact .inr #[by rw [hk];exact yAU,rfl]
    ·exact .inl h1
   ·exact .inr #[yAL _ h1,h2]
  ·rcases zJG h with h1|⟨h1,h2⟩
   ·exact .inl h1
   ·exact .inr #[yAL _ h1,h2]
def zGN {env:Env}{y:Str}:∀ {names:List (Str×NameKind)} {acc:List (Str×Addr)},(acc.lookup y).isSome=true->((ZRH env names acc).lookup y).isSome=true
 | [],_,h=>h
 | (n,k)::r,acc,h=>by
  unfold ZRH
  split
  ·refine zGN ?_
   rw [yCD]
   split
   ·rfl
   ·exact h
  ·exact zGN h
def zGF {env:Env}{y:Str}:∀ {names:List (Str×NameKind)} {acc:List (Str×Addr)},(y,eAd)∈names->((ZRH env names acc).lookup y).isSome=true
 | [],_,h=>by simp at h
 | (n,k)::r,acc,h=>by
  unfold ZRH
  rcases yAf.mp h with h1|h1
  ·cases h1
   rw [yAS (by rfl)];refine zGN ?_;rw [yCD]
   simp
  ·split
   ·exact zGF h1
   ·exact zGF h1
def zFL {env:Env}:∀ (names:List (Str×NameKind)) (acc:List (Str×Addr)),(∀ p∈names,p.2=.free->(env.cells.lookup p.1).isSome=true) ->
  (forIn names acc (λ(x:Str×NameKind) cs=>(if x.2==.free then do let c <- cellOf env x.1;pure (ForInStep.yield ((x.1,c)::cs)) else pure (ForInStep.yield cs):Sem (ForInStep (List (Str×Addr))))))=(pure (ZRH env names acc):Sem _)
 | [],acc,_=>by rw [List.forIn_nil];rfl
 | (n,k)::r,acc,h=>by
  rw [List.forIn_cons];unfold ZRH
  cases hk:(k==eAd) with
  | false=>exact zFL r acc λp hp=>h p (yAL _ hp)
  | true=>
   have hk':k=.free:=by simpa using hk
   have h1:=h (n,k) yAU hk'
   have e:cellOf env n=(pure ((env.cells.lookup n).getD 0):Sem Addr):=by
    unfold cellOf
    cases e:env.cells.lookup n with
    | none=>rw [e] at h1;cases h1
    | some c=>rfl
   show ((do let c <- cellOf env n;pure (ForInStep.yield ((n,c)::acc))) >>= _:Sem _)=_;rw [e];exact zFL r ((n,(env.cells.lookup n).getD 0)::acc) λp hp=>h p (yAL _ hp)
def zP9 {scope:Scope}{env:Env}(h:∀ p∈scope.names,p.2=.free->(env.cells.lookup p.1).isSome=true):closureFor scope env=pure (ZYV scope env):=by
 have e:=zFL (env:=env) scope.names [] h;unfold closureFor ZYV
 first
  | (simp only [bind_pure];exact e)
  | exact e
  | (rw [<- e];rfl)
def zFW {env:Env}:∀ {names:List (Str×NameKind)} {x:Str},names.lookup x=some .free ->
  (names.map λ(n,k)=>if (k==eAd&&env.scope.kind==.function&&env.kindOf n==some .cell) then (n,NameKind.cell) else (n,k)).lookup x=some .cell \/
  (names.map λ(n,k)=>if (k==eAd&&env.scope.kind==.function&&env.kindOf n==some .cell) then (n,NameKind.cell) else (n,k)).lookup x=some .free
 | [],_,h=>by simp at h
 | (n,k)::r,x,h=>by
  have ih:=@zFW env r x;show eAV x ((if (k==eAd&&env.scope.kind==.function&&env.kindOf n==some .cell)=true then (n,NameKind.cell) else (n,k))::_)=_ \/ eAV x ((if (k==eAd&&env.scope.kind==.function&&env.kindOf n==some .cell)=true then (n,NameKind.cell) else (n,k))::_)=_
  cases hx:x==n with
  | true=>
   simp only [yCD,hx] at h
   cases h
   by_cases hc:(eAd==eAd&&env.scope.kind==.function&&env.kindOf n==some .cell)=true
   ·rw [yAS hc];exact .inl (by simp only [yCD,hx])
   ·rw [yAT hc];exact .inr (by simp only [yCD,hx])
  | false=>
   simp only [yCD,hx] at h
   by_cases hc:(k==eAd&&env.scope.kind==.function&&env.kindOf n==some .cell)=true
   ·rw [yAS hc];simp only [yCD,hx];exact ih h
   ·rw [yAT hc];simp only [yCD,hx];exact ih h
def zHK {env:Env}{names:List (Str×NameKind)}{x:Str}{k:NameKind}(h:(x,k)∈(names.map λ(n,k)=>if (k==eAd&&env.scope.kind==.function&&env.kindOf n==some .cell) then (n,NameKind.cell) else (n,k))) :
  (x,k)∈names \/ (x,eAd)∈names:=by
 obtain ⟨⟨n,k'⟩,h1,h2⟩:=yAr.mp h;dsimp only at h2
 split at h2
 ·rename_i hc
  cases h2
  have:k'=.free:=by
   cases k'<;>first|rfl|(exfalso;revert hc;simp)
  subst this;exact .inr h1
 ·cases h2
  exact .inl h1
def FvOk (X:Cx)(scope:Scope):List (Str×Nat)->Prop
 | []=>True
 | p::r=>(X.N[p.2]?=some p.1/\(X.env.scope.names.lookup p.1=some .cell \/ X.env.scope.names.lookup p.1=some .free)/\scope.names.lookup p.1=some .free)/\FvOk X scope r
theorem FvOk.get {X:Cx}{scope:Scope}:∀ {fv:List (Str×Nat)} {j:Nat} {p:Str×Nat},FvOk X scope fv->fv[j]?=some p->X.N[p.2]?=some p.1/\(X.env.scope.names.lookup p.1=some .cell \/ X.env.scope.names.lookup p.1=some .free)/\scope.names.lookup p.1=some .free
 | [],_,_,_,e=>by simp at e
 | _::_,0,_,h,e=>by simp at e;subst e;exact h.1
 | _::_,j+1,_,h,e=>h.2.get (j:=j) (by simpa using e)
structure CompOk (scope:Scope)(x:Str)(fv:List (Str×Nat)):Prop where
 kind:scope.kind=.function
 nocell:∀ y∈scope.names,y.2≠.cell
 names:∀ y∈scope.names,y.2=.local->scope.names.lookup y.1=some .local
 hx:scope.names.lookup x=some .local
 fr:∀ y∈scope.names,y.2=.free->y.1∈fv.map (·.1)
 nd:(x::fv.map (·.1)).Nodup
def PTl (X:Cx)(ifs:List Expr)(t:TT):Prop:=
 ∀ (pins:kA) (s:Shared) (σ:St) (H:Hp) (Q:Bool->Hp->Prop),Inv X pins σ H s->t σ H Q ->
  kM (forIn ifs true λc r=>if r=true then do let ok <- isTrue c X.env (eval c X.env);pure (ForInStep.yield ok) else pure (ForInStep.yield r)) (TP X pins σ Q) X.xe s
def ZHP:TT:=λ_ H Q=>Q true H
def zBD {X:Cx}:PTl X [] ZHP:=λ_ _ _ H _ I h=>wpAny_tests_nil #[H,I,h]
def zDP {X:Cx}{c:Expr}{t:TT}(h:PT X c t):PTl X [c] t:=λpins s σ H Q I hw=>wpAny_tests_one (h pins s σ H Q I hw)
section
variable {X:Cx}{pins:kA}{σ:St}{scope:Scope}{x:Str}{fv:List (Str×Nat)}{elt iter:Expr}{ifs:List Expr}{px pos:Pos}{tt:TT}{te:TE}
end
section
variable {κ:Type}[DecidableEq κ]
def ZFE (kvs:List (κ×V))(k:κ):Option V:=(kvs.find? λkv=>decide (kv.1=k)).map (·.2)
def ZGJ (kvs:List (κ×V))(k:κ)(v:V):List (κ×V):=
 if (kvs.any λkv=>decide (kv.1=k))=true then kvs.map (λkv=>if kv.1=k then (kv.1,v) else kv) else kvs++[(k,v)]
def zBX {p:κ×V}{r:List (κ×V)}{k:κ}(e:p.1=k):ZFE (p::r) k=some p.2:=by simp [ZFE,yCV,e]
def zBO {p:κ×V}{r:List (κ×V)}{k:κ}(e:¬p.1=k):ZFE (p::r) k=ZFE r k:=by simp [ZFE,yCV,e]
def zF2 (k:κ):∀ kvs:List (κ×V),(kvs.any λkv=>decide (kv.1=k))=(ZFE kvs k).isSome
 | []=>rfl
 | p::r=>by
  rw [yDb]
  by_cases e:p.1=k
  ·simp only [zBX e,yAJ e,Bool.true_or,Option.isSome_some]
  ·rw [zBO e,yAG e,Bool.false_or];exact zF2 k r
def zNW (k j:κ)(y:V):∀ kvs:List (κ×V),ZFE (kvs.map λkv=>if kv.1=k then (kv.1,y) else kv) j=(ZFE kvs j).map λx=>if j=k then y else x
 | []=>rfl
 | p::r=>by
  have ih:=zNW k j y r;rw [yAq]
  by_cases h:p.1=k
  ·rw [yAS h]
   by_cases e:p.1=j
   ·rw [zBX (p:=(p.1,y)) e,zBX e,yCm,yAS (e.symm.trans h)]
   ·rw [zBO (p:=(p.1,y)) e,zBO e,ih]
  ·rw [yAT h]
   by_cases e:p.1=j
   ·rw [zBX (p:=p) e,zBX e,yCm,yAT (λz=>h (e.trans z))]
   ·rw [zBO (p:=p) e,zBO e,ih]
def zK5 (k j:κ)(y:V):∀ kvs:List (κ×V),ZFE kvs k=none->ZFE (kvs++[(k,y)]) j=if j=k then some y else ZFE kvs j
 | [],_=>by
  by_cases e:k=j
  ·rw [yAS e.symm];exact zBX (p:=(k,y)) e
  ·rw [yAT (λz=>e z.symm)];exact zBO (p:=(k,y)) e
 | p::r,hn=>by
  rw [List.cons_append];have hk:¬p.1=k:=λz=>by rw [zBX z] at hn;cases hn
  rw [zBO hk] at hn;have ih:=zK5 k j y r hn
  by_cases e:p.1=j
  ·rw [zBX e,zBX e,yAT (λz=>hk (e.trans z))]
  ·rw [zBO e,zBO e,ih]
def zNH (kvs:List (κ×V))(k j:κ)(y:V):ZFE (ZGJ kvs k y) j=if j=k then some y else ZFE kvs j:=by
 unfold ZGJ
 by_cases a:(kvs.any λkv=>decide (kv.1=k))=true
 ·rw [yAS a,zNW]
  rw [zF2] at a
  by_cases e:j=k
  ·obtain ⟨x,hx⟩:=yBt.mp a
   rw [yAS e,e,hx,yCm,yAS rfl]
  ·rw [yAT e]
   cases ZFE kvs j with
   | none=>rfl
   | some x=>rw [yCm,yAT e]
 ·rw [yAT a]
  refine zK5 k j y kvs ?_;rw [zF2] at a
  cases q:ZFE kvs k with
  | none=>rfl
  | some x=>rw [q] at a;exact (a rfl).elim
def zCI (kvs:List (κ×V))(k:κ)(v:V):(ZGJ kvs k v).length<=kvs.length+1:=by
 unfold ZGJ
 split
 ·rw [yAA];lia
 ·rw [yAV,yBK,yCp];lia
def zTQ {kvs:List (κ×V)}{k:κ}(v:V)(h:ZFE kvs k=none):ZGJ kvs k v=kvs++[(k,v)]:=by
 unfold ZGJ;rw [zF2,h];exact yAT dQ
theorem RelO.isSome_eq {o:Option V}{u:Option Value}(r:RelO o u):o.isSome=u.isSome:=by
 cases o with
 | none=>cases u with
  | none=>rfl
  | some _=>exact (show False from r).elim
 | some _=>cases u with
  | none=>exact (show False from r).elim
  | some _=>rfl
theorem KV.val {kvs:List (κ×V)}{vs:List (κ×Value)}(r:KV kvs vs)(k:κ):RelO (ZFE kvs k) (valueAt vs k):=by
 unfold KV at r
 induction r with
 | nil=>exact eAW
 | @cons p q ps qs h t ih=>
  obtain ⟨h1,h2⟩:=h
  by_cases e:p.1=k
  ·have e':q.1=k:=h1.symm.trans e
   have b:valueAt (q::qs) k=some q.2:=by simp [valueAt,yCV,e']
   rw [zBX e,b];exact h2
  ·have e':¬q.1=k:=λz=>e (h1.trans z)
   have b:valueAt (q::qs) k=valueAt qs k:=by simp [valueAt,yCV,e']
   rw [zBO e,b];exact ih
theorem KV.any {kvs:List (κ×V)}{vs:List (κ×Value)}(r:KV kvs vs)(k:κ):(kvs.any λkv=>decide (kv.1=k))=vs.any λkv=>decide (kv.1=k):=by
 unfold KV at r
 induction r with
 | nil=>rfl
 | cons h t ih=>rw [yDb,yDb,ih,h.1]
theorem KV.repl {kvs:List (κ×V)}{vs:List (κ×Value)}(r:KV kvs vs)(k:κ){y:V}{u:Value}(ry:RelV y u) :
  KV (kvs.map λkv=>if kv.1=k then (kv.1,y) else kv) (vs.map λkv=>if kv.1=k then (kv.1,u) else kv):=by
 unfold KV at r ⊢
 induction r with
 | nil=>exact .nil
 | @cons p q ps qs h t ih=>
  rw [yAq,yAq];refine .cons ?_ ih;obtain ⟨h1,h2⟩:=h
  by_cases e:p.1=k
  ·rw [yAS e,yAS (h1.symm.trans e)];exact#[h1,ry]
  ·rw [yAT e,yAT (λz=>e (h1.trans z))];exact#[h1,h2]
theorem KV.put {kvs:List (κ×V)}{vs:List (κ×Value)}(r:KV kvs vs)(k:κ){y:V}{u:Value}(ry:RelV y u):KV (ZGJ kvs k y) (stored vs k u):=by
 unfold ZGJ stored;rw [r.any k]
 by_cases e:(vs.any λkv=>decide (kv.1=k))=true
 ·rw [yAS e,yAS e];exact r.repl k ry
 ·rw [yAT e,yAT e];exact Paired.snoc r #[rfl,ry]
theorem KV.length {kvs:List (κ×V)}{vs:List (κ×Value)}(r:KV kvs vs):kvs.length=vs.length:=Paired.length r
end
def zKL {P:eAD}{w:World}{k:Key}{u:Value}(r:RelV (kV k) u):(ZAF P w).is k u=true:=by
 cases k with
 | inl i=>obtain ⟨t,e⟩:=(show ∃ t,u=Value.int i t from r);subst e;exact zLB P w i t
 | inr x=>obtain ⟨t,e⟩:=(show ∃ t,u=Value.str x t from r);subst e;exact zM6 P w x t
def zKS {P:eAD}{w:World}:∀ {ks:List Key} {us:List Value},Vals (ks.map kV) us->ItemsAre (ZAF P w) ks us
 | [],_,r=>by rw [yEW] at r;cases r;exact .nil
 | k::ks,_,r=>by
  rw [yAq] at r
  cases r with
  | cons h t=>exact .cons (zKL h) (zKS t)
abbrev KT (H:Hp):List (List Key×V)->List (List Key×Addr×Value)->Prop:=Paired λp q=>p.1=q.1/\H q.2.1=some (.tup (p.1.map kV))/\RelV p.2 q.2.2
theorem KT.val {H:Hp}{kvs:List (List Key×V)}{xs:List (List Key×Addr×Value)}(r:KT H kvs xs)(k:List Key):RelO (ZFE kvs k) ((atKey xs k).map (·.2)):=by
 induction r with
 | nil=>exact eAW
 | @cons p q ps qs h t ih=>
  obtain ⟨h1,_,h2⟩:=h
  by_cases e:p.1=k
  ·have e':q.1=k:=h1.symm.trans e
   have b:atKey (q::qs) k=some q.2:=by simp [atKey,yCV,e']
   rw [zBX e,b];exact h2
  ·have e':¬q.1=k:=λz=>e (h1.trans z)
   have b:atKey (q::qs) k=atKey qs k:=by simp [atKey,yCV,e']
   rw [zBO e,b];exact ih
theorem KT.repl {H:Hp}{kvs:List (List Key×V)}{xs:List (List Key×Addr×Value)}(r:KT H kvs xs)(k:List Key){y:V}{u:Value}(ry:RelV y u) :
  KT H (kvs.map λkv=>if kv.1=k then (kv.1,y) else kv) (xs.map (putAt k u)):=by
 induction r with
 | nil=>exact .nil
 | @cons p q ps qs h t ih=>
  rw [yAq,yAq];refine .cons ?_ ih;obtain ⟨h1,h2,h3⟩:=h;unfold putAt
  by_cases e:p.1=k
  ·rw [yAS e,yAS (h1.symm.trans e)];exact#[h1,h2,ry]
  ·rw [yAT e,yAT (λz=>e (h1.trans z))];exact#[h1,h2,h3]
theorem KT.put {H:Hp}{kvs:List (List Key×V)}{xs:List (List Key×Addr×Value)}(r:KT H kvs xs)(k:List Key){b:Addr}{y:V}{u:Value}(hb:H b=some (.tup (k.map kV)))(ry:RelV y u) :
  KT H (ZGJ kvs k y) (storedH xs k b u):=by
 have e:(kvs.any λkv=>decide (kv.1=k))=(atKey xs k).isSome:=by
  rw [zF2,(r.val k).isSome_eq,Option.isSome_map]
 unfold ZGJ storedH;rw [e]
 by_cases q:(atKey xs k).isSome=true
 ·rw [yAS q,yAS q];exact r.repl k ry
 ·rw [yAT q,yAT q];exact Paired.snoc r #[rfl,hb,ry]
theorem KT.keeps {H H':Hp}{kvs:List (List Key×V)}{xs:List (List Key×Addr×Value)}(r:KT H kvs xs)(ht:∀ b ys,H b=some (.tup ys)->H' b=some (.tup ys)):KT H' kvs xs:=
 Paired.mapP r λ_ _ z=>#[z.1,ht _ _ z.2.1,z.2.2]
section
variable {P:eAD}{w:World}{H:Hp}{h:Heap}{a:Addr}
def zbH {u:HO}(ok:HOk P w H h)(e:Rd H a u):UAI P w H h a u:=e.ok ok
def zRW {kvs:List (Key×V)}(ok:HOk P w H h)(e:Rd H a (.dK kvs)):kvs.length<=eA5/\(a==eAI)=false/\∃ vs,KV kvs vs/\h.DictOf (ZAF P w) a vs:=
 show UAI P w H h a (.dK kvs) from zbH ok e
def zWH {kvs:List (Key×V)}(ok:HOk P w H h)(e:H a=some (.dK kvs)):kvs.length<=eA5/\(a==eAI)=false/\∃ vs,KV kvs vs/\h.DictOf (ZAF P w) a vs:=zRW ok (.inl e)
def zK0 {ks:List Key}(ok:HOk P w H h)(e:H a=some (.tup (ks.map kV))):(tupleKind (ZAF P w)).is h ks a:=by
 obtain ⟨_,its,r,o,h1,h2,n,h3⟩:=(show UAI P w H h a (.tup (ks.map kV)) from ok a _ e);exact#[o,its.toArray,n,h1,h2,h3,by simpa using zKS r]
def zRF {kvs:List (List Key×V)}(ok:HOk P w H h)(e:Rd H a (.dT kvs)):kvs.length<=eA5/\(a==eAI)=false /\
  ∃ xs,KT H kvs xs/\h.DictOfH (tupleKind (ZAF P w)) a xs:=by
 obtain ⟨z,y,xs,r,o,es,ep,h1,h2,h3,h4,h5⟩:=(show UAI P w H h a (.dT kvs) from zbH ok e);refine#[z,y,xs,r,o,es,ep,h1,h2,h3,h4,λx hx=>?_,h5]
 have all:∀ {l:List (List Key×V)} {m:List (List Key×Addr×Value)},KT H l m->∀ x∈m,(tupleKind (ZAF P w)).is h x.1 x.2.1:=by
  intro l m q
  induction q with
  | nil=>intro x hx;exact nomatch hx
  | @cons p q ps qs hq t ih=>
   intro x hx
   rcases yAf.mp hx with e|hx
   ·subst e
    exact zK0 ok (by rw [<- hq.1];exact hq.2.1)
   ·exact ih x hx
 exact all r x hx
def zdN {kvs:List (List Key×V)}(ok:HOk P w H h)(e:H a=some (.dT kvs)):kvs.length<=eA5/\(a==eAI)=false /\
  ∃ xs,KT H kvs xs/\h.DictOfH (tupleKind (ZAF P w)) a xs:=zRF ok (.inl e)
end
def DGet (H:Hp)(a:Addr)(y:V)(r:Option V):Prop:=
 (∃ kvs k,Rd H a (.dK kvs)/\y=kV k/\r=ZFE kvs k) \/ ∃ kvs k b,Rd H a (.dT kvs)/\y=.ref b/\H b=some (.tup (k.map kV))/\r=ZFE kvs k
def DPut (H:Hp)(a:Addr)(y v:V)(H':Hp):Prop:=
 (∃ kvs k,H a=some (.dK kvs)/\y=kV k/\kvs.length<eA5/\H'=upd H a (.dK (ZGJ kvs k v))) \/
 ∃ kvs k b,H a=some (.dT kvs)/\y=.ref b/\H b=some (.tup (k.map kV))/\kvs.length<eA5/\H'=upd H a (.dT (ZGJ kvs k v))
theorem DGet.k {H:Hp}{a:Addr}{kvs:List (Key×V)}{k:Key}(e:H a=some (.dK kvs)):DGet H a (kV k) (ZFE kvs k):=.inl #[kvs,k,.inl e,rfl,rfl]
theorem DPut.k {H:Hp}{a:Addr}{kvs:List (Key×V)}{k:Key}{v:V}(e:H a=some (.dK kvs))(hl:kvs.length<eA5):DPut H a (kV k) v (upd H a (.dK (ZGJ kvs k v))):=.inl #[kvs,k,e,rfl,hl,rfl]
section
variable {X:Cx}{pins:kA}{σ:St}{H:Hp}{s:Shared}{a:Addr}{y v:V}{u r:Value}{o:Option V}{A:eAK}{E:kW}
theorem Inv.big (I:Inv X pins σ H s):eAI<(kZ s):=by
 have h:eAA<(kZ s):=(I.mod.glob.keeps I.bk).lt;exact Nat.lt_trans dQ h
def zPV {Q:kW}(hu:A.units+1<cLine)(I:Inv X pins σ H s)(g:DGet H a y (some v))(ry:RelV y u)(h:∀ w' s',Inv X pins σ H s'->RelV v w'->Q w' s') :
  wpAny (model X.prog X.w) A (getItem (.ref a) u) Q E s:=by
 rcases g with ⟨kvs,k,e,ey,l⟩|⟨kvs,k,b,e,ey,eb,l⟩
 ·subst ey
  obtain ⟨z,hd,vs,rel,dd⟩:=zRW I.hok e;obtain ⟨w',hw,rw'⟩:=RelO.some_of (v:=v) (o:=valueAt vs k) (by rw [l];exact rel.val k);exact wpAny_getItem_of (zKL ry) dd.mapOf hw (h w' _ (I.tok _) rw')
 ·subst ey
  cases (show u=eAF b from ry)
  obtain ⟨z,hd,xs,rel,dd⟩:=zRF I.hok e;obtain ⟨w',hw,rw'⟩:=RelO.some_of (v:=v) (o:=(atKey xs k).map (·.2)) (by rw [l];exact rel.val k);obtain ⟨p,hp,hp2⟩:=yCh.mp hw;refine wpAny_getItem_heap (yDk hu) (zK0 I.hok eb) dd hp ?_;rw [hp2];exact h w' _ (I.tok _) rw'
def zf2 {Q:kW}(hu:A.units+1<cLine)(I:Inv X pins σ H s)(g:DGet H a y o)(ry:RelV y u)(h:∀ s',Inv X pins σ H s'->Q (.bool o.isSome) s') :
  wpAny (model X.prog X.w) A (eAP .In u (.ref a)) Q E s:=by
 rcases g with ⟨kvs,k,e,ey,l⟩|⟨kvs,k,b,e,ey,eb,l⟩
 ·subst ey
  obtain ⟨z,hd,vs,rel,dd⟩:=zRW I.hok e;refine wpAny_in_of (zKL ry) hd dd.mapOf ?_;rw [<- (rel.val k).isSome_eq,<- l];exact h _ (I.tok _)
 ·subst ey
  cases (show u=eAF b from ry)
  obtain ⟨z,hd,xs,rel,dd⟩:=zRF I.hok e;refine wpAny_in_heap (yDk hu) (zK0 I.hok eb) hd dd ?_;have q:=(rel.val k).isSome_eq;rw [Option.isSome_map] at q;rw [<- q,<- l];exact h _ (I.tok _)
def zYO {Q:kW}(hu:A.units+1<cLine)(I:Inv X pins σ H s)(g:DGet H a y o)(ry:RelV y u)(h:∀ s',Inv X pins σ H s'->Q (.bool (!o.isSome)) s') :
  wpAny (model X.prog X.w) A (eAP .NotIn u (.ref a)) Q E s:=by
 rcases g with ⟨kvs,k,e,ey,l⟩|⟨kvs,k,b,e,ey,eb,l⟩
 ·subst ey
  obtain ⟨z,hd,vs,rel,dd⟩:=zRW I.hok e;refine wpAny_notIn_of (zKL ry) hd dd.mapOf ?_;rw [<- (rel.val k).isSome_eq,<- l];exact h _ (I.tok _)
 ·subst ey
  cases (show u=eAF b from ry)
  obtain ⟨z,hd,xs,rel,dd⟩:=zRF I.hok e;refine wpAny_notIn_heap (yDk hu) (zK0 I.hok eb) hd dd ?_;have q:=(rel.val k).isSome_eq;rw [Option.isSome_map] at q;rw [<- q,<- l];exact h _ (I.tok _)
def zIU {h':Heap}{t':Nat}{ob:HO}(I:Inv X pins σ H s)(mu:Mut (H a))(hs:eAM a s.heap h')(he:∃ q,h'.get? a=some q)(new:UAI X.prog X.w (upd H a ob) h' a ob) :
  Inv X pins σ (upd H a ob) { s with heap:=h',toks:=t' }:=
 I.write (x:=a) (e:=a) mu (.inl rfl) (λb q hb z=>(hs.2 b hb).trans z) he new
def zPP {P:eAD}{w:World}{H':Hp}{h':Heap}{kvs:List (Key×V)}{vs:List (Key×Value)}(z:kvs.length<=eA5)(hd:(a==eAI)=false)(rel:KV kvs vs)(dd:h'.DictOf (ZAF P w) a vs) :
  UAI P w H' h' a (.dK kvs):=#[z,hd,vs,rel,dd]
def zTK {H':Hp}{Q:Unit->Shared->Prop}(hu:A.units+1<cLine)(I:Inv X pins σ H s)(g:DPut H a y v H')(ry:RelV y u)(rv:RelV v r)(h:∀ s',Inv X pins σ H' s'->Q () s') :
  wpAny (model X.prog X.w) A (setItem (.ref a) u r) Q E s:=by
 rcases g with ⟨kvs,k,e,ey,l,eH⟩|⟨kvs,k,b,e,ey,eb,l,eH⟩
 ·subst ey eH
  obtain ⟨z,hd,vs,rel,dd⟩:=zWH I.hok e;have hz:vs.length<=eA5:=by rw [<- rel.length];exact z
  have hl:(ZGJ kvs k v).length<=eA5:=by have:=zCI kvs k v;lia
  refine wpAny_setItem_pairs (hsz:=hz) (zKL ry) dd λh' dd' hs=>h _ ?_;have he:∃ q,h'.get? a=some q:=let ⟨q,_,_,hq,_⟩:=dd';#[q,hq];exact zIU I (by rw [e];exact eAW) hs he (zPP hl hd (rel.put k rv) dd')
 ·subst ey eH
  cases (show u=eAF b from ry)
  obtain ⟨z,hd,xs,rel,dd⟩:=zdN I.hok e;have hz:xs.length<=eA5:=by rw [<- Paired.length rel];exact z
  have hl:(ZGJ kvs k v).length<=eA5:=by have:=zCI kvs k v;lia
  refine wpAny_setItem_heap (hsz:=hz) (yDk hu) (zK0 I.hok eb) dd λh' dd' hs=>h _ ?_;obtain ⟨q,es,ep,hq,h2,h3,h4,_,h5⟩:=dd';refine zIU I (by rw [e];exact eAW) hs #[q,hq] #[hl,hd,_,(rel.put k eb rv).keeps λc ys ec=>?_,q,es,ep,hq,h2,h3,h4,h5];rw [zA6 (zdJ ec e (λz=>nomatch z))];exact ec
end
section
variable {X:Cx}{pins:kA}{σ:St}{H:Hp}{s:Shared}{a:Addr}{kvs:List (Key×V)}{k:Key}{u:Value}{A:eAK}{E:kW}
end
def ZeQ (i:Expr):Prop:=∀ ov iv,subscripted i false ov iv=operate [ov,iv] (getItem ov iv)
def zYG {prog:eAD}{w:World}{A:eAK}{E:kW}{s:Shared}{env:Env}{value slice:Expr}{pos:Pos}{T id:String}{Q:kW}
  (hl:typeLookup (.type T) "__getitem__"=pure (some (.builtin id))) (hs:ZeQ slice)
  (h:wpAny (model prog w) A (eval value env) (λo s₁=>wpAny (model prog w) A (eval slice env) (λi s₂=>s₂.TypeIs o T/\wpAny (model prog w) A (getItem o i) Q E s₂) E s₁) E s) :
  wpAny (model prog w) A (eval (.Subscript value slice pos) env) Q E s:=by
 refine Subscript_ (yBW h (λo s₁ h₁=>yBW h₁ (λi s₂ h₂=>?_) λ_ _ x=>x) λ_ _ x=>x);obtain ⟨hT,h₂⟩:=h₂;unfold subscriptTail;refine yAC ?_;rw [getitemInPython_of_ne hT.not_modules];refine yAC (wpAny_specialOf hT hl ?_)
 have fin:wpAny (model prog w) A (subscripted slice false o i) (λr s₃=>wpAny (model prog w) A (letTemporaryGo value o r >>= λ_=>pure r) Q E s₃) E s₂:=by
  rw [hs o i];exact wpAny_operating (yBW h₂ (λr s₃ h₃=>yAC (wpAny_letTemporaryGo (yAO h₃))) λ_ _ x=>x)
 first
  | exact yAO (yAC fin)
  | exact yAC (yAO (yAC fin))
  | exact yAC fin
def zL1 {X:Cx}{pins:kA}{σ:St}{H:Hp}{s:Shared}{a:Addr}{y:V}{o:Option V}(I:Inv X pins σ H s)(g:DGet H a y o):s.TypeIs (.ref a) "dict":=by
 rcases g with ⟨kvs,k,e,_,_⟩|⟨kvs,k,b,e,_,_,_⟩
 ·obtain ⟨_,_,vs,_,dd⟩:=zRW I.hok e
  exact dd.typeIs
 ·obtain ⟨_,_,xs,_,dd⟩:=zRF I.hok e
  exact dd.typeIs
def ZeB (td ty:TE):TE:=λσ H Q=>td σ H λx H1=>ty σ H1 λy H2=>∃ a v,x=.ref a/\DGet H2 a y (some v)/\Q v H2
def ZeU (ty td:TE):TE:=λσ H Q=>ty σ H λy H1=>td σ H1 λx H2=>∃ a o,x=.ref a/\DGet H2 a y o/\Q (.bl o.isSome) H2
def ZZN (ty td:TE):TE:=λσ H Q=>ty σ H λy H1=>td σ H1 λx H2=>∃ a o,x=.ref a/\DGet H2 a y o/\Q (.bl (!o.isSome)) H2
def ZdH (td ty tv:TE):TS:=λD σ H=>tv σ H λv H1=>td σ H1 λx H2=>ty σ H2 λy H3=>∃ a H4,x=.ref a/\DPut H3 a y v H4/\D.nx σ H4
section
variable {X:Cx}{o i e value:Expr}{pos pos' tpos:Pos}{td ty tv:TE}
def zST (hu:X.A.units+1<cLine)(ho:PE X o td)(hi:PE X i ty)(hs:ZeQ i):PE X (.Subscript o i pos) (ZeB td ty):=by
 intro pins s σ H Q I h;refine zYG PySem.F.slot_dict_getitem.lookup hs (thn (ho pins s σ H _ I h) λu s1 hM=>?_);obtain ⟨x,H1,I1,rx,q1⟩:=hM;refine thn (hi pins s1 σ H1 _ I1 q1) λiv s2 hM=>?_;obtain ⟨y,H2,I2,ry,a,v,ex,g,q2⟩:=hM;subst ex;obtain rfl:u=eAF a:=rx;exact#[zL1 I2 g,zPV hu I2 g ry λw' s3 I3 rw'=>#[v,H2,I3,rw',q2]]
def zbM (hu:X.A.units+1<cLine)(hi:PE X i ty)(ho:PE X o td):PC X .In i o (ZeU ty td):=by
 intro pins s σ H Q I h;refine thn (hi pins s σ H _ I h) λiv s1 hM=>?_;obtain ⟨y,H1,I1,ry,q1⟩:=hM;refine thn (ho pins s1 σ H1 _ I1 q1) λu s2 hM=>?_;obtain ⟨x,H2,I2,rx,a,ov,ex,g,q2⟩:=hM;subst ex;obtain rfl:u=eAF a:=rx;exact zf2 hu I2 g ry λs3 I3=>#[.bl ov.isSome,H2,I3,rfl,q2]
def zKD (hu:X.A.units+1<cLine)(hi:PE X i ty)(ho:PE X o td):PC X .NotIn i o (ZZN ty td):=by
 intro pins s σ H Q I h;refine thn (hi pins s σ H _ I h) λiv s1 hM=>?_;obtain ⟨y,H1,I1,ry,q1⟩:=hM;refine thn (ho pins s1 σ H1 _ I1 q1) λu s2 hM=>?_;obtain ⟨x,H2,I2,rx,a,ov,ex,g,q2⟩:=hM;subst ex;obtain rfl:u=eAF a:=rx;exact zYO hu I2 g ry λs3 I3=>#[.bl (!ov.isSome),H2,I3,rfl,q2]
def zaC (hu:X.A.units+1<cLine)(ho:PE X o td)(hi:PE X i ty)(hv:PE X value tv)(hs:swapsWith value (some (.Subscript o i pos')) pos.line X.env=pure false) :
  PS X (.Assign [.Subscript o i pos'] value pos) (ZdH td ty tv):=by
 intro pins s σ H D I h;refine wpAny_Assign_Subscript (thn (hv pins s σ H _ I h) λr s1 hM=>?_) hs;obtain ⟨v,H1,I1,rv,q1⟩:=hM;refine thn (ho pins s1 σ H1 _ I1 q1) λu s2 hM=>?_;obtain ⟨x,H2,I2,rx,q2⟩:=hM;refine thn (hi pins s2 σ H2 _ I2 q2) λiv s3 hM=>?_;obtain ⟨y,H3,I3,ry,a,H4,ex,g,q3⟩:=hM;subst ex;obtain rfl:u=eAF a:=rx;exact zTK hu I3 g ry rv λs4 I4=>#[σ,H4,I4,q3]
end
def zJ8 {P:eAD}{w:World}{H:Hp}(h:Heap)(hb:eAI<h.objs.size):UAI P w H (h.push { cls:=.type "dict",data:=.dict #[] }) h.objs.size (.dK []):=
 #[yBN _,yDB.mpr (eAL (yAo hb)),[],.nil,Heap.DictOf.new h]
def ZWR:TE:=λ_ H Q=>∀ p,H p=none->Q (.ref p) (upd H p (.dK []))
section
variable {X:Cx}{pos:Pos}
def zIN:PE X (.Dict [] [] pos) ZWR:=λpins s σ H Q I h=>
 wpAny_Dict_empty #[.ref (kZ s),_,I.laid (a:=(kZ s)) (o:=.dK []) (t':=s.toks) (λ_ _ q=>yAD _ q) (yAF _) (zJ8 s.heap I.big),rfl,h _ (I.hok.fresh (yAF _))]
end
def ZT5:List (TE×TE)->St->Hp->(List (V×V)->Hp->Prop)->Prop
 | [],_,H,Q=>Q [] H
 | (tk,tv)::r,σ,H,Q=>tk σ H λx H1=>tv σ H1 λy H2=>ZT5 r σ H2 λps H3=>Q ((x,y)::ps) H3
abbrev VV:List (V×V)->List (Value×Value)->Prop:=Paired λp q=>RelV p.1 q.1/\RelV p.2 q.2
def PPs (X:Cx)(pos:Pos)(keys:List (Option Expr))(values:List Expr)(trs:List (TE×TE)):Prop:=
 ∀ (pins:kA) (s:Shared) (σ:St) (H:Hp) (Q:List (V×V)->Hp->Prop),Inv X pins σ H s->ZT5 trs σ H Q ->
  kM (evalPairs (pairTrees keys values X.env pos)) (λvs s'=>∃ ps H',Inv X pins σ H' s'/\VV ps vs/\Q ps H') X.xe s
def zYQ {X:Cx}{pos:Pos}:PPs X pos [] [] []:=λpins s σ H Q I h=>pairTrees_nil_walk #[[],H,I,.nil,h]
def zVM {X:Cx}{pos:Pos}{k v:Expr}{ks:List (Option Expr)}{vs:List Expr}{tk tv:TE}{trs:List (TE×TE)}(hk:PE X k tk)(hv:PE X v tv)(hr:PPs X pos ks vs trs) :
  PPs X pos (some k::ks) (v::vs) ((tk,tv)::trs):=λpins s σ H Q I h=>
 pairTrees_cons_walk (thn (hk pins s σ H _ I h) λu s1 ⟨x,H1,I1,rx,q1⟩=>thn (hv pins s1 σ H1 _ I1 q1) λw2 s2 ⟨y,H2,I2,ry,q2⟩=>
  thn (hr pins s2 σ H2 _ I2 q2) λws s3 ⟨ps,H3,I3,rel,q3⟩=>#[(x,y)::ps,H3,I3,.cons #[rx,ry] rel,q3])
def ZG0 (kvs more:List (Key×V)):List (Key×V):=more.foldl (λacc kv=>ZGJ acc kv.1 kv.2) kvs
theorem KV.merge:∀ {more:List (Key×V)} {rs:List (Key×Value)} {kvs:List (Key×V)} {vs:List (Key×Value)},KV more rs->KV kvs vs->KV (ZG0 kvs more) (merged vs rs):=by
 intro more rs kvs vs r;unfold KV at r
 induction r generalizing kvs vs with
 | nil=>intro q;exact q
 | @cons p q ps qs h t ih=>
  intro r0
  have e:KV (ZGJ kvs p.1 p.2) (stored vs q.1 q.2):=by
   have:=r0.put p.1 h.2
   rw [<- h.1];exact this
  exact ih e
def zF9:∀ (more kvs:List (Key×V)),(ZG0 kvs more).length<=kvs.length+more.length
 | [],kvs=>by show kvs.length<=kvs.length+0;lia
 | p::r,kvs=>by
  have h1:=zF9 r (ZGJ kvs p.1 p.2);have h2:=zCI kvs p.1 p.2;show (ZG0 (ZGJ kvs p.1 p.2) r).length<=_;rw [yBK];lia
def zIA {P:eAD}{w:World}:∀ {kvs:List (Key×V)} {ws:List (Value×Value)},VV (kvs.map λkv=>(kV kv.1,kv.2)) ws->∃ rs,Carries (ZAF P w) ws rs/\KV kvs rs
 | [],_,r=>by rw [yEW] at r;cases r;exact#[[],eAW,.nil]
 | p::kvs,_,r=>by
  rw [yAq] at r
  cases r with
  | @cons a b as bs h t=>
   obtain ⟨rs,c,q⟩:=zIA (P:=P) (w:=w) t;obtain ⟨b1,b2⟩:=b;exact#[(p.1,b2)::rs,#[zKL h.1,rfl,c],.cons #[rfl,h.2] q]
def ZdB (trs:List (TE×TE)):TE:=λσ H Q=>∀ p,H p=none->ZT5 trs σ (upd H p (.dK [])) λps H2=>H2 p=some (.dK [])/\∃ kvs:List (Key×V),ps=kvs.map (λkv=>(kV kv.1,kv.2))/\kvs.length<=15/\Q (.ref p) (upd H2 p (.dK (ZG0 [] kvs)))
def zZA {X:Cx}{pos:Pos}{keys:List (Option Expr)}{values:List Expr}{trs:List (TE×TE)}(h:PPs X pos keys values trs)(hall:keys.all (·.isSome)=true)(hl:keys.length=values.length)(h0:keys≠[])
  (h15:keys.length<=15):PE X (.Dict keys values pos) (ZdB trs):=by
 intro pins s σ H Q I q;have hn:=I.hok.fresh (yAF (kZ s));have I1:=I.laid (a:=(kZ s)) (o:=.dK []) (h':=s.heap.push { cls:=.type "dict",data:=.dict #[] }) (t':=s.toks) (λ_ _ q=>yAD _ q) (yAF _) (zJ8 s.heap I.big);refine wpAny_Dict_walk (knd:=ZAF X.prog X.w) hall hl h0 h15 (thn (h pins _ σ _ _ I1 (q _ hn)) λws s2 hM=>?_);obtain ⟨ps,H2,I2,rel,e,kvs,ep,lk,q2⟩:=hM;subst ep;obtain ⟨rs,c,rk⟩:=zIA (P:=X.prog) (w:=X.w) rel;obtain ⟨z,hd,vs0,r0,dd⟩:=zWH I2.hok e
 cases r0
 refine#[rs,c,dd,λh' dd' hs=>#[.ref (kZ s),_,?_,rfl,q2]]
 have hz:(ZG0 [] kvs).length<=eA5:=by
  have h1:=zF9 kvs [];rw [yCp] at h1;rw [sizeLine_eq];lia
 have he:∃ q,h'.get? (kZ s)=some q:=let ⟨q,_,_,hq,_⟩:=dd';#[q,hq];exact zIU I2 (by rw [e];exact eAW) hs he (zPP hz hd (rk.merge .nil) dd')
structure M1 (X:Cx)(o:Expr)(m:Str)(apos:Pos)(e:Expr)(cpos:Pos):Prop where
 base:eAX o m X.env (eval o X.env)=eval o X.env
 few:((eAN cpos (eAO [e] X.env)).all (λx=>!x.1)&&(backToKw cpos (keywordEach [] X.env)).all (λx=>x.1.isSome)
  && decide (([e]:List Expr).length+([]:List Keyword).length+(if ([]:List Keyword).isEmpty then 0 else 1)<30))=true
 line:(apos.endLine==cpos.line)=true
 trees:eAN cpos (eAO [e] X.env)=[(false,eval e X.env)]
structure M2 (X:Cx)(o:Expr)(m:Str)(apos:Pos)(e f:Expr)(cpos:Pos):Prop where
 base:eAX o m X.env (eval o X.env)=eval o X.env
 few:((eAN cpos (eAO [e,f] X.env)).all (λx=>!x.1)&&(backToKw cpos (keywordEach [] X.env)).all (λx=>x.1.isSome)
  && decide (([e,f]:List Expr).length+([]:List Keyword).length+(if ([]:List Keyword).isEmpty then 0 else 1)<30))=true
 line:(apos.endLine==cpos.line)=true
 trees:eAN cpos (eAO [e,f] X.env)=[(false,eval e X.env),(false,eval f X.env)]
section
variable {X:Cx}{pins:kA}{σ:St}{H:Hp}{s:Shared}{a:Addr}{y d:V}{u r:Value}{o:Option V}{A:eAK}{E:kW}
end
section
variable {X:Cx}{o e f:Expr}{apos cpos:Pos}{td ty tx:TE}
end
section
variable {X:Cx}{pins:kA}{σ:St}{H:Hp}{s:Shared}{a:Addr}{kvs:List (Key×V)}{A:eAK}{E:kW}
end
section
variable {X:Cx}{pins:kA}{σ:St}{H:Hp}{s:Shared}{a:Addr}{y:V}{u:Value}{A:eAK}{E:kW}
end
def ZFN (scope:Scope)(xs:List Str)(fv:List (Str×Nat)):Bool:=
 (scope.kind==.function)&&(scope.names.all λy=>y.2 != .cell)&&(scope.names.all λy=>y.2 != .local||scope.names.lookup y.1==some .local)&&(xs.all λx=>scope.names.lookup x==some .local) &&
 (scope.names.all λy=>y.2 != .free||(fv.map (·.1)).contains y.1)&&decide ((xs++fv.map (·.1)).Nodup)
structure UAn (scope:Scope)(xs:List Str)(fv:List (Str×Nat)):Prop where
 kind:scope.kind=.function
 nocell:∀ y∈scope.names,y.2≠.cell
 names:∀ y∈scope.names,y.2=.local->scope.names.lookup y.1=some .local
 hx:∀ x∈xs,scope.names.lookup x=some .local
 fr:∀ y∈scope.names,y.2=.free->y.1∈fv.map (·.1)
 nd:(xs++fv.map (·.1)).Nodup
def zE3 {scope:Scope}{xs:List Str}{fv:List (Str×Nat)}(h:ZFN scope xs fv=true):UAn scope xs fv:=by
 unfold ZFN at h;simp only [yAN,yBA,yCq,yAI,bne_iff_ne,yAm,List.contains_iff_mem,ne_eq] at h;obtain ⟨⟨⟨⟨⟨h1,h2⟩,h3⟩,h4⟩,h5⟩,h6⟩:=h;exact#[h1,h2,λy hy hl=>(h3 y hy).resolve_left λz=>z hl,h4,λy hy hl=>(h5 y hy).resolve_left λz=>z hl,h6]
def cxT (X:Cx)(scope:Scope)(xs:List Str)(fv:List (Str×Nat))(C:Addr)(s₀:Shared)(H₀:Hp)(ex:List Addr)(pn:kA):Cx:=
 { X with N:=xs++fv.map (·.1),s₀:=s₀,H₀:=H₀,env:=compEnvC scope (ZYV scope X.env) C X.env,outer:=X.stack,stack:=X.stack,ex:=ex,fn:=λ_=>false,pn:=pn,xe:=λ_ _=>False }
def ρT (xs:List Str)(fv:List (Str×Nat))(σ:St):St:=xs.map (λ_=>none)++fv.map λp=>(σ[p.2]?).join
def ZIK (xs:List Str)(a b:St):Prop:=b.drop xs.length=a.drop xs.length
def zWB {xs:List Str}{fv:List (Str×Nat)}{σ b:St}(h:ZIK xs (ρT xs fv σ) b){j:Nat}{v:V}(e:(ρT xs fv σ)[j]?=some (some v)):b[j]?=some (some v):=by
 unfold ZIK at h
 by_cases hj:j<xs.length
 ·unfold ρT at e
  rw [yAv (by simpa using hj),yAa] at e
  cases q:xs[j]? with
  | none=>rw [q] at e;cases e
  | some y=>rw [q] at e;cases e
 ·have ej:j=xs.length+(j-xs.length):=by lia
  have e1:(ρT xs fv σ).drop xs.length=b.drop xs.length:=h.symm;rw [ej,<- yCP] at e;rw [ej,<- yCP,<- e1];exact e
abbrev TB:=Addr->St->Hp->(Hp->Prop)->Prop
def PB (X:Cx)(body:Addr->Env->Sem Unit)(tb:TB):Prop:=
 ∀ (pins:kA) (s:Shared) (σ:St) (H:Hp) (D:Addr) (N:Hp->Prop),Inv X pins σ H s->tb D σ H N->kM (body D X.env) (λ_ s'=>∃ H',Inv X pins σ H' s'/\N H') X.xe s
def ZCY (o0:HO)(xs:List Str)(fv:List (Str×Nat))(g:TG)(tt:TT)(tb:TB)(σ:St)(J:It)(H1:Hp)(Q:VK):Prop:=
 ∀ D,H1 D=none->∃ W:Nat->Nat->Hp->Prop,(∃ m,W 0 m (upd H1 D o0))/\∀ i m H,W i m H ->
  (J.stop i H/\Q (.ref D) H) \/ (J.go i H/\∃ N:Hp->Prop,(∀ H',N H'->∃ m',m'<m/\W (i+1) m' H')/\∀ x H',J.yld i H x H'->g x (ρT xs fv σ) H' λσ2 H2=>ZIK xs (ρT xs fv σ) σ2/\tt σ2 H2 λb H3=>
   if b=true then tb D σ2 H3 N else N H3)
def ZNV (o0:HO)(wi:TI)(xs:List Str)(fv:List (Str×Nat))(g:TG)(tt:TT)(tb:TB):TE:=λσ H Q=>wi σ H λJ H1=>ZCY o0 xs fv g tt tb σ J H1 Q
def ZTC (X:Cx)(newAcc:Sem Value)(o0:HO):Prop:=
 ∀ (pins:kA) (σ:St) (H:Hp) (s:Shared) (E:kW) (Q:kW),Inv X pins σ H s ->
  (∀ s',Inv X pins σ (upd H (kZ s) o0) s'->s'.heap.objs.size=(kZ s)+1->(∀ b o,s.heap.get? b=some o->s'.heap.get? b=some o)->Q (.ref (kZ s)) s')->kM newAcc Q E s
section
variable {X:Cx}{pins:kA}{σ:St}{scope:Scope}{xs:List Str}{fv:List (Str×Nat)}{e tg iter:Expr}{ifs:List Expr}{pos:Pos}{tt:TT}{tb:TB}{g:TG}{o0:HO}{body:Addr->Env->Sem Unit}{newAcc:Sem Value}
def zEQ {s₂:Shared}{H2:Hp}{it:Addr}{fp:List Addr}{tn:Nat->Heap->Prop}{J:It}{Q:VK}{E:kW}{RR:Value->Addr->Result->Shared->Prop}
  (hc:X.calm=true) (S:UAn scope xs fv) (hv:FvOk X scope fv)
  (ht:∀ C s₀ H₀ ex pn,PTl (cxT X scope xs fv C s₀ H₀ ex pn) ifs tt) (hg:∀ C s₀ H₀ ex pn,PG (cxT X scope xs fv C s₀ H₀ ex pn) tg g) (he:∀ C s₀ H₀ ex pn,PB (cxT X scope xs fv C s₀ H₀ ex pn) body tb) (hnew:ZTC X newAcc o0)
  (hund:∀ (it acc:Value) (env:Env),X.A.under (.compLoop e 0 it acc env)=X.A) (hden:∀ (it acc:Value) (env:Env),(model X.prog X.w).den (.compLoop e 0 it acc env)=(compTurn e 0 it acc env).onRaise (λz=>do noteFrame z env;theTreesLotGoes z))
  (hturn:∀ (it:Value) (D:Addr) (env:Env),compTurn e 0 it (.ref D) env=(do
   standAt iter.pos
   match <- pyNext it with
   | none=>pure (.done .next)
   | some v=>
    letOwnedTupleGo tg it v
    assign tg env v
    let mut ok:=true
    for c in ifs do
     if ok then ok <- isTrue c env (eval c env)
    if ok then
     body D env
    again (.compLoop e 0 it (.ref D) env)))
  (hstart:∀ (it acc:Value) (env:Env) (R:Result->Shared->Prop) (s:Shared),codeAny (model X.prog X.w) X.A (.compLoop e 0 it acc env) R s->kM (pyIter it) (λit' s'=>codeAny (model X.prog X.w) X.A (.compLoop e 0 it' acc env) R s') (notedBy (model X.prog X.w) X.A env λx s'=>R (.error x) s') s ->
   codeAny (model X.prog X.w) X.A (.compStart e 0 it acc env) R s)
  (I2:Inv X pins σ H2 s₂) (T:Turn X.prog X.w X.K tg J fp it tn) (st2:tn 0 s₂.heap) (f2:∀ b∈fp,ZHO X pins H2 b) (hw:ZCY o0 xs fv g tt tb σ J H2 Q)
  (hRR:∀ D C s' H' m,Inv X pins σ H' s'->Q (.ref D) H'->s'.heap.Ns C m->ZHO X pins H' C->RR (.ref D) C (.ok .next) s') :
  kM newAcc (λacc s₃=>kM (newFunctionEnv scope X.env.globals (ZYV scope X.env) [] X.env.qual none .none (some X.env)) (λcenv s₄=>
   codeAny (model X.prog X.w) X.A (.compStart e 0 (.ref it) acc { cenv with scope:=relabel scope X.env }) (RR acc cenv.locals) s₄) E s₃) E s₂:=by
 have kap:∀ y:Str,(y,eAd)∈scope.names->(X.env.kindOf y=some .cell \/ X.env.kindOf y=some .free):=λy hy=>by
  obtain ⟨p,hp,e⟩:=yAr.mp (S.fr _ hy rfl);obtain ⟨j,hj⟩:=yCu hp;have q:=(hv.get hj).2.1;dsimp only at e;rw [e] at q;exact q
 have clk:∀ y c,(ZYV scope X.env).lookup y=some c->X.env.cells.lookup y=some c:=λy c e=>by
  rcases zJG (yBq e) with z|⟨z,w⟩
  ·simp at z
  ·obtain ⟨c',e'⟩:=I2.ok.has y (kap y z)
   rw [e'] at w ⊢;rw [w];rfl
 have hD0:H2 (kZ s₂)=none:=I2.fresh;refine hnew pins σ H2 s₂ E _ I2 λs₃ I3 hsz3 old3=>?_;generalize hH3:upd H2 (kZ s₂) o0=H3 at I3;refine wpAny_newFunctionEnv S.nocell (by intro y hy;simp at hy) (λh₁ hns₁ hsb₁=>?_) S.kind;have old4:∀ b o,s₃.heap.get? b=some o->h₁.get? b=some o:=λb o e=>hsb₁.extBut b o (yAo (yAP e)) (yAD _ e)
 have lt2:∀ b∈fp,b<(kZ s₂):=λb hb=>by
  obtain ⟨o,e,_⟩:=T.obj _ _ st2 b hb;exact yAP e
 have okX:(cxT X scope xs fv (kZ s₃) s₃ H3 fp (X.pn++pins)).Ok:=by
  refine#[I2.ok.mod,?_,I2.ok.glob,I2.ok.blt,yAF _,λy z c e1 e2=>?_,λy hy=>?_,λy c z=>?_,I2.ok.hd,I2.ok.frames,.inl rfl,λb hb=>?_,λb o e=>I3.bs b o e,yAp I3.ok.bsz I3.sz,λb o e hb=>?_,λb hb z=>?_,I3.stack,λb hb=>I3.stkFree b hb]
  ·exact S.kind
  ·exact I2.ok.inj y z c (clk y c e1) (clk z c e2)
  ·have hy':(y,eAd)∈scope.names:=by
    rcases hy with hy|hy
    ·rcases zHK (yBq hy) with z|z
     ·exact absurd rfl (S.nocell _ z)
     ·exact z
    ·rcases zHK (yBq hy) with z|z<;>exact z
   exact yBt.mp (zGF (env:=X.env) (acc:=[]) hy')
  ·cases z
  ·refine#[yAo (by rw [hsz3];exact yCU (lt2 b hb)),λy c e=>(f2 b hb).2.2.2.2.1 y c (clk y c e)]
  ·rcases (f2 b hb).2.2.2.1 with z|z
   ·exact I2.ok.noex b o e z
   ·exact absurd (yAj (yAP e) (yAp I2.ok.bsz z)) (yBk _)
  ·rcases yAf.mp (I2.stkSub b z) with w|w
   ·exact (f2 b hb).2.1 w
   ·exact (f2 b hb).2.2.1 w
 have C0:H3 (kZ s₃)=none:=I3.fresh
 have I4:Inv (cxT X scope xs fv (kZ s₃) s₃ H3 fp (X.pn++pins)) [] (ρT xs fv σ) H3 { s₃ with heap:=h₁,toks:=s₃.toks+([]:List (Str×Value)).length }:=by
  refine#[okX,rfl,I3.bare,Un.kept old4,#[_,hns₁,λi y v e1 e2 e3=>?_],λy c e=>?_,C0,λy c e=>I3.freeC y c (clk y c e),λp hp=>?_,I3.hok.kept old4,?_]
  ·have hi:¬i<xs.length:=λhi=>by
    have e2':=e2;unfold ρT at e2';rw [yAv (by simpa using hi),yAa] at e2'
    cases q:xs[i]? with
    | none=>rw [q] at e2';cases e2'
    | some y=>rw [q] at e2';cases e2'
   obtain ⟨j,rfl⟩:∃ j,i=xs.length+j:=#[i-xs.length,oz]
   have e1':(fv.map (·.1))[j]?=some y:=by
    have q:(xs++fv.map (·.1))[xs.length+j]?=some y:=e1;rw [yAt oz] at q
    simpa using q
   have e2':(fv.map λp=>(σ[p.2]?).join)[j]?=some (some v):=by
    have q:(xs.map (λ_=>(none:Option V))++fv.map λp=>(σ[p.2]?).join)[xs.length+j]?=some (some v):=e2;rw [yAt (by simp)] at q
    simpa using q
   rw [yAa] at e1' e2'
   cases ep:fv[j]? with
   | none=>rw [ep] at e1';cases e1'
   | some p=>
    rw [ep] at e1' e2';have ey:p.1=y:=by simpa using e1'
    have ev:(σ[p.2]?).join=some v:=by simpa using e2'
    obtain ⟨q1,q2,q3⟩:=hv.get ep;rw [ey] at q1 q2 q3
    have ev':σ[p.2]?=some (some v):=by
     cases es:σ[p.2]? with
     | none=>rw [es] at ev;cases ev
     | some w=>rw [es] at ev;cases w with
      | none=>cases ev
      | some w'=>cases ev;rfl
    obtain ⟨m,hn,hl⟩:=I3.loc;obtain ⟨u,r,lk⟩:=hl p.2 y v q1 ev' (by rcases q2 with z|z;exact .inr (.inl z);exact .inr (.inr z));refine#[u,r,.inr #[zFW q3,?_]];obtain ⟨c,e⟩:=yBt.mp (zGF (env:=X.env) (acc:=[]) (yBq q3));refine#[c,e,?_]
    rcases lk with ⟨k,_⟩|⟨_,c',e',z⟩
    ·rcases q2 with w|w
     ·rw [show X.env.kindOf y=_ from w] at k;cases k
     ·rw [show X.env.kindOf y=_ from w] at k;cases k
    ·rw [clk y c e] at e'
     cases e'
     obtain ⟨o,ho,hd⟩:=z;exact#[o,old4 _ _ ho,hd]
  ·obtain ⟨v,o,ho,hd⟩:=I3.cell y c (clk y c e)
   exact#[v,o,old4 _ _ ho,hd]
  ·have hp':p∈X.pn++pins:=by simpa [cxT] using hp
   obtain ⟨e,n,ne,nf,d⟩:=I3.pin p hp';exact#[old4 _ _ e,n,yAo (yAP e),λz=>(yAf.mp (I3.stkSub p.1 z)).elim ne nf,d]
  ·simp [ρT,cxT]
 have fpX:∀ {H':Hp},(∀ b∈fp,H' b=none)->∀ b∈fp,ZHO (cxT X scope xs fv (kZ s₃) s₃ H3 fp (X.pn++pins)) [] H' b:=λhn b hb=>
  #[hn b hb,yAo (by show b<(kZ s₃);rw [hsz3];exact yCU (lt2 b hb)),okX.exfs b hb,.inl hb,(okX.exf b hb).2,λp hp=>by
   have hp':p∈X.pn++pins:=by simpa [cxT] using hp
   exact (f2 b hb).2.2.2.2.2 p hp']
 have tn4:tn 0 h₁:=T.keep _ _ _ st2 λb _ o e=>old4 b o (old3 b o e)
 have fr4:∀ b∈fp,H3 b=none:=λb hb=>by
  rw [<- hH3,zA6 (yAo (lt2 b hb))];exact (f2 b hb).1
 have back:∀ {H':Hp} {σ':St} {pl:kA} {s':Shared},Inv (cxT X scope xs fv (kZ s₃) s₃ H3 fp (X.pn++pins)) pl σ' H' s'->Inv X pins σ H' s'/\(∃ m,s'.heap.Ns (kZ s₃) m)/\ZHO X pins H' (kZ s₃):=λ{H' σ' pl s'} I'=>by
  refine#[I3.call' I'.os I'.base I'.hok I'.bare λb hb=>#[(f2 b hb).2.2.2.1,(f2 b hb).2.1,(f2 b hb).2.2.2.2.1,(f2 b hb).2.2.2.2.2],?_,I3.fpOk (yAF _) I'.free];obtain ⟨m,hn,_⟩:=I'.loc;exact#[m,hn]
 obtain ⟨W,⟨m0,w0⟩,turn⟩:=hw (kZ s₂) hD0;rw [hH3] at w0
 have loop:codeAny (model X.prog X.w) X.A (.compLoop e 0 (.ref it) (.ref (kZ s₂)) (cxT X scope xs fv (kZ s₃) s₃ H3 fp (X.pn++pins)).env)
   (RR (.ref (kZ s₂)) (kZ s₃)) { s₃ with heap:=h₁,toks:=s₃.toks+([]:List (Str×Value)).length }:=by
  refine codeAny_loop rfl (λn s'=>∃ i H',Inv (cxT X scope xs fv (kZ s₃) s₃ H3 fp (X.pn++pins)) [] (ρT xs fv σ) H' s'/\tn i s'.heap/\(∀ b∈fp,H' b=none)/\W i n H') (λn s5 hI=>?_) m0 #[0,H3,I4,tn4,fr4,w0];obtain ⟨i,H5,I5,st5,fr5,w5⟩:=hI;rw [hund,hden];refine wpAny_noted ?_;rw [hturn];refine yAC (yCF (yAC ?_))
  rcases turn i n H5 w5 with ⟨stop,qn⟩|⟨go,N,hN,step⟩
  ·refine yBW (T.done (cxT X scope xs fv (kZ s₃) s₃ H3 fp (X.pn++pins)) rfl rfl rfl hc i [] s5 _ H5 (λ_ _=>False) I5 (fpX fr5) st5 stop) (λr s6 hM=>?_) λ_ _ z=>z.elim
   obtain ⟨hr,I6⟩:=hM;subst hr;obtain ⟨b1,⟨m,b2⟩,b3⟩:=back I6;exact yAO (hRR _ _ _ _ _ b1 qn b2 b3)
  ·refine yBW (T.item (cxT X scope xs fv (kZ s₃) s₃ H3 fp (X.pn++pins)) rfl rfl rfl hc i [] s5 _ H5 (λ_ _=>False) I5 (fpX fr5) st5 go) (λr s6 hM=>?_) λ_ _ z=>z.elim
   obtain ⟨u,hr,h6⟩:=hM;subst hr;refine yAC (yBW h6 (λ_ s7 hM=>?_) λ_ _ z=>z.elim);obtain ⟨y,H7,I7,r7,y7,st7,fr7⟩:=hM;have I7':=I7.pinned (fpX fr7) (T.obj _ _ st7);refine yAC (yBW (hg _ _ _ _ _ _ s7 _ H7 y u _ I7' r7 (step y H7 y7)) (λ_ s8 hM=>?_) λ_ _ z=>z.elim);obtain ⟨σ8,H8,I8,keep8,q8⟩:=hM
   have again:∀ {H9:Hp} {s9:Shared},Inv (cxT X scope xs fv (kZ s₃) s₃ H3 fp (X.pn++pins)) ([]++ZKC fp s7.heap) σ8 H9 s9->(∃ m',m'<n/\W (i+1) m' H9) ->
     ∃ m,m<n/\∃ i H',Inv (cxT X scope xs fv (kZ s₃) s₃ H3 fp (X.pn++pins)) [] (ρT xs fv σ) H' s9/\tn i s9.heap/\(∀ b∈fp,H' b=none)/\W i m H':=λ{H9 s9} I9 ⟨m',hm,w9⟩=>by
    refine#[m',hm,i+1,H9,(I9.unpinned).weak (by rw [I9.len];simp [ρT,cxT]) (λj v e=>zWB keep8 e),T.keep _ _ _ st7 λb hb o e=>(I9.pin (b,o) (yAY _ (yAY _ (zDZ hb e)))).1,λb hb=>?_,w9];obtain ⟨o,e,d⟩:=T.obj _ _ st7 b hb;exact (I9.pin (b,o) (yAY _ (yAY _ (zDZ hb e)))).2.1
   refine yAC (yBW (ht _ _ _ _ _ _ s8 _ H8 _ I8 q8) (λok s9 hM=>?_) λ_ _ z=>z.elim);obtain ⟨H9,I9,q9⟩:=hM
   cases ok with
   | false=>
    rw [yAT (by simp)] at q9;exact yAO #[rfl,again I9 (hN _ q9)]
   | true=>
    rw [yAS rfl] at q9;refine yAC (yBW (he _ _ _ _ _ _ s9 _ H9 _ _ I9 q9) (λ_ s11 hM=>?_) λ_ _ z=>z.elim);obtain ⟨H11,I11,q11⟩:=hM;exact yAO #[rfl,again I11 (hN _ q11)]
 exact hstart _ _ _ _ _ loop (T.self X.A 0 _ _ _ tn4 loop)
end
section
variable {X:Cx}{pins:kA}{σ:St}{H:Hp}{s:Shared}{scope:Scope}{xs:List Str}{fv:List (Str×Nat)}{elt kx vx tg iter:Expr}{ifs:List Expr}{pos:Pos}{tt:TT}{te tk tv:TE}{g:TG}
def tbL (te:TE):TB:=λD σ H N=>te σ H λy H3=>∃ ys,H3 D=some (.lst ys)/\ys.length<eA5/\N (upd H3 D (.lst (ys++[y])))
def tbD (tk tv:TE):TB:=λD σ H N=>tk σ H λk H1=>tv σ H1 λv H2=>∃ kvs key,H2 D=some (.dK kvs)/\k=kV key/\kvs.length<eA5/\N (upd H2 D (.dK (ZGJ kvs key v)))
abbrev zdE (elt:Expr):Addr->Env->Sem Unit:=λD env=>do let _ <- call (.builtin "list.append") [.ref D,<- eval elt env]
abbrev zdV (kx vx:Expr):Addr->Env->Sem Unit:=λD env=>do
 let kv <- eval kx env
 let vv <- holding [kv] (eval vx env)
 standAt { kx.pos with endLine:=vx.pos.endLine,endCol:=vx.pos.endCol }
 holding [kv,vv] (dictSet D kv vv)
def zQN (he:PE X elt te):PB X (zdE elt) (tbL te):=by
 intro pins s σ H D N I h;refine yAC (thn (he pins s σ H _ I h) λv s1 hM=>?_);obtain ⟨y,H1,I1,r1,ys,hD,hz,q⟩:=hM;refine yAC (yBW (zBN pins s1 σ H1 (.ref D) [y] (.ref D) [v] (λ_ H2=>H2=upd H1 D (.lst (ys++[y]))) I1 rfl (.cons r1 .nil) #[_,ys,y,rfl,rfl,hD,hz,rfl]) (λ_ s2 hM=>?_) λ_ _ z=>z);obtain ⟨_,H2,I2,_,e2⟩:=hM;subst e2;exact yAO #[_,I2,q]
def zXR (hk:PE X kx tk)(hv:PE X vx tv):PB X (zdV kx vx) (tbD tk tv):=by
 intro pins s σ H D N I h;refine yAC (thn (hk pins s σ H _ I h) λu s1 hM=>?_);obtain ⟨k,H1,I1,r1,q1⟩:=hM;refine yAC (yBa (thn (hv pins s1 σ H1 _ I1 q1) λv s2 hM=>?_));obtain ⟨y,H2,I2,r2,q2⟩:=hM;refine yAC (yCF (yBa ?_));obtain ⟨kvs,key,e,ek,l,q⟩:=q2;subst ek;obtain ⟨z,hd,vs,rel,dd⟩:=zWH I2.hok e;have hz:vs.length<=eA5:=by rw [<- rel.length];exact z
 have hl:(ZGJ kvs key y).length<=eA5:=by have:=zCI kvs key y;lia
 refine wpAny_dictSet_pairs (knd:=ZAF X.prog X.w) (hsz:=hz) (zKL r1) dd λh' dd' hs=>?_;have he:∃ q,h'.get? D=some q:=let ⟨q,_,_,hq,_⟩:=dd';#[q,hq];exact#[_,zIU I2 (by rw [e];exact eAW) hs he (zPP hl hd (rel.put key r2) dd'),q]
def zNU:ZTC X (newList []) (.lst []):=by
 intro pins σ H s E Q I h;refine yBs (h _ (I.lnew (t':=s.toks) (its:=[]) .nil (yBN _)) (yCg ..) λb o e=>yAD _ e)
def zVP:ZTC X newDict (.dK []):=by
 intro pins σ H s E Q I h;refine yBs (h _ (I.laid (a:=(kZ s)) (o:=.dK []) (t':=s.toks) (λ_ _ q=>yAD _ q) (yAF _) (zJ8 s.heap I.big)) (yCg ..) λb o e=>yAD _ e)
def zd6 (I:Inv X pins σ H s)(S:UAn scope xs fv)(hv:FvOk X scope fv):closureFor scope X.env=pure (ZYV scope X.env):=zP9 λp hp hk=>by
 obtain ⟨q,hq,e⟩:=yAr.mp (S.fr _ hp hk);obtain ⟨j,hj⟩:=yCu hq;have z:=(hv.get hj).2.1;rw [e] at z;exact yBt.mpr (I.ok.has _ z)
def zAQ {wi:TI}(hc:X.calm=true)(hs:ZFN scope xs fv=true)(hv:FvOk X scope fv)(hi:PI X tg iter wi)(hg:∀ C s₀ H₀ ex pn,PG (cxT X scope xs fv C s₀ H₀ ex pn) tg g)
  (ht:∀ C s₀ H₀ ex pn,PTl (cxT X scope xs fv C s₀ H₀ ex pn) ifs tt) (he:∀ C s₀ H₀ ex pn,PE (cxT X scope xs fv C s₀ H₀ ex pn) elt te)
  (hf:∀ x,foldedSetIterable iter X.env x=pure x:=by intro _;rfl):PE X (.ListComp elt [#[tg,iter,ifs,0]] scope pos) (ZNV (.lst []) wi xs fv g tt (tbL te)):=by
 intro pins s σ H Q I h;have S:=zE3 hs;rw [eval_ListComp];refine yDx (use:=none) rfl hf (zd6 I S hv) S.kind S.names (thn (hi pins s σ H _ I h) λv s1 h1=>thn h1 λitv s2 h2=>?_);obtain ⟨it,fp,tn,J,H2,e,I2,T,st2,f2,hw⟩:=h2;subst e;refine zEQ (e:=.ListComp elt [#[tg,iter,ifs,0]] scope pos) (iter:=iter) (RR:=λacc C=>compPost (model X.prog X.w) X.A X.xe none (EP X pins σ Q) acc C) hc S hv ht hg (λC s₀ H₀ ex pn=>zQN (he C s₀ H₀ ex pn)) zNU (λ_ _ _=>rfl) (λ_ _ _=>rfl) (λit D env=>compTurn_list ..) (λ_ _ _ _ _ a b=>codeAny_compStart_list a b) I2 T st2 f2 hw ?_;intro D C s' H' m I' q hn fC;exact#[m,hn,λh' hs'=>#[.ref D,H',I'.turned (t':=s'.toks) (λb o hb e=>(hs'.2 b hb).trans e) fC.1 fC.2.1 fC.2.2.2.1 fC.2.2.2.2.1 fC.2.2.2.2.2,rfl,q]]
def zV7 {wi:TI}(hc:X.calm=true)(hs:ZFN scope xs fv=true)(hv:FvOk X scope fv)(hi:PI X tg iter wi)(hg:∀ C s₀ H₀ ex pn,PG (cxT X scope xs fv C s₀ H₀ ex pn) tg g)
  (ht:∀ C s₀ H₀ ex pn,PTl (cxT X scope xs fv C s₀ H₀ ex pn) ifs tt) (hk:∀ C s₀ H₀ ex pn,PE (cxT X scope xs fv C s₀ H₀ ex pn) kx tk) (hx:∀ C s₀ H₀ ex pn,PE (cxT X scope xs fv C s₀ H₀ ex pn) vx tv)
  (hf:∀ x,foldedSetIterable iter X.env x=pure x:=by intro _;rfl):PE X (.DictComp kx vx [#[tg,iter,ifs,0]] scope pos) (ZNV (.dK []) wi xs fv g tt (tbD tk tv)):=by
 intro pins s σ H Q I h;have S:=zE3 hs;have ev:eval (.DictComp kx vx [#[tg,iter,ifs,0]] scope pos) X.env=comprehension (.DictComp kx vx [#[tg,iter,ifs,0]] scope pos) scope X.env (firstIterPos [#[tg,iter,ifs,0]] pos) newDict (firstAsync [#[tg,iter,ifs,0]]) (firstIter [#[tg,iter,ifs,0]] X.env):=rfl;rw [ev];refine yDx (use:=none) rfl hf (zd6 I S hv) S.kind S.names (thn (hi pins s σ H _ I h) λv s1 h1=>thn h1 λitv s2 h2=>?_);obtain ⟨it,fp,tn,J,H2,e,I2,T,st2,f2,hw⟩:=h2;subst e;refine zEQ (e:=.DictComp kx vx [#[tg,iter,ifs,0]] scope pos) (iter:=iter) (RR:=λacc C=>compPost (model X.prog X.w) X.A X.xe none (EP X pins σ Q) acc C) hc S hv ht hg (λC s₀ H₀ ex pn=>zXR (hk C s₀ H₀ ex pn) (hx C s₀ H₀ ex pn)) zVP (λ_ _ _=>rfl) (λ_ _ _=>rfl) (λit D env=>compTurn_dict ..) (λ_ _ _ _ _ a b=>codeAny_compStart_dict a b) I2 T st2 f2 hw ?_;intro D C s' H' m I' q hn fC;exact#[m,hn,λh' hs'=>#[.ref D,H',I'.turned (t':=s'.toks) (λb o hb e=>(hs'.2 b hb).trans e) fC.1 fC.2.1 fC.2.2.2.1 fC.2.2.2.2.1 fC.2.2.2.2.2,rfl,q]]
end
theorem Inv.pair {X:Cx}{pins:kA}{σ:St}{H:Hp}{s:Shared}{e it:Addr}{h':Heap}{t':Nat}{a b:V}{u v:Value}(I:Inv X pins σ H s)(fe:ZHO X pins H e)(fi:ZHO X pins H it)
  (k:∀ b o,b≠e->b≠it->s.heap.get? b=some o->h'.get? b=some o) (he:∃ o,h'.get? e=some o) (hi:∃ o,h'.get? it=some o) (ht:h'.get? (kZ s)=some { cls:=.type "tuple",data:=.seq (List.toArray [u,v]) }) (ra:RelV a u) (rb:RelV b v) :
  Inv X pins σ (upd H (kZ s) (.tup [a,b])) { s with heap:=h',toks:=t' }:=by
 have hn:H (kZ s)=none:=I.hok.fresh (yAF _);have ne:∀ c u,H c=some u->c≠e/\c≠it:=λc u q=>#[(λz=>by rw [z,fe.1] at q;cases q),(λz=>by rw [z,fi.1] at q;cases q)];have two:∀ {c:Addr},c∉[e,it]->c≠e/\c≠it:=λhc=>by simpa using hc
 refine I.call' (ch:=[e,it]) (s':={ s with heap:=h',toks:=t' }) rfl #[λc o q _ _ hx=>k c o (two hx).1 (two hx).2 q,λc o q _ _ hx=>#[o.slots,k c o (two hx).1 (two hx).2 q],λc o q n _=>?_,λc o q hx=>#[o,k c o (two hx).1 (two hx).2 q],λc xs q=>?_,λc o u q=>?_,λc ps q=>?_] ?_ I.bare ?_
 ·rw [zA6 (yAo (yAP q))];exact n
 ·rw [zA6 (zA3 q hn)];exact q
 ·rw [zA6 (zA3 q hn)];exact q
 ·exact#[#[],by rw [zA6 (zA3 q hn),q];simp]
 ·intro c o q
  by_cases hc:c=(kZ s)
  ·subst hc
   rw [zA0] at q
   cases q
   exact#[by show 2<=eA5;decide,[u,v],.cons ra (.cons rb .nil),#[_,ht,rfl,_,rfl]]
  ·rw [zA6 hc] at q
   refine (I.hok c o q).stay (λd w hd z=>?_) (λd z=>by rw [zA6 (zA3 z hn)];exact z) λd xs z=>by rw [zA6 (zA3 z hn)];exact z
   rcases hd with rfl|hd
   ·exact k _ _ (ne _ _ q).1 (ne _ _ q).2 z
   ·exact k _ _ (ne _ _ hd).1 (ne _ _ hd).2 z
 ·intro c hc
  rcases yAf.mp hc with rfl|hc
  ·exact#[fe.2.2.2.1,fe.2.1,fe.2.2.2.2.1,fe.2.2.2.2.2]
  ·rw [yAE.mp hc];exact#[fi.2.2.2.1,fi.2.1,fi.2.2.2.2.1,fi.2.2.2.2.2]
def Ite (K:Frag)(a:Addr):It:=
 #[λi H=>∃ xs x,SqL K H a xs/\xs[i]?=some x,λi H v H'=>∃ p x,H p=none/\v=.ref p/\(∀ xs,SqL K H a xs->xs[i]?=some x)/\H'=upd H p (.tup [.int (i:Nat),x]),λi H=>∃ xs,SqL K H a xs/\xs.length=i]
def zRA {P:eAD}{w:World}{K:Frag}{elts:List Expr}{x1:Nat}{pos:Pos}(a e it:Addr)(hne:e≠it) :
  Turn P w K (.Tuple elts x1 pos) (Ite K a) [e,it] e (λi h=>(∃ old,IsEnum h e it (i:Nat) old)/\h.IsListIter it a i) where
 mem:=by simp
 obj:=λi h st b hb=>by
  obtain ⟨⟨old,se⟩,o,eo,c,d⟩:=st
  rcases yAf.mp hb with rfl|hb
  ·exact#[_,se,λv z=>by cases z]
  ·rw [yAE.mp hb]
   exact#[o,eo,λv z=>by rw [d] at z;cases z]
 keep:=λi h h' st k=>#[let ⟨old,se⟩:=st.1;#[old,k e (by simp) _ se],st.2.at λo q=>k it (by simp) o q]
 item:=by
  intro X hP hw hK hc i pins s σ H E I hf st hg;subst hP hw hK;obtain ⟨xs,x,hq,hx⟩:=hg;obtain ⟨its,rv,p,hz⟩:=I.list hq;obtain ⟨u,hu,ru⟩:=rv.get hx;obtain ⟨⟨old,se⟩,si⟩:=st;have fe:=hf e (by simp);have fi:=hf it (by simp);have hel:e<(kZ s):=yAP se;refine wpAny_pyNext_enum_item se si p.isList (x:=u) (by simpa using hu) hne λh1 so si1 ht hsz kk=>?_;refine#[_,rfl,wpAny_letOwnedTupleGo_enum so λh2 se2 sb=>?_];have sb':eAM e h1 h2:=sb;have si2:h2.IsListIter it a (i+1):=si1.extBut sb'.extBut hne.symm;have hn:H (kZ s)=none:=I.hok.fresh (yAF _);have ht2:h2.get? (kZ s)=some { cls:=.type "tuple",data:=.seq (List.toArray [.int i s.toks,u]) }:=(sb'.2 _ (yBf hel)).trans ht;refine#[.ref (kZ s),_,I.pair (a:=.int (i:Nat)) (b:=x) fe fi (λb o h1 h2' q=>(sb'.2 b h1).trans (kk b o h1 h2' q)) #[_,se2] (let ⟨o,q,_⟩:=si2;#[o,q]) ht2 #[_,rfl] ru,rfl,#[_,x,hn,rfl,λys hy=>by rw [I.list_inj hy hq];exact hx,rfl],#[#[u,?_],si2],λb hb=>?_]
  ·have:((i+1:Nat):Int)=(i:Int)+1:=by lia
   rw [this];exact se2
  ·rw [zA6]
   ·exact (hf b hb).1
   ·intro z
    rcases yAf.mp hb with q|q
    ·rw [z] at q;exact absurd q (yBf hel)
    ·obtain ⟨o,q2,_⟩:=si
     rw [z] at q;exact absurd (yAE.mp q) (yBf (yAP q2))
 done:=by
  intro X hP hw hK hc i pins s σ H E I hf st hg;subst hP hw hK;obtain ⟨xs,hq,hx⟩:=hg;obtain ⟨its,rv,p,hz⟩:=I.list hq;obtain ⟨⟨old,se⟩,si⟩:=st;obtain ⟨f0,f1,f2,f3,f4,f5⟩:=hf it (by simp);have hl:=rv.length;exact wpAny_pyNext_enum_end (I.ok.hd hc) se si p.isList (by simp;lia) λh' eb=>#[rfl,I.turned (t':=s.toks) (λb o hb e=>eb b o hb e) f0 f1 f3 f4 f5]
 self:=λ_ _ _ _ _ st h=>let ⟨_,se⟩:=st.1;yDw se h
def ZTN (acc:List Key)(k:Key):Bool:=acc.any λy=>decide (y=k)
theorem UAT {acc:List Key}{k:Key}:ZTN acc k=true ↔ k∈acc:=by
 unfold ZTN;rw [yAw];refine#[λhM=>?_,λh=>#[k,h,yAJ rfl]];obtain ⟨y,h,e⟩:=hM;exact (yAZ e) ▸ h
def ZTM (acc:List Key)(k:Key):List Key:=if ZTN acc k=true then acc else acc++[k]
def ZBW (ks:List Key):List Key:=ks.foldl ZTM []
def zE4 (ks:List Key)(k:Key):ZBW (ks++[k])=ZTM (ZBW ks) k:=by unfold ZBW;rw [List.foldl_append];rfl
def zaE (acc:List Key)(k:Key):(ZTM acc k).length<=acc.length+1:=by unfold ZTM;split<;>simp
def zMQ:∀ (n:Nat) (ks:List Key),ks.length=n->(ZBW ks).length<=n:=by
 intro n
 induction n with
 | zero=>intro ks h;rw [yDI.mp h];exact yAF _
 | succ n ih=>
  intro ks h;have hne:ks≠[]:=λe=>by rw [e] at h;cases h
  obtain ⟨ds,c,rfl⟩:∃ ds c,ks=ds++[c]:=#[_,_,(yCj hne).symm]
  have:=ih ds (by simpa using h)
  have:=zaE (ZBW ds) c
  rw [zE4];lia
def zKA:∀ (n:Nat) (ks:List Key),ks.length=n->∀ k,k∈ZBW ks ↔ k∈ks:=by
 intro n
 induction n with
 | zero=>intro ks h k;rw [yDI.mp h];exact Iff.rfl
 | succ n ih=>
  intro ks h k;have hne:ks≠[]:=λe=>by rw [e] at h;cases h
  obtain ⟨ds,c,rfl⟩:∃ ds c,ks=ds++[c]:=#[_,_,(yCj hne).symm];have q:=ih ds (by simpa using h);rw [zE4];unfold ZTM
  split
  ·rename_i hm
   rw [UAT,q] at hm;rw [q,yAb,yAE];exact#[.inl,λz=>z.elim id λe=>e ▸ hm]
  ·rw [yAb,yAb,q]
def zJN:∀ (n:Nat) (ks:List Key),ks.length=n->((ZBW ks).length=ks.length ↔ ks.Nodup):=by
 intro n
 induction n with
 | zero=>intro ks h;rw [yDI.mp h];simp [ZBW]
 | succ n ih=>
  intro ks h;have hne:ks≠[]:=λe=>by rw [e] at h;cases h
  obtain ⟨ds,c,rfl⟩:∃ ds c,ks=ds++[c]:=#[_,_,(yCj hne).symm];have hl:ds.length=n:=by simpa using h
  have q:=ih ds hl;have le:=zMQ n ds hl;rw [zE4,yCG];unfold ZTM
  split
  ·rename_i hm
   rw [UAT,zKA n ds hl] at hm
   constructor
   ·intro z;rw [yAV,yBZ] at z;lia
   ·intro z;exact absurd rfl (z.2.2 c hm c (by simp))
  ·rename_i hm
   rw [UAT,zKA n ds hl] at hm;rw [yAV,yAV,yBZ]
   constructor
   ·intro z
    refine#[q.mp oz,by simp,λa ha b hb e=>hm ?_];rw [yAE.mp hb] at e;exact e ▸ ha
   ·intro z;have:=q.mpr z.1;lia
section
variable {P:eAD}{w:World}{A:eAK}{R:Result->Shared->Prop}{J S:Addr}{fp wr:List Addr}{n:Nat}{Pv:Nat->Value->Prop}{St:Nat->Heap->Prop}
def HasK (P:eAD)(w:World)(h:Heap)(S:Addr)(ks:List Key):Prop:=h.SetOf (ZAF P w) S (λx=>ZTN (ZBW ks) x) (ZBW ks).length
theorem HasK.keep {h h':Heap}{ks:List Key}(x:HasK P w h S ks)(k:∀ o,h.get? S=some o->h'.get? S=some o):HasK P w h' S ks:=let ⟨o,es,ep,t,ho,r⟩:=x;#[o,es,ep,t,k _ ho,r]
def zN9 (W:Walks P w A.in1 J fp wr n Pv St)(hSf:S∉fp)(ks:List Key)(hn:ks.length=n)(hkey:∀ i v,Pv i v->∃ k,ks[i]?=some k/\(ZAF P w).is k v=true/\v.scannable=true)(hb:n+1<scanBound) :
  ∀ (m i:Nat) (s:Shared),n-i=m->i<=n->St i s.heap->HasK P w s.heap S (ks.take i) ->
   (∀ h' tk,(∀ b o,b≠S->b∉wr->s.heap.get? b=some o->h'.get? b=some o)->HasK P w h' S ks->R (.ok (.ret .none)) { s with heap:=h',toks:=tk }) ->
   codeAny (model P w) A (.builtin "set.update.loop" #[[.ref S,.ref J],[]]) R s:=by
 have hSw:S∉wr:=λz=>hSf (W.sub _ z);intro m
 induction m with
 | zero=>
  intro i s hm hi st hS hR;obtain rfl:i=n:=by lia
  refine yCS PyProof.Rows.F.entry_set_update_loop ?_;rw [yDZ yCw _];show wpAny _ A.in1 (pyNext (.ref J) >>= _) _ _ s;refine yAC (W.done s _ _ st λh2 tk kk=>?_);rw [yAs oz] at hS;exact yAO (hR h2 tk (λb o _ hw q=>kk b o hw q) (hS.keep λo q=>kk S o hSw q))
 | succ m ih=>
  intro i s hm hi st hS hR;refine yCS PyProof.Rows.F.entry_set_update_loop ?_;rw [yDZ yCw _];show wpAny _ A.in1 (pyNext (.ref J) >>= _) _ _ s;refine yAC (W.item i s _ _ oz st λv h2 tk pv st2 kk=>?_);obtain ⟨k,hk,his,hsc⟩:=hkey i v pv;have hS2:=hS.keep λo q=>kk S o hSw q;show wpAny _ A.in1 (holding [v] (setAdd S v) >>= _) _ _ _;refine yAC (yBa ?_);unfold setAdd;refine yBa (yAC ((ZAF P w).pyHash (k:=k) his ?_))
  have hroom:(ZBW (ks.take i)).length+1<scanBound:=by
   have:=zMQ _ (ks.take i) rfl
   rw [yAe] at this;lia
  refine wpAny_setAddHashed_of (knd:=ZAF P w) his hsc hS2 hroom λh3 sb hS3=>?_;have et:ks.take (i+1)=ks.take i++[k]:=by rw [yBG,hk];rfl
  have hS4:HasK P w h3 S (ks.take (i+1)):=by
   unfold HasK;rw [et,zE4]
   have e1:(λx=>ZTN (ZTM (ZBW (ks.take i)) k) x)=λx=>ZTN (ZBW (ks.take i)) x||decide (x=k):=funext λx=>by
    rw [yAd,yCq,UAT,UAT,yAI];unfold ZTM
    by_cases hx:ZTN (ZBW (ks.take i)) k=true
    ·rw [yAS hx]
     exact#[.inl,λz=>z.elim id λe=>e ▸ UAT.mp hx]
    ·rw [yAT hx,yAb,yAE]
   have e2:(ZTM (ZBW (ks.take i)) k).length=if ZTN (ZBW (ks.take i)) k=true then (ZBW (ks.take i)).length else (ZBW (ks.take i)).length+1:=by
    unfold ZTM
    by_cases hx:ZTN (ZBW (ks.take i)) k=true
    ·rw [yAS hx,yAS hx]
    ·rw [yAT hx,yAT hx,yAV];rfl
   rw [e1,e2];exact hS3
  refine yAO #[plainId_quiet yCw _,ih (i+1) _ oz oz (W.frame _ _ _ st2 λb hbf o q=>?_) hS4 λh4 tk4 kk4 hS5=>?_]
  ·exact (sb.2 b (λz=>hSf (z ▸ hbf))).trans q
  ·exact hR h4 tk4 (λb o hbS hbw q=>kk4 b o hbS hbw ((sb.2 b hbS).trans (kk b o hbw q))) hS5
end
abbrev zAZ (led:Bool):Obj:={ cls:=.type "set",dict:=none,data:=.set #[] 0 (.fresh 0 0 led) }
def zNG {P:eAD}{w:World}{h:Heap}{S:Addr}{led:Bool}(q:h.get? S=some (zAZ led)):HasK P w h S []:=#[_,#[],0,_,q,#[rfl,rfl,rfl],rfl,λe he=>by simp at he,λk=>by simp [ZTN,ZBW],dQ,by rfl,rfl]
def zHQ {P:eAD}{w:World}{A:eAK}{E:kW}{s:Shared}{l:Addr}{items:Array Value}{ks:List Key}{Q:kW}(hh:A.handled=none)(hl:s.heap.IsList l items)(hn:ks.length=items.size)
  (hkey:∀ (i:Nat) (v:Value),items[i]?=some v->∃ k,ks[i]?=some k/\(ZAF P w).is k v=true/\v.scannable=true) (hb:items.size+1<scanBound)
  (h:∀ (h':Heap) (tk:Nat),HasK P w h' (kZ s) ks->(∀ b o,s.heap.get? b=some o->h'.get? b=some o)->Q (.ref (kZ s)) { s with heap:=h',toks:=tk }) :
  wpAny (model P w) A (call (.type "set") [.ref l]) Q E s:=by
 obtain ⟨c0,tl0,mro0⟩:=F.called_set.mro;have made0:=F.called_set.made;have sub0:=F.called_set.sub;have nt0:=F.called_set.notType;have cc0:=F.called_set.canCreate;have tc0:=F.typeCall_set_1 (.ref l);refine yDc (codeAny_of_tree (show wpAny _ _ (callAny (.type "set") _) _ _ _ from yAO #[yDJ _ dk,yCS F.entry_type_call ?_]));rw [Around.under_plain (weight_type_call_type "set" [.ref l] []) rfl]
 repeat (any_goals (first|assumption|wp_step))
 refine yCX (code_set_new_1 (.ref l) (E:=E) (Q₁:=λob s1=>∃ led:Bool,ob=.ref (kZ s)/\s1={ s with heap:=s.heap.push (zAZ led) }) λled=>#[led,rfl,rfl]) λr s1 hr=>?_
 cases r with
 | error e=>exact hr
 | ok fl=>
  cases fl with
  | ret ob=>
   obtain ⟨led,rfl,rfl⟩:=hr;have gS:(s.heap.push (zAZ led)).get? (kZ s)=some (zAZ led):=yAc _ rfl;have ty:Shared.TypeIs { s with heap:=s.heap.push (zAZ led) } (.ref (kZ s)) "set":=#[_,gS,rfl];have li:=F.called_set.init.lookup;have bi:=F.called_set.init.bind (.ref (kZ s))
   repeat (any_goals (first|assumption|wp_step))
   refine yCX (yCt (R:=wants (λr s2=>r=.none/\∃ h' tk,s2={ s with heap:=h',toks:=tk }/\HasK P w h' (kZ s) ks/\∀ b o,s.heap.get? b=some o->h'.get? b=some o) E) F.called_set.init.plain F.entry_set_init (check_set_init_1 ty ?_)) λr2 s2 hr2=>?_
   ·obtain ⟨⟨ocls,od,odt,osl⟩,hol,hcl,nl,hdl⟩:=hl
    simp only at hcl hdl;subst hcl hdl;have hol2:(s.heap.push (zAZ led)).get? l=some { cls:=.type "list",dict:=od,data:=.seq items nl,slots:=osl }:=yAD _ hol;have q1:=F.sub_list_set;have q2:=F.sub_list_frozenset;have q3:(eAG "list"==eAG "dict")=false:=by decide
    have hl2:(s.heap.push (zAZ led)).IsList l items:=#[_,hol2,rfl,nl,rfl];unfold Builtin.«set.__init__» noKeywords Builtin.Frozenset.updateFrom;generalize hPI:pyIter=PI
    wp_walk
    subst hPI;refine yCr hl2 (yAC (wpAny_runValue ?_));have lt:l<(kZ s):=yAP hol;have sz:(s.heap.push (zAZ led)).objs.size=(kZ s)+1:=yCg ..;have hh3:A.in1.in1.in1.handled=none:=by simp [hh]
    have W:=Walks.list (prog:=P) (w:=w) hh3 (s.heap.push (zAZ led)).objs.size l (by rw [sz];exact yAo (yCU lt)) items;have g2:∀ o,((s.heap.push (zAZ led)).push o).get? (kZ s)=some (zAZ led):=λo=>yAD _ gS
    refine zN9 W (S:=(kZ s)) (by rw [sz];simp only [yAf,yBp,yDa,not_or];exact#[yAo (yDW _),yBf lt]) ks hn hkey hb _ 0 _ rfl (yBN _)
     #[#[_,yAc _ rfl,rfl,rfl],hl2.push _] (zNG (g2 _)) λh3 tk3 kk3 hS3=>?_
    show wpAny _ _ _ _ _ _;refine yAO (show wpAny _ _ (ret eAE) _ _ _ from yAO #[rfl,h3,tk3,rfl,hS3,λb o q=>?_]);have hbs:=yAP q;exact kk3 b o (yAo hbs) (by rw [sz];simp only [yAf,yBp,yDa];exact yAo (yCU hbs)) (yAD _ (yAD _ q))
   ·cases r2 with
    | error e=>exact hr2
    | ok fl2=>
     cases fl2 with
     | ret r=>
      obtain ⟨rfl,h3,tk3,rfl,hS3,kk3⟩:=hr2
      repeat (any_goals (first|assumption|wp_step))
      exact h _ _ hS3 kk3
     | _=>exact hr2.elim
  | _=>exact hr.elim
def zH3 {P:eAD}{w:World}{A:eAK}{E:kW}{s:Shared}{l:Addr}{items:Array Value}{ks:List Key}{Q:kW}(hh:A.handled=none)(hl:s.heap.IsTuple l items)(hn:ks.length=items.size)
  (hkey:∀ (i:Nat) (v:Value),items[i]?=some v->∃ k,ks[i]?=some k/\(ZAF P w).is k v=true/\v.scannable=true) (hb:items.size+1<scanBound)
  (h:∀ (h':Heap) (tk:Nat),HasK P w h' (kZ s) ks->(∀ b o,s.heap.get? b=some o->h'.get? b=some o)->Q (.ref (kZ s)) { s with heap:=h',toks:=tk }) :
  wpAny (model P w) A (call (.type "set") [.ref l]) Q E s:=by
 obtain ⟨c0,tl0,mro0⟩:=F.called_set.mro;have made0:=F.called_set.made;have sub0:=F.called_set.sub;have nt0:=F.called_set.notType;have cc0:=F.called_set.canCreate;have tc0:=F.typeCall_set_1 (.ref l);refine yDc (codeAny_of_tree (show wpAny _ _ (callAny (.type "set") _) _ _ _ from yAO #[yDJ _ dk,yCS F.entry_type_call ?_]));rw [Around.under_plain (weight_type_call_type "set" [.ref l] []) rfl]
 repeat (any_goals (first|assumption|wp_step))
 refine yCX (code_set_new_1 (.ref l) (E:=E) (Q₁:=λob s1=>∃ led:Bool,ob=.ref (kZ s)/\s1={ s with heap:=s.heap.push (zAZ led) }) λled=>#[led,rfl,rfl]) λr s1 hr=>?_
 cases r with
 | error e=>exact hr
 | ok fl=>
  cases fl with
  | ret ob=>
   obtain ⟨led,rfl,rfl⟩:=hr;have gS:(s.heap.push (zAZ led)).get? (kZ s)=some (zAZ led):=yAc _ rfl;have ty:Shared.TypeIs { s with heap:=s.heap.push (zAZ led) } (.ref (kZ s)) "set":=#[_,gS,rfl];have li:=F.called_set.init.lookup;have bi:=F.called_set.init.bind (.ref (kZ s))
   repeat (any_goals (first|assumption|wp_step))
   refine yCX (yCt (R:=wants (λr s2=>r=.none/\∃ h' tk,s2={ s with heap:=h',toks:=tk }/\HasK P w h' (kZ s) ks/\∀ b o,s.heap.get? b=some o->h'.get? b=some o) E) F.called_set.init.plain F.entry_set_init (check_set_init_1 ty ?_)) λr2 s2 hr2=>?_
   ·obtain ⟨⟨ocls,od,odt,osl⟩,hol,hcl,nl,hdl⟩:=hl
    simp only at hcl hdl;subst hcl hdl;have hol2:(s.heap.push (zAZ led)).get? l=some { cls:=.type "tuple",dict:=od,data:=.seq items nl,slots:=osl }:=yAD _ hol;have q1:=F.sub_tuple_set;have q2:=F.sub_tuple_frozenset;have q3:(eAG "tuple"==eAG "dict")=false:=by decide
    have hl2:(s.heap.push (zAZ led)).IsTuple l items:=#[_,hol2,rfl,nl,rfl];unfold Builtin.«set.__init__» noKeywords Builtin.Frozenset.updateFrom;generalize hPI:pyIter=PI
    wp_walk
    subst hPI;refine yDj hl2 (yAC (wpAny_runValue ?_));have lt:l<(kZ s):=yAP hol;have sz:(s.heap.push (zAZ led)).objs.size=(kZ s)+1:=yCg ..;have hh3:A.in1.in1.in1.handled=none:=by simp [hh]
    have W:=Walks.tuple (prog:=P) (w:=w) hh3 (s.heap.push (zAZ led)).objs.size l (by rw [sz];exact yAo (yCU lt)) items;have g2:∀ o,((s.heap.push (zAZ led)).push o).get? (kZ s)=some (zAZ led):=λo=>yAD _ gS
    refine zN9 W (S:=(kZ s)) (by rw [sz];simp only [yAf,yBp,yDa,not_or];exact#[yAo (yDW _),yBf lt]) ks hn hkey hb _ 0 _ rfl (yBN _)
     #[#[_,yAc _ rfl,rfl,rfl],hl2.push _] (zNG (g2 _)) λh3 tk3 kk3 hS3=>?_
    show wpAny _ _ _ _ _ _;refine yAO (show wpAny _ _ (ret eAE) _ _ _ from yAO #[rfl,h3,tk3,rfl,hS3,λb o q=>?_]);have hbs:=yAP q;exact kk3 b o (yAo hbs) (by rw [sz];simp only [yAf,yBp,yDa];exact yAo (yCU hbs)) (yAD _ (yAD _ q))
   ·cases r2 with
    | error e=>exact hr2
    | ok fl2=>
     cases fl2 with
     | ret r=>
      obtain ⟨rfl,h3,tk3,rfl,hS3,kk3⟩:=hr2
      repeat (any_goals (first|assumption|wp_step))
      exact h _ _ hS3 kk3
     | _=>exact hr2.elim
  | _=>exact hr.elim
def ZQQ (K:Frag)(ta:TA):TE:=λσ H Q=>ta σ H λvs H1=>∃ a ks,vs=[.ref a]/\(SqL K H1 a (ks.map kV) \/ SqT K H1 a (ks.map kV))/\ks.length+1<4096/\Q (.int ((ZBW ks).length:Nat)) H1
def zRV {P:eAD}{w:World}{ks:List Key}{its:List Value}(r:Vals (ks.map kV) its):∀ (i:Nat) (v:Value),its.toArray[i]?=some v->∃ k,ks[i]?=some k/\(ZAF P w).is k v=true/\v.scannable=true:=λi v hv=>by
 have hv':its[i]?=some v:=by simpa using hv
 have hl:=r.length;have hi:i<its.length:=(yAH.mp hv').1;have hk:i<ks.length:=by rw [yAA] at hl;lia
 obtain ⟨u,hu,ru⟩:=r.get (i:=i) (x:=kV ks[i]) (by rw [yAa,yAB hk];rfl);rw [hv'] at hu
 cases hu
 refine#[ks[i],yAB hk,zKL ru,?_];generalize ks[i]=k at ru
 cases k with
 | inl j=>obtain ⟨t,rfl⟩:=ru;rfl
 | inr z=>obtain ⟨t,rfl⟩:=ru;rfl
def zR9 {X:Cx}{e:Expr}{ta:TA}{p p2 pos pos2:Pos}(hc:X.calm=true)(hg:Gl X "len")(hm:X.mg "len"=none)(hg2:Gl X "set")(hm2:X.mg "set"=none)(ha:PA X [e] ta)
  (he:eAO [e] X.env=[(false,eval e X.env)]:=by rfl) (he2:eAO [.Call (.Name "set" p2) [e] [] pos2] X.env=[(false,eval (.Call (.Name "set" p2) [e] [] pos2) X.env)]:=by rfl) :
  PE X (.Call (.Name "len" p) [.Call (.Name "set" p2) [e] [] pos2] [] pos) (ZQQ X.K ta):=by
 intro pins s σ H Q I h;refine yCB (zEV I hg hm yCv ?_);refine yDR ?_ he2 (by rfl);rw [he2];refine Calls.spliced_cons ?_;refine yCB (zEV I hg2 hm2 PyProof.Rows.boot_set ?_);refine yCl (thn (ha pos2 pins s σ H _ I h) λus s1 hM=>?_) he (by rfl);obtain ⟨vs,H1,I1,r1,q1⟩:=hM;obtain ⟨a,ks,rfl,hq,hb,q⟩:=q1;obtain ⟨u,rfl,ru⟩:=zEP r1
 cases ru
 have hh:=I1.ok.hd hc
 have fin:∀ (h':Heap) (tk:Nat),HasK X.prog X.w h' (kZ s1) ks->(∀ b o,s1.heap.get? b=some o->h'.get? b=some o) ->
   kM (spliced (eAN pos (eAO ([]:List Expr) X.env))) (λus s2=>kM (call (.builtin "len") (eAF (kZ s1)::us)) (EP X pins σ Q) X.xe s2) X.xe { s1 with heap:=h',toks:=tk }:=λh' tk hS kk=>by
  refine Calls.spliced_nil ?_;obtain ⟨o,es,ep,t,ho,hex,hd,hel,hiff,hsz,hf,hn⟩:=hS
  have hlt:(es.size:Int)<2^63:=by
   have:es.size<4096:=hsz
   lia
  refine call_len_set (s:={ s1 with heap:=h',toks:=tk }) ho hex hd hf hlt ?_;rw [hn];exact#[.int ((ZBW ks).length:Nat),H1,I1.kept (t':=tk+1+1) kk,#[_,rfl],q]
 rcases hq with hq|hq
 ·obtain ⟨its,rv,pl,hz⟩:=I1.list hq
  have hl:=rv.length;rw [yAA] at hl;exact zHQ hh pl.isList (by simp [hl]) (zRV rv) (by simp only [yAM];unfold scanBound;lia) fin
 ·obtain ⟨its,rv,pl,hz⟩:=I1.tuple hq
  have hl:=rv.length;rw [yAA] at hl;exact zH3 hh (show s1.heap.IsTuple a its.toArray from pl) (by simp [hl]) (zRV rv) (by simp only [yAM];unfold scanBound;lia) fin
open AutoSeq1 (wpAny_loadPart')
def zPZ (l:Addr)(xs:Array Value)(n:Nat)(dc:Option Addr)(sl:Array (Option Value)) :
  Meets (Builtin.«enumerate.__new__» #[[.type "enumerate",.ref l],[]]) (λ_ R s=>s.heap.get? l=some { cls:=.type "tuple",dict:=dc,data:=.seq xs n,slots:=sl } /\
   R (.ok (.ret (.ref (s.heap.push { cls:=.type "tuple_iterator",data:=.fields (List.toArray [.ref l,.int 0 0]) }).objs.size)))
    { s with heap:=(s.heap.push { cls:=.type "tuple_iterator",data:=.fields (List.toArray [.ref l,.int 0 0]) }).push { cls:=.type "enumerate",data:=.fields (List.toArray [.none,.bool false,.ref (kZ s),rawInt 0,.none,.none]) } }):=
 .of_wp λprog w A R s h=>by
  obtain ⟨h0,g0,d0,t0,o0⟩:=s;obtain ⟨e0,h⟩:=h;have sb:=sub_enumerate;have tp:Heap.IsTuple (Shared.heap #[h0,g0,d0,t0,o0]) l xs:=#[_,e0,rfl,n,rfl]
  wp_walk using yBM e0
  refine wpAny_stack_any λstk=>yAO ?_
  split
  ·rename_i c _ _ _ _ _
   cases (c==eAG "enumerate")<;>(wp_walk using yBM e0,yDj tp;exact#[_,rfl,h])
  ·(wp_walk using yBM e0,yDj tp;exact#[_,rfl,h])
section
variable {prog:eAD}{w:World}{A:eAK}{E:kW}{s:Shared}
def zOQ {l:Addr}{xs:Array Value}{Q:kW}(tp:s.heap.IsTuple l xs)
  (h:∀ h',IsEnum h' ((kZ s)+1) (kZ s) 0 .none->h'.IsTupleIter (kZ s) l 0->(∀ b o,s.heap.get? b=some o->h'.get? b=some o)->Q (.ref ((kZ s)+1)) { s with heap:=h' }) :
  wpAny (model prog w) A (call (.type "enumerate") [.ref l]) Q E s:=by
 obtain ⟨⟨c,dc,dt,sl⟩,hl,hc,n,hd⟩:=tp;obtain rfl:c=.type "tuple":=hc;obtain rfl:dt=.seq xs n:=hd;refine callType_new F.called_enumerate dQ (F.typeCall_enumerate_1 _) (F.newCall_enumerate_1 _) (λob=>F.args_object_init_2 ob _) F.entry_enumerate_new (zPZ l xs n dc sl) #[hl,?_];have sz:(s.heap.push { cls:=.type "tuple_iterator",data:=.fields (List.toArray [.ref l,.int 0 0]) }).objs.size=(kZ s)+1:=yCg ..;have en:=yAc (s.heap.push { cls:=.type "tuple_iterator",data:=.fields (List.toArray [.ref l,.int 0 0]) }) (o:={ cls:=.type "enumerate",data:=.fields (List.toArray [.none,.bool false,.ref (kZ s),rawInt 0,.none,.none]) }) rfl;rw [sz] at en;show _/\_;rw [sz];exact#[#[_,en,rfl],h _ en #[_,yAD _ (yAc _ rfl),rfl,rfl] λb o x=>yAD _ (yAD _ x)]
def zPC {it t:Addr}{i:Nat}{xs:Array Value}{x:Value}{Q:kW}(hit:s.heap.IsTupleIter it t i)(ht:s.heap.IsTuple t xs)(hx:xs[i]?=some x)
  (hQ:∀ h',h'.IsTupleIter it t (i+1)->eAM it s.heap h'->Q x { s with heap:=h' }):wpAny (model prog w) A (Builtin.SmallTypes.nextOf (.ref it)) Q E s:=by
 obtain ⟨o,ho,hc,hd⟩:=id hit;obtain ⟨ot,hot,_,nt,hdt⟩:=ht;unfold Builtin.SmallTypes.nextOf;refine yAC (yDE (name:=eAb "__next__") hit.typeIs yCs (yEJ yCs hit.typeIs F.entry_tuple_iterator_next ?_ (F.args_tuple_iterator_next_1 _)));refine (show wpAny _ _ (field (.ref it) 0 >>= _) _ _ s from yAC (yCY ho hd (x:=.ref t) rfl ?_));refine (show wpAny _ _ (if (eAF t==eAE)=true then _ else _) _ _ s from ?_);rw [yAT (show ¬((eAF t==eAE)=true) by exact yAg)];refine (show wpAny _ _ (field (.ref it) 1 >>= _) _ _ s from yAC (yCY ho hd (x:=.int i 0) rfl ?_));refine (show wpAny _ _ (seqItems? (.ref t) >>= _) _ _ s from yAC (wpAny_seqItems hot hdt ?_));simp only [yAW,hx];refine yAC (yDq ho hd (by simp) (yAO #[x,rfl,yAO (hQ _ #[_,yCQ _ ho (yER (yDG hd _)),(Obj.cls_mapFields ..).trans hc,?_] (Heap.SameBut.update ..))]));rw [yDG hd];simp [rawInt]
def zSY {it t:Addr}{i:Nat}{xs:Array Value}{Q:kW}(hh:A.handled=none)(hit:s.heap.IsTupleIter it t i)(ht:s.heap.IsTuple t xs)(hx:xs[i]?=none)
  (hE:∀ h' e,Heap.ExtBut it s.heap h'->(∃ o,h'.get? e=some o/\o.cls=.type "StopIteration")->E (.ref e) { s with heap:=h' }):wpAny (model prog w) A (Builtin.SmallTypes.nextOf (.ref it)) Q E s:=by
 obtain ⟨o,ho,hc,hd⟩:=id hit;obtain ⟨ot,hot,_,nt,hdt⟩:=ht;unfold Builtin.SmallTypes.nextOf;refine yAC (yDE (name:=eAb "__next__") hit.typeIs yCs (yEJ yCs hit.typeIs F.entry_tuple_iterator_next ?_ (F.args_tuple_iterator_next_1 _)));refine (show wpAny _ _ (field (.ref it) 0 >>= _) _ _ s from yAC (yCY ho hd (x:=.ref t) rfl ?_));refine (show wpAny _ _ (if (eAF t==eAE)=true then _ else _) _ _ s from ?_);rw [yAT (show ¬((eAF t==eAE)=true) by exact yAg)];refine (show wpAny _ _ (field (.ref it) 1 >>= _) _ _ s from yAC (yCY ho hd (x:=.int i 0) rfl ?_));refine (show wpAny _ _ (seqItems? (.ref t) >>= _) _ _ s from yAC (wpAny_seqItems hot hdt ?_));simp only [yAW,hx];refine yAC (yDD (yAC (yDq ho hd (by simp) (show wpAny _ _ (newExc (.type "StopIteration") [] >>= _) _ _ _ from yAC ?_))));simp only [newExc,newTuple];refine yAC (yBs (yAC (m:=firstArgMember _ _) (wpAny_of_eq (a:=eAE) (by first|rfl|(simp only [firstArgMember];rfl)) (yBs ?_ (by size_fits)))) (by size_fits));simp only [raiseNew];refine yAC (wpAny_handled ?_)
 first|rw [show A.in1.handled=none by exact hh]|rw [hh]
 exact yAC (yAO (wpAny_throw (hE _ _ (((Heap.SameBut.update ..).extBut.push _).push _) #[_,yAc _ rfl,rfl])))
end
def zWW {prog:eAD}{w:World}{A:eAK}(hh:A.handled=none)(it t:Addr)(hne:t≠it)(xs:Array Value) :
  Draws prog w A it [it,t] xs.size (λi v=>xs[i]?=some v) (λi h=>h.IsTupleIter it t i/\h.IsTuple t xs) where
 live:=λ_ _ st=>let ⟨o,ho,_⟩:=st.1;#[o,ho]
 frame:=λ_ _ _ st hk=>#[st.1.at λo e=>hk it (by simp) o e,st.2.at λo e=>hk t (by simp) o e]
 item:=λi s Q E hi st hQ=>zPC st.1 st.2 (x:=xs[i]) (by simp [hi]) λh' hit' hs'=>hQ _ h' s.toks (by simp [hi]) #[hit',st.2.extBut hs'.extBut hne] hs'
 done:=λs Q E st hE=>zSY hh st.1 st.2 (by simp) hE
def ZZM (K:Frag)(a:Addr):It:=
 #[λi H=>∃ xs x,SqT K H a xs/\xs[i]?=some x,λi H v H'=>∃ p x,H p=none/\v=.ref p/\(∀ xs,SqT K H a xs->xs[i]?=some x)/\H'=upd H p (.tup [.int (i:Nat),x]),λi H=>∃ xs,SqT K H a xs/\xs.length=i]
def zOH {P:eAD}{w:World}{K:Frag}{elts:List Expr}{x1:Nat}{pos:Pos}(a e it:Addr)(hne:e≠it)(hai:a≠it)(hea:e≠a) :
  Turn P w K (.Tuple elts x1 pos) (ZZM K a) [e,it] e (λi h=>(∃ old,IsEnum h e it (i:Nat) old)/\h.IsTupleIter it a i) where
 mem:=by simp
 obj:=λi h st b hb=>by
  obtain ⟨⟨old,se⟩,o,eo,c,d⟩:=st
  rcases yAf.mp hb with rfl|hb
  ·exact#[_,se,λv z=>by cases z]
  ·rw [yAE.mp hb]
   exact#[o,eo,λv z=>by rw [d] at z;cases z]
 keep:=λi h h' st k=>#[let ⟨old,se⟩:=st.1;#[old,k e (by simp) _ se],st.2.at λo q=>k it (by simp) o q]
 item:=by
  intro X hP hw hK hc i pins s σ H E I hf st hg;subst hP hw hK;obtain ⟨xs,x,hq,hx⟩:=hg;obtain ⟨its,rv,p,hz⟩:=I.tuple hq;obtain ⟨u,hu,ru⟩:=rv.get hx;obtain ⟨⟨old,se⟩,si⟩:=st;have fe:=hf e (by simp);have fi:=hf it (by simp);have hel:e<(kZ s):=yAP se;have D:=zWW (prog:=X.prog) (w:=X.w) (A:=X.A.in1) (by simpa using I.ok.hd hc) it a hai its.toArray;have hlt:i<its.length:=(yAH.mp hu).1;refine wpAny_pyNext_enum_itemD D se #[si,show s.heap.IsTuple a its.toArray from p] (by simpa using hlt) hne (by simp only [yAf,yBp,yDa,not_or];exact#[hne,hea]) λy h1 tk hy so si1 ht hsz kk=>?_
  have hyu:y=u:=by
   have:its[i]?=some y:=by simpa using hy
   rw [hu] at this;cases this;rfl
  subst hyu;refine#[_,rfl,wpAny_letOwnedTupleGo_enum so λh2 se2 sb=>?_];have sb':eAM e h1 h2:=sb;have si2:h2.IsTupleIter it a (i+1):=si1.1.at λo q=>(sb'.2 it hne.symm).trans q;have hn:H (kZ s)=none:=I.hok.fresh (yAF _);have ht2:h2.get? (kZ s)=some { cls:=.type "tuple",data:=.seq (List.toArray [.int i tk,y]) }:=(sb'.2 _ (yBf hel)).trans ht;refine#[.ref (kZ s),_,I.pair (a:=.int (i:Nat)) (b:=x) fe fi (λb o h1 h2' q=>(sb'.2 b h1).trans (kk b o h1 h2' q)) #[_,se2] (let ⟨o,q,_⟩:=si2;#[o,q]) ht2 #[_,rfl] ru,rfl,#[_,x,hn,rfl,λys hy=>by rw [I.tuple_inj hy hq];exact hx,rfl],#[#[y,?_],si2],λb hb=>?_]
  ·have:((i+1:Nat):Int)=(i:Int)+1:=by lia
   rw [this];exact se2
  ·rw [zA6]
   ·exact (hf b hb).1
   ·intro z
    rcases yAf.mp hb with q|q
    ·rw [z] at q;exact absurd q (yBf hel)
    ·obtain ⟨o,q2,_⟩:=si
     rw [z] at q;exact absurd (yAE.mp q) (yBf (yAP q2))
 done:=by
  intro X hP hw hK hc i pins s σ H E I hf st hg;subst hP hw hK;obtain ⟨xs,hq,hx⟩:=hg;obtain ⟨its,rv,p,hz⟩:=I.tuple hq;obtain ⟨⟨old,se⟩,si⟩:=st;obtain ⟨f0,f1,f2,f3,f4,f5⟩:=hf it (by simp);have hl:=rv.length;have D:=zWW (prog:=X.prog) (w:=X.w) (A:=X.A.in1) (by simpa using I.ok.hd hc) it a hai its.toArray;have en:i=its.toArray.size:=by simp;lia
  subst en;exact wpAny_pyNext_enum_endD D se #[si,show s.heap.IsTuple a its.toArray from p] λh' eb=>#[rfl,I.turned (t':=s.toks) (λb o hb e=>eb b o hb e) f0 f1 f3 f4 f5]
 self:=λ_ _ _ _ _ st h=>let ⟨_,se⟩:=st.1;yDw se h
def ZX5 (K:Frag)(ta:TA):TI:=λσ H R=>ta σ H λvs H1=>∃ a,vs=[.ref a]/\((∃ xs,SqL K H1 a xs)/\R (Ite K a) H1 \/ (∃ xs,SqT K H1 a xs)/\R (ZZM K a) H1)
def zF7 {X:Cx}{elts:List Expr}{x1:Nat}{tpos:Pos}{a:Expr}{ta:TA}{p pos:Pos}(hg:Gl X "enumerate")(hm:X.mg "enumerate"=none)(ha:PA X [a] ta)(hs:eAO [a] X.env=[(false,eval a X.env)]:=by rfl) :
  PI X (.Tuple elts x1 tpos) (.Call (.Name "enumerate" p) [a] [] pos) (ZX5 X.K ta):=by
 intro pins s σ H R I h;refine Call_ (zEV I hg hm boot_enumerate (yCl (thn (ha pos pins s σ H _ I h) λus s1 hM=>?_) hs rfl));obtain ⟨vs,H1,I1,r1,q1⟩:=hM;obtain ⟨l,e,q⟩:=q1;subst e;obtain ⟨u,rfl,ru⟩:=zEP r1
 cases ru
 have fp:∀ b∈[(kZ s1)+1,(kZ s1)],ZHO X pins H1 b:=λb hb=>by
  rcases yAf.mp hb with rfl|hb
  ·exact I1.fpOk (yDe _) (I1.hok.fresh (yDe _))
  ·rw [yAE.mp hb];exact I1.fpOk (yAF _) (I1.hok.fresh (yAF _))
 rcases q with ⟨⟨xs,hq⟩,q⟩|⟨⟨xs,hq⟩,q⟩
 ·obtain ⟨its,rv,pl,hz⟩:=I1.list hq
  refine call_enumerate_list pl.isList λh' se si hsz kk=>yDw se ?_;exact#[(kZ s1)+1,[(kZ s1)+1,(kZ s1)],_,_,H1,rfl,I1.kept (t':=s1.toks) kk,zRA l _ _ (Nat.succ_ne_self _),#[#[_,se],si],fp,q]
 ·obtain ⟨its,rv,pl,hz⟩:=I1.tuple hq
  have pl':s1.heap.IsTuple l its.toArray:=pl;refine zOQ pl' λh' se si kk=>yDw se ?_;have lt:l<(kZ s1):=let ⟨o,ho,_⟩:=pl';yAP ho;exact#[(kZ s1)+1,[(kZ s1)+1,(kZ s1)],_,_,H1,rfl,I1.kept (t':=s1.toks) kk,zOH l _ _ (Nat.succ_ne_self _) (yAo lt) (yBf (yCU lt)),#[#[_,se],si],fp,q]
def Zf5 (K:Frag)(tl:TE):TI:=λσ H R=>tl σ H λx H1=>∃ a,x=.ref a/\((∃ xs,SqL K H1 a xs)/\R (Itl K a) H1 \/ (∃ xs,SqT K H1 a xs)/\R (Itt K a) H1)
def zB2 {X:Cx}{tg l:Expr}{tl:TE}(hl:PE X l tl):PI X tg l (Zf5 X.K tl):=by
 intro pins s σ H R I h;refine thn (hl pins s σ H _ I h) λv s1 hM=>?_;obtain ⟨x,H1,I1,r1,a,e,q⟩:=hM;subst e
 cases r1
 have fp:∀ b∈[(kZ s1)],ZHO X pins H1 b:=λb hb=>by rw [yAE.mp hb];exact I1.fpOk (yAF _) (I1.hok.fresh (yAF _))
 rcases q with ⟨⟨xs,hq⟩,q⟩|⟨⟨xs,hq⟩,q⟩
 ·obtain ⟨its,rv,pl,hz⟩:=I1.list hq
  exact yCr pl.isList #[(kZ s1),[(kZ s1)],_,_,H1,rfl,I1.kept (t':=s1.toks) λb o e=>yAD _ e,zKR a _,#[_,yAc _ rfl,rfl,rfl],fp,q]
 ·obtain ⟨its,rv,pl,hz⟩:=I1.tuple hq
  exact yDj (show s1.heap.IsTuple a its.toArray from pl) #[(kZ s1),[(kZ s1)],_,_,H1,rfl,I1.kept (t':=s1.toks) λb o e=>yAD _ e,zPD a _,#[_,yAc _ rfl,rfl,rfl],fp,q]
section
variable {X:Cx}{pins:kA}{σ:St}{H:Hp}{s:Shared}
def zZL {x:V}{u t:Value}(I:Inv X pins σ H s)(rx:RelV x u)(ty:TyOf X.K H x t):∃ HH:Heap->Prop,PySem.W.KitX X.K u t HH/\HH s.heap/\u≠.builtin "__main__.__loader__#opaque":=by
 cases ty with
 | non=>cases (show u=eAE from rx);exact#[_,PySem.W.kitx_none,eAW,λz=>nomatch z]
 | bl y=>cases (show u=Value.bool y from rx);exact#[_,PySem.W.kitx_bool,eAW,λz=>nomatch z]
 | int i=>obtain ⟨t,q⟩:=(show ∃ t,u=Value.int i t from rx);cases q;exact#[_,PySem.W.kitx_int,eAW,λz=>nomatch z]
 | str y=>obtain ⟨t,q⟩:=(show ∃ t,u=Value.str y t from rx);cases q;exact#[_,PySem.W.kitx_str,eAW,λz=>nomatch z]
 | flt y=>obtain ⟨t,q⟩:=(show ∃ t,u=Value.float y t from rx);cases q;exact#[_,PySem.W.kitx_float,eAW,λz=>nomatch z]
 | @lst a xs ea=>
  cases (show u=eAF a from rx)
  obtain ⟨_,_,n,_,h1⟩:=(show UAI X.prog X.w H s.heap a (.lst xs) from I.hok a _ ea);exact#[_,yDy,#[_,h1,rfl],λz=>nomatch z]
 | @frz a ob xs ea=>
  cases (show u=eAF a from rx)
  obtain ⟨_,_,_,n,_,h1⟩:=(show UAI X.prog X.w H s.heap a (.frz ob (.lst xs)) from I.hok a _ ea);exact#[_,yDy,#[_,h1,rfl],λz=>nomatch z]
 | @tup a xs ea=>
  cases (show u=eAF a from rx)
  obtain ⟨_,_,_,p⟩:=(show UAI X.prog X.w H s.heap a (.tup xs) from I.hok a _ ea);obtain ⟨o,h1,h2,_⟩:=p;exact#[_,PySem.W.kitx_tuple,#[o,h1,h2],λz=>nomatch z]
 | @dK a kvs ea=>
  cases (show u=eAF a from rx)
  obtain ⟨_,_,vs,_,p⟩:=(show UAI X.prog X.w H s.heap a (.dK kvs) from I.hok a _ ea);obtain ⟨o,es,ep,h1,h2,_⟩:=p;exact#[_,yDz,#[o,h1,h2.1],λz=>nomatch z]
 | @dT a kvs ea=>
  cases (show u=eAF a from rx)
  obtain ⟨_,_,xs,_,o,es,ep,h1,h2,_⟩:=(show UAI X.prog X.w H s.heap a (.dT kvs) from I.hok a _ ea);exact#[_,yDz,#[o,h1,h2.1],λz=>nomatch z]
 | @ins a C dx fs ea cl ha hn htk hm=>
  cases (show u=eAF a from rx)
  obtain ⟨mA,O,_⟩:=zH9 I.hok ea;obtain ⟨od,J,_⟩:=O.look;exact#[_,PySem.W.kitx_own (cl.get _) cl.hd ha hn htk hm,J,λz=>nomatch z]
def zQR:∀ {cs:List String} {us:List Value},Vals (cs.map V.ty) us->us=cs.map eAG
 | [],_,.nil=>rfl
 | c::cs,_,.cons r t=>by rw [zQR t,show _=eAG c from r];rfl
def NB3 (K:Frag):=∀ (x:V) (t:Value) (p:Addr) (cs:List String) (b:Bool),xs=[x,.ref p]->TyOf K H x t->H p=some (.tup (cs.map V.ty))->eAe K t (cs.map eAG)=some b->Q (.bl b) H->NB3 K xs H Q
def zCW:ZDK X (.builtin "isinstance") (NB3 X.K):=by
 intro pins s σ H xs us Q I r h;obtain ⟨x,t,p,cs,b,rfl,ty,hp,e,q⟩:=h;obtain ⟨u,w',rfl,r1,r2⟩:=zUO r
 cases r2
 obtain ⟨HH,kx,hh,ne⟩:=zZL I r1 ty;obtain ⟨_,its,rv,⟨oc,od,odt,osl⟩,h1,h2,n,h3⟩:=(show UAI X.prog X.w H s.heap p (.tup (cs.map V.ty)) from I.hok p _ hp);obtain rfl:oc=.type "tuple":=h2;obtain rfl:odt=.seq its.toArray n:=h3;rw [<- zQR rv] at e;exact PySem.W.kia_tup kx I.kIn hh h1 e ne λtk=>#[.bl b,H,I.tok _,rfl,q]
def zEJ {K:Frag}{t c d:Value}{a b:Bool}(h1:eAC K t c=some a)(h2:eAC K t d=some b):eAe K t [c,d]=some (a||b):=by
 unfold eAe;rw [h1]
 cases a with
 | true=>rfl
 | false=>
  show eAe K t [d]=_;unfold eAe;rw [h2]
  cases b<;>rfl
end
def zC7 {o0:HO}{xs:List Str}{fv:List (Str×Nat)}{g:TG}{tt:TT}{tb:TB}{σ:St}{J:It}{H1:Hp}{Q:VK}(n:Nat)(Pv:Nat->Addr->Hp->Prop)(h0:∀ D,H1 D=none->Pv 0 D (upd H1 D o0))
  (hgo:∀ i D H,H1 D=none->i<n->Pv i D H->J.go i H) (hst:∀ D H,H1 D=none->Pv n D H->J.stop n H)
  (hs:∀ i D H x H',H1 D=none->i<n->Pv i D H->J.yld i H x H'->g x (ρT xs fv σ) H' λσ2 H2=>ZIK xs (ρT xs fv σ) σ2/\tt σ2 H2 λb H3=>if b=true then tb D σ2 H3 (Pv (i+1) D) else Pv (i+1) D H3)
  (hd:∀ D H,H1 D=none->Pv n D H->Q (.ref D) H):ZCY o0 xs fv g tt tb σ J H1 Q:=by
 intro D hD;refine#[λi m H=>m=n-i/\i<=n/\Pv i D H,#[n,by simp,yBN _,h0 D hD],?_]
 rintro i m H ⟨rfl,hi,p⟩
 by_cases hlt:i<n
 ·exact .inr #[hgo i D H hD hlt p,Pv (i+1) D,λH' p'=>#[n-(i+1),oz,rfl,hlt,p'],λx H' y=>hs i D H x H' hD hlt p y]
 ·obtain rfl:i=n:=by lia
  exact .inl #[hst D H hD p,hd D H hD p]
def zHT {J:It}{g:TG}{tb:TS}{D:Ends}{σ:St}{H:Hp}(n:Nat)(Pv:Nat->St->Hp->Prop)(h0:Pv 0 σ H)(hgo:∀ i σ H,i<n->Pv i σ H->J.go i H)(hst:∀ σ H,Pv n σ H->J.stop n H)
  (hs:∀ i σ H x H',i<n->Pv i σ H->J.yld i H x H'->g x σ H' λσ2 H2=>tb { D with nx:=Pv (i+1),ct:=Pv (i+1),bk:=D.nx } σ2 H2) (hd:∀ σ H,Pv n σ H->D.nx σ H) :
  ∃ W:Nat->Nat->St->Hp->Prop,(∃ m,W 0 m σ H)/\∀ i m σ H,W i m σ H ->
   (J.stop i H/\D.nx σ H) \/ (J.go i H/\∃ N:St->Hp->Prop,(∀ σ' H',N σ' H'->∃ m',m'<m/\W (i+1) m' σ' H')/\∀ x H',J.yld i H x H'->g x σ H' λσ2 H2=>tb { D with nx:=N,ct:=N,bk:=D.nx } σ2 H2):=by
 refine#[λi m σ H=>m=n-i/\i<=n/\Pv i σ H,#[n,by simp,yBN _,h0],?_]
 rintro i m σ H ⟨rfl,hi,p⟩
 by_cases hlt:i<n
 ·exact .inr #[hgo i σ H hlt p,Pv (i+1),λσ' H' p'=>#[n-(i+1),oz,rfl,hlt,p'],λx H' y=>hs i σ H x H' hlt p y]
 ·obtain rfl:i=n:=by lia
  exact .inl #[hst σ H p,hd σ H p]
theorem ndT {X:Cx}{scope:Scope}{xs:List Str}{fv:List (Str×Nat)}{C:Addr}{s₀:Shared}{H₀:Hp}{ex:List Addr}{pn:kA}(h:ZFN scope xs fv=true):(cxT X scope xs fv C s₀ H₀ ex pn).N.Nodup:=(zE3 h).nd
end
end L2
namespace L2
open PySem PySem.Spec PyProof.Rows PySem.W
structure Lin (α:Type) where
 lt:α->α->Bool
 asym:∀ a b,lt a b=true->lt b a=false
 trans:∀ a b c,lt b a=false->lt c b=false->lt c a=false
 anti:∀ a b,lt a b=false->lt b a=false->a=b
section
variable {n:Nat}{r:Nat->Nat->Bool}
end
section
variable {κ:Type}(O:Lin κ)(g:Nat->κ){n:Nat}
def Lin.le (a b:κ):Prop:=O.lt b a=false
structure Pm (n:Nat)(p:Array Nat):Prop where
 perm:p.Perm (List.toArray (eAJ n))
end
mutual
inductive DV (K:Frag)(H:Hp):V->PyData->Prop
 | non:DV K H .non .none
 | bl (b:Bool):DV K H (.bl b) (.bool b)
 | int (i:Int):DV K H (.int i) (.int i)
 | str (x:Str):DV K H (.str x) (.str x)
 | lst {a:Addr} {xs:List V} {ds:List PyData}:SqL K H a xs->DVs K H xs ds->DV K H (.ref a) (.list ds)
 | tup {a:Addr} {xs:List V} {ds:List PyData}:SqT K H a xs->DVs K H xs ds->DV K H (.ref a) (.tuple ds)
inductive DVs (K:Frag)(H:Hp):List V->List PyData->Prop
 | nil:DVs K H [] []
 | cons {x:V} {xs:List V} {d:PyData} {ds:List PyData}:DV K H x d->DVs K H xs ds->DVs K H (x::xs) (d::ds)
end
theorem DVs.ints {K:Frag}{H:Hp}:∀ ns:List Int,DVs K H (ns.map V.int) (ns.map eAf)
 | []=>.nil
 | n::r=>.cons (.int n) (DVs.ints r)
theorem SqT.mono {K:Frag}{H H':Hp}{a:Addr}{xs:List V}(e:Same H H')(h:SqT K H a xs):SqT K H' a xs:=by
 rcases h with (h|⟨o,h⟩)|h
 ·exact .inl (.inl (e _ _ h))
 ·exact .inl (.inr #[o,e _ _ h])
 ·exact .inr h
section
variable {X:Cx}{pins:kA}{σ:St}{H:Hp}{s:Shared}
mutual
theorem DV.reads (I:Inv X pins σ H s):∀ {v:V} {d:PyData} {u:Value},DV X.K H v d->RelV v u->∃ as,Reads s.heap u d as
 | _,_,_,.non,r=>by cases r;exact#[_,.none]
 | _,_,_,.bl b,r=>by cases r;exact#[_,.bool b]
 | _,_,_,.int i,r=>by obtain ⟨t,rfl⟩:=r;exact#[_,.int i t]
 | _,_,_,.str x,r=>by obtain ⟨t,rfl⟩:=r;exact#[_,.str x t]
 | _,_,_,.lst hq hs,r=>by
  cases r
  obtain ⟨its,rv,⟨o,n,e,c,_,d⟩,_⟩:=I.list hq;obtain ⟨as,q⟩:=DVs.reads I hs rv;exact#[_,.list e c d (by simpa using q)]
 | _,_,_,.tup hq hs,r=>by
  cases r
  obtain ⟨its,rv,p,_⟩:=I.tuple hq;obtain ⟨as,q⟩:=DVs.reads I hs rv;obtain ⟨o,e,c,n,d⟩:=p;exact#[_,.tuple e c d (by simpa using q)]
theorem DVs.reads (I:Inv X pins σ H s):∀ {vs:List V} {ds:List PyData} {us:List Value},DVs X.K H vs ds->Vals vs us->∃ as,ReadsAll s.heap us ds as
 | _,_,_,.nil,.nil=>#[_,.nil]
 | _,_,_,.cons h t,.cons r rs=>by
  obtain ⟨as,q⟩:=DV.reads I h r;obtain ⟨bs,q'⟩:=DVs.reads I t rs;exact#[_,.cons q q']
end
end
section
variable {X:Cx}{k:Nat}
def NB4 (K:Frag):=∀ x d,xs=[x]->DV K H x d->d.showable=true->d.hasDict=false->d.depth<=100->d.shown.length<=eA5->Q (.str d.shown) H->NB4 K xs H Q
def zQX (hr:Room k X.A):ZDK X (.builtin "repr") (NB4 X.K):=by
 intro pins s σ H xs us Q I r h;obtain ⟨x,d,rfl,hd,h1,h2,h3,h4,q⟩:=h;obtain ⟨u,rfl,ru⟩:=zEP r;obtain ⟨as,rd⟩:=hd.reads I ru;have fin:∀ t:Tok,∀ tk,EP X pins σ Q (.str d.shown t) { s with toks:=tk }:=λt tk=>#[.str d.shown,H,I.tok _,#[_,rfl],q]
 cases hd with
 | non=>cases ru;exact PySem.P.repr_of_none (fin _ _)
 | bl b=>
  cases ru
  refine PySem.P.repr_of_bool ?_;have e:(eAg b).shown=(if b then "True" else "False":Str):=PyData.shown_bool b;rw [e] at fin
  cases b<;>exact fin _ _
 | int i=>obtain ⟨t,rfl⟩:=ru;exact PySem.P.repr_of_int (by simpa [PyData.showable] using h1) (by have:=fin s.toks (s.toks+1);rw [PyData.shown_int] at this;exact this)
 | str y=>obtain ⟨t,rfl⟩:=ru;exact PySem.P.repr_of_str (by have:=fin s.toks (s.toks+1);rw [yEK] at this;exact this) (by rw [yEK] at h4;exact h4)
 | @lst a xs ds hq hs=>
  cases ru
  exact yDr rd h1 (λz=>by rw [h2] at z;cases z) hr.gd (by have:=hr.un;lia) (λ_ _ e=>e) (λh' u tk hk=>#[.str _,H,I.kept (t':=tk) hk,#[_,rfl],q]) h4
 | @tup a xs ds hq hs=>
  cases ru
  exact yDr rd h1 (λz=>by rw [h2] at z;cases z) hr.gd (by have:=hr.un;lia) (λ_ _ e=>e) (λh' u tk hk=>#[.str _,H,I.kept (t':=tk) hk,#[_,rfl],q]) h4
def KC2 (K:Frag)(neg:Bool):=∀ d e,DV K H x d->DV K H y e->d.canLay0=true->e.canLay0=true->d.depth<=100->(Q (.bl (if neg then !eAh d e else eAh d e)) H)->KC2 K neg x y H Q
def zF5 (hr:Room k X.A):OpR X (eAP .Eq) (KC2 X.K false):=by
 intro pins s σ H x y v u Q I rx ry h;obtain ⟨d,e,hd,he,h1,h2,h3,q⟩:=h;obtain ⟨as,r1⟩:=hd.reads I rx;obtain ⟨bs,r2⟩:=he.reads I ry;refine SeqAt.compareEq_reads r1 r2 h1 h2 (by have:=hr.un;have:=yES d.depth e.depth;lia) ?_;exact#[.bl _,H,I,rfl,q]
def zFZ (hr:Room k X.A):OpR X (eAP .NotEq) (KC2 X.K true):=by
 intro pins s σ H x y v u Q I rx ry h;obtain ⟨d,e,hd,he,h1,h2,h3,q⟩:=h;obtain ⟨as,r1⟩:=hd.reads I rx;obtain ⟨bs,r2⟩:=he.reads I ry;refine SeqAt.compareNe_reads r1 r2 h1 h2 (by have:=hr.un;have:=yES d.depth e.depth;lia) ?_;exact#[.bl _,H,I,rfl,q]
def MA6 (K:Frag):=∀ (l:Addr) (ns:List Int) (i:Int),x=.ref l->vs=[.int i]->SqL K H l (ns.map V.int)->(Q (.int (ns.count i:Nat)) H)->MA6 K x vs H Q
def NB5 (K:Frag):=∀ x t n b,xs=[x,.ty n]->TyOf K H x t->eAC K t (.type n)=some b->Q (.bl b) H->NB5 K xs H Q
def zBM:ZDK X (.builtin "isinstance") (NB5 X.K):=by
 intro pins s σ H xs us Q I r h;obtain ⟨x,t,n,b,rfl,ty,e,q⟩:=h;obtain ⟨u,w',rfl,r1,r2⟩:=zUO r
 cases r2
 exact zQ7 I r1 ty e λtk=>#[.bl b,H,I.tok _,rfl,q]
def ZeZ (K:Frag)(te:TE):TE:=λσ H Q=>te σ H λx H1=>∃ a xs,x=.ref a/\SqL K H1 a xs/\∀ p,H1 p=none->Q (.ref p) (upd H1 p (.lst xs.reverse))
def zcJ {e:Expr}{te:TE}{p1 p2 p3 p4 pos:Pos}{c:Nat}(he:PE X e te):PE X (.Subscript e (.Slice none none (some (.UnaryOp .USub (.Constant (.int 1) c p1) p2)) p3) pos) (ZeZ X.K te):=by
 intro pins s σ H Q I h;refine Subscript_ (thn (he pins s σ H _ I h) λv s1 hM=>?_);obtain ⟨x,H1,I1,r1,q1⟩:=hM;obtain ⟨a,xs,rfl,hx,q⟩:=q1
 cases r1
 refine wpAny_Slice (thn (zDD pins s1 σ H1 (λo H2=>o=none/\H2=H1) I1 #[rfl,rfl]) λvl s2 hM=>?_);obtain ⟨l,H2,I2,pl,q2⟩:=hM;refine thn (zDD pins s2 σ H2 (λo H3=>o=none/\H3=H1) I2 #[rfl,q2.2]) λvu s3 hM=>?_;obtain ⟨u,H3,I3,pu,q3⟩:=hM;refine thn (zDR (ze6 zbX zA5) pins s3 σ H3 (λo H4=>o=some (-1)/\H4=H1) I3 #[1,rfl,-1,rfl,rfl,q3.2]) λvk s4 hM=>?_;obtain ⟨w,H4,I4,pk,q4⟩:=hM;obtain ⟨rfl,rfl⟩:=q4;obtain ⟨rfl,_⟩:=q2;obtain ⟨rfl,_⟩:=q3;obtain ⟨its,r,ht,hz⟩:=I4.list hx;have hlen:=r.length;have I5:Inv X pins σ H4 { s4 with heap:=s4.heap.push { cls:=.type "slice",data:=.fields (List.toArray [vl,vu,vk]) } }:=I4.kept (t':=s4.toks) λb ob q=>yAD _ q;have hl5:(s4.heap.push { cls:=.type "slice",data:=.fields (List.toArray [vl,vu,vk]) }).IsList a its.toArray:=ht.isList.push _
 refine tail_any (ops:=[.ref a,.ref (kZ s4)]) (s:={ s4 with heap:=s4.heap.push { cls:=.type "slice",data:=.fields (List.toArray [vl,vu,vk]) } }) (Heap.IsList.typeIs (s:={ s4 with heap:=s4.heap.push { cls:=.type "slice",data:=.fields (List.toArray [vl,vu,vk]) } }) hl5) slot_list_getitem.lookup
  (wpAny_getItem_list_slice hl5 (Heap.IsSliceOf.new ..) pl pu pk (by simp) ?_ (by rw [yAM];lia)) (by with_unfolding_all rfl)
 rw [show slicePick its.toArray none none (some (-1))=its.reverse.toArray from by rw [PySem.W.krv_pick]];refine#[.ref _,_,I5.lnew (t':=s4.toks) (ys:=xs.reverse) r.reverse (by simpa using hz),rfl,q _ I5.fresh]
end
end L2
namespace L2
open PySem PySem.Spec PyProof.Rows PySem.W
def ZBQ (a b:Int×List Int):Bool:=if a.1=b.1 then HT.lexLt a.2 b.2 else decide (a.1<b.1)
def Zd0 (a:Int×List Int):PyData:=.tuple [.int a.1,.tuple (a.2.map eAf)]
def zLU:∀ a:List Int,HT.lexLt a a=false
 | []=>rfl
 | x::r=>by rw [HT.lexLt_cons,yAS rfl];exact zLU r
def zN1:∀ a b:List Int,HT.lexLt a b=true->HT.lexLt b a=false
 | [],[],h=>by cases h
 | [],_::_,_=>rfl
 | _::_,[],h=>by cases h
 | x::r,y::t,h=>by
  rw [HT.lexLt_cons] at h ⊢
  by_cases e:x=y
  ·rw [yAS e] at h;rw [yAS e.symm];exact zN1 r t h
  ·rw [yAT e] at h;rw [yAT (eAL e)]
   have:=yAZ h
   exact yAG oz
def zIP:∀ a b:List Int,HT.lexLt a b=false->HT.lexLt b a=false->a=b
 | [],[],_,_=>rfl
 | [],_::_,h,_=>by cases h
 | _::_,[],_,h=>by cases h
 | x::r,y::t,h,h'=>by
  rw [HT.lexLt_cons] at h h'
  by_cases e:x=y
  ·rw [yAS e] at h;rw [yAS e.symm] at h';rw [e,zIP r t h h']
  ·rw [yAT e] at h;rw [yAT (eAL e)] at h'
   have h1:=yBO h;have h2:=yBO h';lia
def zKU:∀ a b c:List Int,HT.lexLt b a=false->HT.lexLt c b=false->HT.lexLt c a=false
 | _,[],[],h,_=>h
 | _,_::_,[],_,h'=>by cases h'
 | [],_,_::_,_,_=>rfl
 | x::r,[],_::_,h,_=>by cases h
 | x::r,y::t,z::u,h,h'=>by
  rw [HT.lexLt_cons] at h h' ⊢
  by_cases e1:y=x
  ·rw [yAS e1] at h
   by_cases e2:z=y
   ·rw [yAS e2] at h';rw [yAS (e2.trans e1)];exact zKU r t u h h'
   ·rw [yAT e2] at h';rw [yAT oz]
    have:=yBO h'
    exact yAG oz
  ·rw [yAT e1] at h
   have h1:=yBO h
   by_cases e2:z=y
   ·rw [yAT oz];exact yAG oz
   ·rw [yAT e2] at h'
    have h2:=yBO h';rw [yAT oz];exact yAG oz
def UAz:Lin (Int×List Int) where
 lt:=ZBQ
 asym:=λa b h=>by
  unfold ZBQ at h ⊢
  by_cases e:a.1=b.1
  ·rw [yAS e] at h;rw [yAS e.symm];exact zN1 _ _ h
  ·rw [yAT e] at h;rw [yAT (eAL e)]
   have:=yAZ h
   exact yAG oz
 trans:=λa b c h h'=>by
  unfold ZBQ at h h' ⊢
  by_cases e1:b.1=a.1
  ·rw [yAS e1] at h
   by_cases e2:c.1=b.1
   ·rw [yAS e2] at h';rw [yAS (e2.trans e1)];exact zKU _ _ _ h h'
   ·rw [yAT e2] at h';rw [yAT oz]
    have:=yBO h'
    exact yAG oz
  ·rw [yAT e1] at h
   have h1:=yBO h
   by_cases e2:c.1=b.1
   ·rw [yAT oz];exact yAG oz
   ·rw [yAT e2] at h'
    have h2:=yBO h';rw [yAT oz];exact yAG oz
 anti:=λa b h h'=>by
  unfold ZBQ at h h'
  by_cases e:a.1=b.1
  ·rw [yAS e] at h;rw [yAS e.symm] at h'
   exact Prod.ext e (zIP _ _ h h')
  ·rw [yAT e] at h;rw [yAT (eAL e)] at h'
   have h1:=yBO h;have h2:=yBO h';lia
mutual
theorem DV.mono {K:Frag}{H H':Hp}(g:Same H H'):∀ {v:V} {d:PyData},DV K H v d->DV K H' v d
 | _,_,.non=>.non
 | _,_,.bl b=>.bl b
 | _,_,.int i=>.int i
 | _,_,.str x=>.str x
 | _,_,.lst h t=>.lst (g.seq h) (DVs.mono g t)
 | _,_,.tup h t=>.tup (SqT.mono g h) (DVs.mono g t)
theorem DVs.mono {K:Frag}{H H':Hp}(g:Same H H'):∀ {v:List V} {d:List PyData},DVs K H v d->DVs K H' v d
 | _,_,.nil=>.nil
 | _,_,.cons h t=>.cons (DV.mono g h) (DVs.mono g t)
end
section
variable {X:Cx}{pins:kA}{σ:St}{H:Hp}{s:Shared}
theorem Inv.take {D:Addr}{o:HO}(I:Inv X pins σ H s)(f:ZHO X pins H D)(hs:X.s₀.heap.objs.size<=D)(new:UAI X.prog X.w (upd H D o) s.heap D o):Inv X pins σ (upd H D o) s:=by
 obtain ⟨f0,f1,f2,_,f4,f5⟩:=f;have ne:∀ b ob,X.s₀.heap.get? b=some ob->b≠D:=λb ob e=>yAo (yAj (yAP e) hs);have nH:∀ b u,H b=some u->b≠D:=λb u e z=>by rw [z,f0] at e;cases e
 refine#[I.ok,I.os,I.bare,#[λb ob e n hb hx=>I.base.keep b ob e n hb hx,λb ob e n hb hx=>I.base.slot b ob e n hb hx,λb ob e n hx=>?_,I.base.there,λb xs e=>?_,λb ob xs e=>?_,λb ps e=>?_],I.loc,I.cell,?_,λy c e=>?_,λp hp=>?_,λb u e=>?_,I.len]
 ·rw [zA6 (ne b ob e)];exact I.base.free b ob e n hx
 ·rw [zA6 (nH b _ (I.base.tups b xs e))];exact I.base.tups b xs e
 ·rw [zA6 (nH b _ (I.base.frzs b ob xs e))];exact I.base.frzs b ob xs e
 ·obtain ⟨m,q⟩:=I.base.tbls b ps e
  exact#[m,by rw [zA6 (nH b _ q)];exact q]
 ·rw [zA6 f1.symm];exact I.free
 ·rw [zA6 (f4 y c e)];exact I.freeC y c e
 ·obtain ⟨z1,z2,z3⟩:=I.pin p hp
  exact#[z1,by rw [zA6 (f5 p hp)];exact z2,z3]
 ·by_cases hb:b=D
  ·subst hb;rw [zA0] at e;cases e;exact new
  ·rw [zA6 hb] at e
   exact (I.hok b u e).stay (λ_ _ _ q=>q) (λc q=>by rw [zA6 (zA3 q f0)];exact q) λc xs q=>by rw [zA6 (zA3 q f0)];exact q
def zLZ {prog:eAD}{w:World}{A:eAK}{E:kW}{l:Addr}{T:String}{o:Obj}{n:Nat}{vs:List Value}{Q:List Value->Shared->Prop}(hT:T="list" \/ T="tuple")(ho:s.heap.get? l=some o)(hc:o.cls=.type T)
  (hd:o.data=.seq vs.toArray n) (h:∀ h',(∀ b u,s.heap.get? b=some u->h'.get? b=some u)->Q vs { s with heap:=h' }) (hz:vs.length<=eA5):wpAny (model prog w) A (collect (.ref l)) Q E s:=by
 unfold collect;refine yAC (wpAny_runValue (yCS entry_proto_collect' ?_));show wpAny _ _ ((newList []) >>= λz=>again (.builtin "list.__iadd__" #[[z,.ref l],[]])) _ _ s;refine yAC (wpAny_newList (yAO #[yDJ _ dk,yCS entry_list_iadd' ?_]));show wpAny _ _ (Builtin.List.listExtendWith (.ref (kZ s)) (.ref l) (.ref (kZ s))) _ _ { s with heap:=s.heap.push (eAi "list" #[] 0) };unfold Builtin.List.listExtendWith;have ho1:=yAD (eAi "list" #[] 0) ho;refine yAC (yEP (T:=T) #[o,ho1,hc] ?_)
 have hor:(Builtin.List.listSameRef (.ref (kZ s)) (.ref l)||eAG T==.type "list"||eAG T==.type "tuple")=true:=by
  rcases hT with rfl|rfl<;>simp
 rw [yAS hor];have hnew:(s.heap.push (eAi "list" #[] 0)).get? (kZ s)=some (eAi "list" #[] 0):=yAc _ rfl;refine yAC (listItems_at ho1 hd (yAC (listItems_at hnew rfl ?_)));rw [yAT (by simp)];refine yAC (yEF hnew rfl ?_ (yBN _) (by show (#[]++vs.toArray).size<=_;simp;lia));refine yAO ?_;show wpAny (model prog w) A (load (kZ s) >>= λz=>match z.data with|.seq xs _=>pure xs.toList|_=>unsupported "internal:collect") Q E { s with heap:=(s.heap.push (eAi "list" #[] 0)).update (kZ s) (eAc (· ++ vs.toArray)) };refine yAC (wpAny_load (yEQ hnew _) ?_);show wpAny _ _ (pure ((#[]:Array Value)++vs.toArray).toList) Q E _;rw [show ((#[]:Array Value)++vs.toArray).toList=vs by simp];refine yAO (h _ λb u e=>?_);have hb:b≠(kZ s):=yAo (yAP e);rw [yBj _ _ _ _ hb];exact yAD _ e
def zXJ {prog:eAD}{w:World}{A:eAK}{E:kW}{st:eAj}{out:List Value}{D kS:Addr}{e e1:Nat}{ks:List Value}{P:PySem.Fin->Shared->Prop}(hk:s.heap.get? kS=some (eAi "list" ks.toArray e))(hD:s.heap.get? D=some (eAi "list" #[] e1))(hne:kS≠D)
  (hout:(arrOf st).map (·.2)=out.toArray) (hf:failedOf st=none) (hz:ks.length<=eA5) (hz2:out.length<=eA5)
  (h:P (.done (.ret .none)) { s with heap:=(s.heap.update kS (eAc λ_=>#[])).update D (eAc λ_=>out.toArray) }):wpAny (model prog w) A (ksk_tail D false e1 (.ref kS) st) P E s:=by
 unfold ksk_tail
 try dsimp only
 rw [hout];refine yAC (yEF hk rfl ?_ (by rw [yAM];exact hz) (yBN _))
 have hD':(s.heap.update kS (eAc λ_=>(#[]:Array Value))).get? D=some (eAi "list" #[] e1):=by
  rw [yBj _ _ _ _ hne.symm];exact hD
 refine yAC (wpAny_letGo (yAC (seqEpoch_at hD' rfl ?_)));refine yAC (yEF hD' rfl ?_ (yBN _) (by simp only [yBP,yCR,yAM];lia));rw [hf];simp only [bne_self_eq_false,yBP,yCR];exact yAO h
def zCJ:∀ ms:List Int,eAk (ms.map eAf)=true
 | []=>rfl
 | _::r=>by show (true&&eAk (r.map eAf))=true;rw [zCJ r];rfl
def zD8:∀ ms:List Int,eAl (ms.map eAf)<=1
 | []=>by simp [eAl]
 | m::r=>by
  have:=zD8 r
  simp only [yAq,eAl,eAm];lia
def zOB (ms:List Int):(eAn (ms.map eAf)).depth<=2:=by
 have:=zD8 ms
 simp only [eAm];lia
theorem DVs.ints_inv {K:Frag}{ms:List Int}:∀ {xs:List V},DVs K H xs (ms.map eAf)->xs=ms.map V.int:=by
 induction ms with
 | nil=>intro xs h;cases h;rfl
 | cons m r ih=>
  intro xs h
  cases h with
  | cons a b=>
   cases a
   rw [ih b];rfl
structure UAx (X:Cx)(H:Hp)(s:Shared)(v:Value)(n:Int)(ms:List Int):Prop where
 ex:∃ (a b:Addr) (t:Tok) (o:Obj) (k:Nat) (its:List Value) (bs:List Addr),v=.ref a/\s.heap.get? a=some o/\o.cls=.type "tuple"/\o.data=.seq [.int n t,.ref b].toArray k/\IsTup s.heap b its.toArray/\eAa its ms/\Reads s.heap (.ref b) (.tuple (ms.map eAf)) bs
def zcE {v:V}{u:Value}{n:Int}{ms:List Int}(I:Inv X pins σ H s)(h:DV X.K H v (Zd0 (n,ms)))(r:RelV v u):UAx X H s u n ms:=by
 unfold Zd0 at h;generalize hd:eAn [.int n,.tuple (ms.map eAf)]=d at h
 cases h with
 | @tup a xs ds hq hs=>
  cases hd
  cases r
  obtain ⟨its,rv,⟨o,e,c,k,d⟩,_⟩:=I.tuple hq
  cases hs with
  | cons h1 t=>
   cases t with
   | cons h2 t2=>
    cases t2
    generalize hd2:eAf n=d1 at h1
    cases h1 with
    | int i=>
     cases hd2
     generalize hd3:eAn (ms.map eAf)=d2 at h2;have h2':=h2
     cases h2 with
     | @tup b ys es hq2 hs2=>
      cases hd3
      have ey:=DVs.ints_inv hs2;subst ey
      cases rv with
      | cons r1 rr=>
       cases rr with
       | cons r2 rr2=>
        cases rr2
        obtain ⟨t,rfl⟩:=r1
        cases r2
        obtain ⟨its2,rv2,p2,_⟩:=I.tuple hq2;obtain ⟨bs,q⟩:=DV.reads I h2' (u:=.ref b) rfl;exact#[a,b,t,o,k,its2,bs,rfl,e,c,d,p2,zHU rv2,q]
     | _=>cases hd3
    | _=>cases hd2
 | _=>cases hd
def zYI {A:eAK}{E:kW}{u v:Value}{n m:Int}{ms ks:List Int}{C:Bool->Shared->Prop}(hu:A.units+10<cLine)(h1:UAx X H s u n ms)(h2:UAx X H s v m ks)(h:C (ZBQ (n,ms) (m,ks)) s) :
  wpAny (model X.prog X.w) A (keyLt' (tuples' true) u v) C E s:=by
 obtain ⟨a,b,t,o,k,its,bs,rfl,e,c,d,p,ia,rd⟩:=h1.ex;obtain ⟨a',b',t',o',k',its',bs',rfl,e',c',d',p',ia',rd'⟩:=h2.ex;refine kat_lt e d e' d' (kat_cons (yDl n t m t' _ _ _ _ ?_));refine kat_go (λz=>?_) (λz=>?_)
 ·have en:n=m:=by simpa using z
  subst en;refine kat_yes (kat_cons (SeqAt.eqAt_reads _ _ A s _ _ _ _ rd rd' ?_ ?_ ?_ _ _ _ _ ?_))
  ·show eAk (ms.map eAf)=true
   exact zCJ ms
  ·show eAk (ks.map eAf)=true
   exact zCJ ks
  ·have q:(eAn (ms.map eAf)).depth<=2:=zOB ms
   have:=yES (eAn (ms.map eAf)).depth (eAn (ks.map eAf)).depth
   lia
  ·have eq1:eAh (.tuple (ms.map eAf)) (.tuple (ks.map eAf))=decide (ms=ks):=by
    rw [eAh];exact ked_eqvAll ms ks
   have hk:ZBQ (n,ms) (n,ks)=HT.lexLt ms ks:=by unfold ZBQ;rw [yAS rfl]
   rw [hk] at h;refine kat_go (λy=>?_) (λy=>?_)
   ·rw [eq1] at y
    have em:=yAZ y;subst em;rw [zLU] at h;exact kat_yes (kat_nil h)
   ·refine kat_no (kat_one _ _ ?_)
    exact HT.lt_tupInts (items:=its.toArray) (items2:=its'.toArray) p p' ia ia' oz h
 ·have en:¬n=m:=by simpa using z
  have hk:ZBQ (n,ms) (m,ks)=decide (n<m):=by unfold ZBQ;rw [yAT en]
  rw [hk] at h;exact kat_no (oneLt_int h)
end
end L2
namespace L2T
open PySem PyProof.Rows
def ZEH:Bool->Keyed->Array Keyed->Nat->Nat->Nat->StateT eAj Sem (Option Nat):=sortPriv% PySem.Builtin.gallop
def ZNO:Array Keyed->Array Keyed->StateT eAj Sem (Array Keyed):=sortPriv% PySem.Builtin.mergeLo
def ZNE:Array Keyed->Array Keyed->StateT eAj Sem (Array Keyed):=sortPriv% PySem.Builtin.mergeHi
def ZSM:Nat->StateT eAj Sem Unit:=sortPriv% PySem.Builtin.setMinGallop
structure Ord (R:Keyed->Keyed->Bool):Prop where
 as:∀ x y,R x y=true->R y x=false
 tr:∀ x y z,R y x=false->R z y=false->R z x=false
theorem Ord.irr {R:Keyed->Keyed->Bool}(O:Ord R)(x:Keyed):R x x=false:=by
 cases h:R x x with
 | false=>rfl
 | true=>rw [O.as x x h] at h;cases h
structure Cmp (prog:eAD)(w:World)(A:eAK)(s:Shared)(κ:SortKind)(R:Keyed->Keyed->Bool)(P:Keyed->Prop):Prop where
 ask:∀ x y,P x->P y->∀ (C:Bool->Shared->Prop) (E:kW),C (R x y) s->wpAny (model prog w) A (keyLt' κ x.1 y.1) C E s
def at_ (xs:Array Keyed)(i:Nat):Keyed:=xs.getD i (eAE,eAE)
def zWS {xs:Array Keyed}{i:Nat}(h:i<xs.size):xs[i]?=some (at_ xs i):=by
 unfold at_
 simp [Array.getD,h]
section
variable {prog:eAD}{w:World}{A:eAK}{E:kW}{s:Shared}{κ:SortKind}{R:Keyed->Keyed->Bool}{P:Keyed->Prop}{st:eAj}
def zJT {x y:Keyed}{Q:Option Bool->eAj->Prop}(C:Cmp prog w A s κ R P)(hk:kindOf st=κ)(hx:P x)(hy:P y)(h:Q (some (R x y)) st):wpS (model prog w) A E s (lt' x y) Q st:=by
 rw [lt'_eq];refine yAX (yEE ?_);rw [hk];refine yAX (wpS_lift (wpAny_attempt (C.ask x y hx hy _ _ #[rfl,?_])));exact yAh h
def zAR {α:Type}{M:Model}{st:eAj}{c:Prop}[Decidable c]{x y:StateT eAj Sem α}{Q:α->eAj->Prop}(h1:c->wpS M A E s x Q st)(h2:¬c->wpS M A E s y Q st):wpS M A E s (if c then x else y) Q st:=by
 by_cases h:c
 ·rw [yAS h];exact h1 h
 ·rw [yAT h];exact h2 h
structure Box (G:Prop):Prop where
 k:G
theorem share {G T:Prop}(use:Box G->T)(pf:G):T:=use ⟨pf⟩
def zaI {γ σ:Type}{I T:γ->σ->Prop}{G:(γ->σ->Prop)->Prop}(use:∀ T:γ->σ->Prop,Box (G T)->∀ c st',I c st'->T c st')(pf:G T):∀ c st',I c st'->T c st':=use T ⟨pf⟩
def zd2 {γ σ:Type}{I T:γ->σ->Prop}{G G':(γ->σ->Prop)->Prop}(use:∀ T:γ->σ->Prop,Box (G T)->Box (G' T)->∀ c st',I c st'->T c st')(pf:G T)(pg:G' T):∀ c st',I c st'->T c st':=use T ⟨pf⟩ ⟨pg⟩
def zAH {xs:Array Keyed}{i:Nat}{Q:Keyed->eAj->Prop}(h:i<xs.size)(q:Q (at_ xs i) st):wpS (model prog w) A E s (elem' xs i) Q st:=by
 rw [elem'_eq,zWS h];exact yAh q
def bey (R:Keyed->Keyed->Bool)(left:Bool)(key:Keyed)(xs:Array Keyed)(base i:Nat):Bool:=if left=true then R (at_ xs (base+i)) key else !R key (at_ xs (base+i))
def ZX3 (left:Bool)(key:Keyed)(xs:Array Keyed)(base i:Nat):StateT eAj Sem (Option Bool):=
 elem' xs (base+i) >>= λx=>if left=true then lt' x key else (lt' key x >>= λr=>pure (Option.map (λb=>!b) r))
def zZP {left:Bool}{key:Keyed}{xs:Array Keyed}{base i:Nat}{Q:Option Bool->eAj->Prop}(C:Cmp prog w A s κ R P)(hk:kindOf st=κ)(hy:P key)(hi:base+i<xs.size)(hx:P (at_ xs (base+i)))(h:Q (some (bey R left key xs base i)) st):wpS (model prog w) A E s (ZX3 left key xs base i) Q st:=by
 unfold ZX3;refine yAX (zAH hi ?_);unfold bey at h
 cases left with
 | true=>
  rw [yAS rfl] at h ⊢;exact zJT C hk hx hy h
 | false=>
  rw [yAT yAg] at h ⊢;exact yAX (zJT C hk hy hx (yAh h))
structure Gal (R:Keyed->Keyed->Bool)(left:Bool)(key:Keyed)(xs:Array Keyed)(base n k:Nat):Prop where
 le:k<=n
 lo:∀ i,i<k->bey R left key xs base i=true
 hi:∀ i,k<=i->i<n->bey R left key xs base i=false
def zCC {left:Bool}{key:Keyed}{xs:Array Keyed}{base n hint:Nat}{Q:Option Nat->eAj->Prop}(C:Cmp prog w A s κ R P)(hk:kindOf st=κ)(hy:P key)(hx:∀ i,i<n->base+i<xs.size/\P (at_ xs (base+i)))
  (mono:∀ i j,i<=j->j<n->bey R left key xs base j=true->bey R left key xs base i=true) (hh:hint<n) (h:∀ k,Gal R left key xs base n k->Q (some k) st) :
  wpS (model prog w) A E s (ZEH left key xs base n hint) Q st:=by
 have ask:∀ {i:Nat} {Q':Option Bool->eAj->Prop},i<n->Q' (some (bey R left key xs base i)) st->wpS (model prog w) A E s (ZX3 left key xs base i) Q' st:=λhi q=>zZP C hk hy (hx _ hi).1 (hx _ hi).2 q;refine yAX (m:=ZX3 left key xs base hint) (f:=_) (ask hh ?_);dsimp only
 have down:∀ i j,i<=j->j<n->bey R left key xs base i=false->bey R left key xs base j=false:=λi j hij hj e=>by
  cases z:bey R left key xs base j with
  | false=>rfl
  | true=>rw [mono i j hij hj z] at e;cases e
 cases hb:bey R left key xs base hint with
 | true=>
  simp only [yDs]
  refine yAX (m:=_) (f:=_) (yCL (yBd (I:=λx c st'=>st'=st/\∃ l o,c=(none,l,o)/\hint+l<n/\l<o/\x+1<=o/\bey R left key xs base (hint+l)=true)
   (Q:=λc st'=>st'=st/\∃ l o,c=(none,l,o)/\hint+l<n/\l<o/\bey R left key xs base (hint+l)=true/\(n-hint<=o \/ bey R left key xs base (hint+o)=false)) ?step ?fin #[rfl,0,1,rfl,hh,oz,oz,hb]) ?post)
  case fin=>
   rintro c st' ⟨rfl,l,o,rfl,h1,h2,h3,h4⟩
   exact#[rfl,l,o,rfl,h1,h2,h4,.inl oz]
  case step=>
   rintro x c st' _ hxn ⟨rfl,l,o,rfl,h1,h2,h3,h4⟩
   dsimp only
   by_cases hge:o >= n-hint
   ·rw [yAS hge]
    exact yAh #[rfl,l,o,rfl,h1,h2,h4,.inl hge]
   ·rw [yAT hge]
    refine yAX (m:=ZX3 left key xs base (hint+o)) (f:=_) (ask oz ?_);dsimp only
    cases ho:bey R left key xs base (hint+o) with
    | false=>exact yAh #[rfl,l,o,rfl,h1,h2,h4,.inr ho]
    | true=>exact yAh #[rfl,o,2*o+1,rfl,oz,oz,oz,ho]
  case post=>
   rintro c st' ⟨rfl,l,o,rfl,h1,h2,h4,h5⟩
   dsimp only
   refine yAX (m:=_) (f:=_) (yCL (yBd (I:=λx c st3=>st3=st'/\∃ lo hi,c=(none,lo,hi)/\lo<=hi/\hi<=n/\hi-lo<=n-x/\(∀ i,i<lo->bey R left key xs base i=true)/\∀ i,hi<=i->i<n->bey R left key xs base i=false)
    (Q:=λc st3=>st3=st'/\∃ lo hi,c=(none,lo,hi)/\Gal R left key xs base n hi) ?ts1 ?tf1 ?ti1) ?tp1)
   case tf1=>
    rintro c st' ⟨rfl,lo,hi,rfl,a1,a2,a3,a4,a5⟩
    have e:lo=hi:=by lia
    subst e;exact#[rfl,lo,lo,rfl,a2,a4,a5]
   case tp1=>
    rintro c st' ⟨rfl,lo,hi,rfl,g⟩
    exact yAh (h hi g)
   case ts1=>
    rintro x c st' _ hxn ⟨rfl,lo,hi,rfl,a1,a2,a3,a4,a5⟩
    dsimp only
    by_cases hge:lo >= hi
    ·rw [yAS hge]
     have e:lo=hi:=by lia
     subst e;exact yAh #[rfl,lo,lo,rfl,a2,a4,a5]
    ·rw [yAT hge]
     refine yAX (m:=ZX3 left key xs base (lo+(hi-lo) / 2)) (f:=_) (ask oz ?_);dsimp only
     cases hm:bey R left key xs base (lo+(hi-lo) / 2) with
     | true=>exact yAh #[rfl,_,_,rfl,oz,a2,oz,λi hi'=>mono i _ oz oz hm,a5]
     | false=>exact yAh #[rfl,_,_,rfl,oz,oz,oz,a4,λi b1 b2=>down _ i b1 b2 hm]
   refine#[rfl,hint+l+1,hint+min o (n-hint),rfl,oz,oz,oz,λi hi=>mono i (hint+l) oz h1 h4,λi h6 h7=>?_]
   ·rcases h5 with h5|h5
    ·lia
    ·exact down (hint+o) i oz h7 h5
 | false=>
  simp only [yBP,yCR]
  refine yAX (m:=_) (f:=_) (yCL (yBd (I:=λx c st'=>st'=st/\∃ l o,c=(none,l,o)/\l<=hint/\l<o/\x+1<=o/\bey R left key xs base (hint-l)=false)
   (Q:=λc st'=>st'=st/\∃ l o,c=(none,l,o)/\l<=hint/\l<o/\bey R left key xs base (hint-l)=false/\(hint+1<=o \/ (o<=hint/\bey R left key xs base (hint-o)=true))) ?step2 ?fin2 #[rfl,0,1,rfl,oz,oz,oz,hb]) ?post2)
  case fin2=>
   rintro c st' ⟨rfl,l,o,rfl,h1,h2,h3,h4⟩
   exact#[rfl,l,o,rfl,h1,h2,h4,.inl oz]
  case step2=>
   rintro x c st' _ hxn ⟨rfl,l,o,rfl,h1,h2,h3,h4⟩
   dsimp only
   by_cases hge:o >= hint+1
   ·rw [yAS hge]
    exact yAh #[rfl,l,o,rfl,h1,h2,h4,.inl hge]
   ·rw [yAT hge]
    refine yAX (m:=ZX3 left key xs base (hint-o)) (f:=_) (ask oz ?_);dsimp only
    cases ho:bey R left key xs base (hint-o) with
    | true=>exact yAh #[rfl,l,o,rfl,h1,h2,h4,.inr #[ oz,ho]]
    | false=>exact yAh #[rfl,o,2*o+1,rfl,oz,oz,oz,ho]
  case post2=>
   rintro c st' ⟨rfl,l,o,rfl,h1,h2,h4,h5⟩
   dsimp only
   refine yAX (m:=_) (f:=_) (yCL (yBd (I:=λx c st3=>st3=st'/\∃ lo hi,c=(none,lo,hi)/\lo<=hi/\hi<=n/\hi-lo<=n-x/\(∀ i,i<lo->bey R left key xs base i=true)/\∀ i,hi<=i->i<n->bey R left key xs base i=false)
    (Q:=λc st3=>st3=st'/\∃ lo hi,c=(none,lo,hi)/\Gal R left key xs base n hi) ?ts2 ?tf2 ?ti2) ?tp2)
   case tf2=>
    rintro c st' ⟨rfl,lo,hi,rfl,a1,a2,a3,a4,a5⟩
    have e:lo=hi:=by lia
    subst e;exact#[rfl,lo,lo,rfl,a2,a4,a5]
   case tp2=>
    rintro c st' ⟨rfl,lo,hi,rfl,g⟩
    exact yAh (h hi g)
   case ts2=>
    rintro x c st' _ hxn ⟨rfl,lo,hi,rfl,a1,a2,a3,a4,a5⟩
    dsimp only
    by_cases hge:lo >= hi
    ·rw [yAS hge]
     have e:lo=hi:=by lia
     subst e;exact yAh #[rfl,lo,lo,rfl,a2,a4,a5]
    ·rw [yAT hge]
     refine yAX (m:=ZX3 left key xs base (lo+(hi-lo) / 2)) (f:=_) (ask oz ?_);dsimp only
     cases hm:bey R left key xs base (lo+(hi-lo) / 2) with
     | true=>exact yAh #[rfl,_,_,rfl,oz,a2,oz,λi hi'=>mono i _ oz oz hm,a5]
     | false=>exact yAh #[rfl,_,_,rfl,oz,oz,oz,a4,λi b1 b2=>down _ i b1 b2 hm]
   refine#[rfl,hint+1-min o (hint+1),hint-l,rfl,oz,oz,oz,λi hi=>?_,λi h6 h7=>down (hint-l) i h6 h7 h4]
   ·rcases h5 with h5|⟨h5,h6⟩
    ·lia
    ·exact mono i (hint-o) oz oz h6
end
end L2T
namespace L2T
open PySem PyProof.Rows
def Srt (R:Keyed->Keyed->Bool)(xs:Array Keyed):Prop:=∀ i j,i<=j->j<xs.size->R (at_ xs j) (at_ xs i)=false
structure Mg (R:Keyed->Keyed->Bool)(a b out:Array Keyed)(ia ib:Nat):Prop where
 la:ia<=a.size
 lb:ib<=b.size
 perm:out.toList.Perm (a.toList.take ia++b.toList.take ib)
 srt:out.toList.Pairwise λx y=>R y x=false
 ua:∀ x∈out.toList,∀ i,ia<=i->i<a.size->R (at_ a i) x=false
 ub:∀ x∈out.toList,∀ i,ib<=i->i<b.size->R (at_ b i) x=false
def ZM8 (R:Keyed->Keyed->Bool)(a b m:Array Keyed):Prop:=m.toList.Perm (a.toList++b.toList)/\m.toList.Pairwise λx y=>R y x=false
theorem at_toList {xs:Array Keyed}{i:Nat}(h:i<xs.size):xs.toList[i]?=some (at_ xs i):=by
 rw [<- zWS h];simp
def zLN {xs:Array Keyed}{i:Nat}(h:i<xs.size):xs.toList.take (i+1)=xs.toList.take i++[at_ xs i]:=by
 rw [yBG,at_toList h];rfl
def zMO {xs:Array Keyed}{i k:Nat}(h:i+k<xs.size)(out:Array Keyed):out++xs.extract i (i+(k+1))=(out++xs.extract i (i+k)).push (at_ xs (i+k)):=by
 apply yCE.mp;rw [yAy,yDC,yDC,yBT]
 congr 1
 rw [yBm,yBm,yBV,yBV];have e1:i+(k+1)-i=k+1:=by lia
 have e2:i+k-i=k:=by lia
 rw [e1,e2,yBG,yCP,at_toList h];rfl
def zG6 (xs out:Array Keyed)(i:Nat):out++xs.extract i (i+0)=out:=by
 apply yCE.mp;rw [yDC,yBm,yBV]
 simp
theorem Mg.pushA {R:Keyed->Keyed->Bool}{a b out:Array Keyed}{ia ib:Nat}(h:Mg R a b out ia ib)(sa:Srt R a)(hi:ia<a.size)(le:∀ i,ib<=i->i<b.size->R (at_ b i) (at_ a ia)=false):Mg R a b (out.push (at_ a ia)) (ia+1) ib:=by
 refine#[hi,h.lb,?_,?_,λx hx i h1 h2=>?_,λx hx i h1 h2=>?_]
 ·rw [yAy,zLN hi,yBT]
  refine (h.perm.append_right [at_ a ia]).trans ?_;rw [yBT];exact List.Perm.append_left _ yEV
 ·rw [yAy,List.pairwise_append]
  refine#[h.srt,yCa _ _,λx hx y hy=>?_];rw [yAE.mp hy];exact h.ua x hx ia (yAF _) hi
 ·rw [yAy] at hx
  rcases yAb.mp hx with hx|hx
  ·exact h.ua x hx i (by lia) h2
  ·rw [yAE.mp hx];exact sa ia i (by lia) h2
 ·rw [yAy] at hx
  rcases yAb.mp hx with hx|hx
  ·exact h.ub x hx i h1 h2
  ·rw [yAE.mp hx];exact le i h1 h2
theorem Mg.pushB {R:Keyed->Keyed->Bool}{a b out:Array Keyed}{ia ib:Nat}(h:Mg R a b out ia ib)(sb:Srt R b)(hi:ib<b.size)(le:∀ i,ia<=i->i<a.size->R (at_ a i) (at_ b ib)=false):Mg R a b (out.push (at_ b ib)) ia (ib+1):=by
 refine#[h.la,hi,?_,?_,λx hx i h1 h2=>?_,λx hx i h1 h2=>?_]
 ·rw [yAy,zLN hi,<- yBT]
  exact h.perm.append_right [at_ b ib]
 ·rw [yAy,List.pairwise_append]
  refine#[h.srt,yCa _ _,λx hx y hy=>?_];rw [yAE.mp hy];exact h.ub x hx ib (yAF _) hi
 ·rw [yAy] at hx
  rcases yAb.mp hx with hx|hx
  ·exact h.ua x hx i h1 h2
  ·rw [yAE.mp hx];exact le i h1 h2
 ·rw [yAy] at hx
  rcases yAb.mp hx with hx|hx
  ·exact h.ub x hx i (by lia) h2
  ·rw [yAE.mp hx];exact sb ib i (by lia) h2
theorem Mg.appA {R:Keyed->Keyed->Bool}{a b out:Array Keyed}{ia ib:Nat}(h:Mg R a b out ia ib)(sa:Srt R a):∀ k,ia+k<=a.size->(∀ j,j<k->∀ i,ib<=i->i<b.size->R (at_ b i) (at_ a (ia+j))=false)->Mg R a b (out++a.extract ia (ia+k)) (ia+k) ib
 | 0,_,_=>by rw [zG6];exact h
 | k+1,hk,le=>by
  rw [zMO (by lia)];exact (h.appA sa k (by lia) λj hj=>le j (by lia)).pushA sa (by lia) (le k (by lia))
theorem Mg.appB {R:Keyed->Keyed->Bool}{a b out:Array Keyed}{ia ib:Nat}(h:Mg R a b out ia ib)(sb:Srt R b):∀ k,ib+k<=b.size->(∀ j,j<k->∀ i,ia<=i->i<a.size->R (at_ a i) (at_ b (ib+j))=false)->Mg R a b (out++b.extract ib (ib+k)) ia (ib+k)
 | 0,_,_=>by rw [zG6];exact h
 | k+1,hk,le=>by
  rw [zMO (by lia)];exact (h.appB sb k (by lia) λj hj=>le j (by lia)).pushB sb (by lia) (le k (by lia))
theorem Mg.good {R:Keyed->Keyed->Bool}{a b out:Array Keyed}(h:Mg R a b out a.size b.size):ZM8 R a b out:=by
 refine#[?_,h.srt];have p:=h.perm;rw [yAs (by simp),yAs (by simp)] at p;exact p
def zZ4 (xs out:Array Keyed):out++xs.extract xs.size xs.size=out:=by
 apply yCE.mp
 simp
theorem Mg.done {R:Keyed->Keyed->Bool}{a b out:Array Keyed}{ia ib:Nat}(h:Mg R a b out ia ib)(sa:Srt R a)(e:ib=b.size):ZM8 R a b (out++a.extract ia a.size++b.extract ib b.size):=by
 subst e;rw [zZ4];have la:=h.la;have q:=h.appA sa (a.size-ia) (by lia) λj hj i h1 h2=>by lia
 rw [show ia+(a.size-ia)=a.size by lia] at q;exact q.good
theorem Mg.lastA {R:Keyed->Keyed->Bool}{a b out:Array Keyed}{ia ib:Nat}(h:Mg R a b out ia ib)(sa:Srt R a)(sb:Srt R b)(e:ia+1=a.size)(le:∀ j,j<b.size->R (at_ a (a.size-1)) (at_ b j)=false):ZM8 R a b (out++b.extract ib b.size++a.extract ia a.size):=by
 have lb:=h.lb
 have q:=h.appB sb (b.size-ib) (by lia) λj hj i h1 h2=>by
  have:i=a.size-1:=by lia
  subst this;exact le _ (by lia)
 rw [show ib+(b.size-ib)=b.size by lia] at q;have q2:=q.appA sa (a.size-ia) (by lia) λj hj i h1 h2=>by lia
 rw [show ia+(a.size-ia)=a.size by lia] at q2;exact q2.good
structure Pre (R:Keyed->Keyed->Bool)(P:Keyed->Prop)(a b:Array Keyed):Prop where
 sa:Srt R a
 sb:Srt R b
 na:1<=a.size
 nb:1<=b.size
 fst:R (at_ b 0) (at_ a 0)=true
 lst:∀ j,j<b.size->R (at_ b j) (at_ a (a.size-1))=true
 pa:∀ i,i<a.size->P (at_ a i)
 pb:∀ i,i<b.size->P (at_ b i)
abbrev zCF (st:eAj)(g:Nat):eAj:=SortSt.mk' (kindOf st) (arrOf st) (eAo st) g (failedOf st)
section
variable {prog:eAD}{w:World}{A:eAK}{E:kW}{s:Shared}{κ:SortKind}{R:Keyed->Keyed->Bool}{P:Keyed->Prop}{st:eAj}
def zGB {g:Nat}{Q:Unit->eAj->Prop}(h:Q () (zCF st g)):wpS (model prog w) A E s (ZSM g) Q st:=yDv h
theorem Pre.le {a b:Array Keyed}(O:Ord R)(hp:Pre R P a b):∀ j,j<b.size->R (at_ a (a.size-1)) (at_ b j)=false:=λj hj=>O.as _ _ (hp.lst j hj)
def zXS {left:Bool}{key:Keyed}{xs:Array Keyed}{base i:Nat}(e:left=true):bey R left key xs base i=R (at_ xs (base+i)) key:=by subst e;rfl
def zYJ {left:Bool}{key:Keyed}{xs:Array Keyed}{base i:Nat}(e:left=false):bey R left key xs base i=!R key (at_ xs (base+i)):=by subst e;rfl
def zE1 {left:Bool}{key:Keyed}{xs:Array Keyed}{base n:Nat}(O:Ord R)(so:∀ i j,i<=j->j<n->R (at_ xs (base+j)) (at_ xs (base+i))=false):∀ i j,i<=j->j<n->bey R left key xs base j=true->bey R left key xs base i=true:=λi j hij hj e=>by
 have so:=so i j hij hj
 cases left with
 | true=>
  rw [zXS rfl] at e ⊢
  cases z:R (at_ xs (base+i)) key with
  | true=>rfl
  | false=>rw [O.tr _ _ _ z so] at e;cases e
 | false=>
  rw [zYJ rfl] at e ⊢;rw [yBE] at e ⊢;exact O.tr _ _ _ so e
theorem Gal.loF {key:Keyed}{xs:Array Keyed}{base n k i:Nat}(g:Gal R false key xs base n k)(h:i<k):R key (at_ xs (base+i))=false:=by
 have:=g.lo i h
 rwa [zYJ rfl,yBE] at this
theorem Gal.hiF {key:Keyed}{xs:Array Keyed}{base n k i:Nat}(g:Gal R false key xs base n k)(h:k<=i)(h':i<n):R key (at_ xs (base+i))=true:=by
 have:=g.hi i h h'
 rwa [zYJ rfl,Bool.not_eq_false'] at this
theorem Gal.loT {key:Keyed}{xs:Array Keyed}{base n k i:Nat}(g:Gal R true key xs base n k)(h:i<k):R (at_ xs (base+i)) key=true:=by
 have:=g.lo i h
 rwa [zXS rfl] at this
theorem Gal.hiT {key:Keyed}{xs:Array Keyed}{base n k i:Nat}(g:Gal R true key xs base n k)(h:k<=i)(h':i<n):R (at_ xs (base+i)) key=false:=by
 have:=g.hi i h h'
 rwa [zXS rfl] at this
def zM4 {a b:Array Keyed}{Q:Array Keyed->eAj->Prop}(O:Ord R)(C:Cmp prog w A s κ R P)(hk:kindOf st=κ)(hp:Pre R P a b)(h:∀ m g,ZM8 R a b m->Q m (zCF st g)):wpS (model prog w) A E s (ZNO a b) Q st:=by
 have na:=hp.na;have nb:=hp.nb;have les:=hp.le O;refine yAX (m:=_) (f:=_) (wpS_lift (yDD #[rfl,?_]));dsimp only;refine yAX (m:=elem' b 0) (f:=_) (zAH (by lia) ?_)
 have M0:Mg R a b #[at_ b 0] 0 1:=by
  refine#[yBN _,nb,?_,yCa _ _,λx hx i h1 h2=>?_,λx hx i h1 h2=>?_]
  ·rw [zLN (by lia:0<b.size)];exact eAp _
  ·rw [yAE.mp hx]
   exact O.tr _ (at_ a 0) _ (O.as _ _ hp.fst) (hp.sa 0 i (yBN _) h2)
  ·rw [yAE.mp hx]
   exact hp.sb 0 i (yBN _) h2
 refine zAR (λc1=>yAh (h _ (gallopOf st) (M0.done hp.sa (yAm.mp c1)))) (λc1=>?_);refine zAR (λc2=>yAh (h _ (gallopOf st) (M0.lastA hp.sa hp.sb (yAm.mp c2) les))) (λc2=>?_);have c1':1≠b.size:=λz=>c1 (yAm.mpr z);have c2':0+1≠a.size:=λz=>c2 (yAm.mpr z);refine yAX (m:=_) (f:=_) (yEE ?_)
 refine yAX (m:=_) (f:=_) (yCL (yBd (I:=λx c st'=>(∃ g,st'=zCF st g)/\∃ out ia ib mg,c=(none,out,ia,ib,mg)/\Mg R a b out ia ib/\ia+1<a.size/\ib<b.size/\x+1<=ia+ib)
  (Q:=λc st'=>(∃ g,st'=zCF st g)/\∃ m r,c=(some m,r)/\ZM8 R a b m) ?step ?fin #[#[gallopOf st,rfl],_,_,_,_,rfl,M0,by lia,by lia,by lia]) ?post)
 case fin=>
  rintro c st' ⟨_,out,ia,ib,mg,_,_,h1,h2,h3⟩
  exfalso;lia
 case post=>
  rintro c st' ⟨⟨g,rfl⟩,m,r,rfl,hG⟩
  exact yAh (h m g hG)
 case step=>
  intro x c st' h8 hx;clear h8;revert c st';apply zaI
  case use=>
   rintro T key c st' ⟨⟨g,rfl⟩,out,ia,ib,mg,rfl,M,ha,hb,hxi⟩
   revert g out ia ib mg M ha hb hxi;exact key.k
  intro g out ia ib mg M ha hb hxi;dsimp only
  refine yAX (m:=_) (f:=_) (yCL (yBd (I:=λy c st'=>(∃ g,st'=zCF st g)/\∃ out' ia' ib' ac bc,c=(none,out',ia',ib',ac,bc)/\Mg R a b out' ia' ib'/\ia'+1<a.size/\ib'<b.size/\ia+ib+y<=ia'+ib')
   (Q:=λc st'=>(∃ g,st'=zCF st g)/\((∃ m r,c=(some m,r)/\ZM8 R a b m) \/ ∃ out' ia' ib' ac bc,c=(none,out',ia',ib',ac,bc)/\Mg R a b out' ia' ib'/\ia'+1<a.size/\ib'<b.size/\ia+ib+1<=ia'+ib')) ?s1 ?f1 #[#[g,rfl],_,_,_,_,_,rfl,M,ha,hb,by lia]) ?p1)
  case f1=>
   rintro c st' ⟨_,out',ia',ib',ac,bc,_,_,h1,h2,h3⟩
   exfalso;lia
  case s1=>
   intro y c st' h8 hy;clear h8;revert c st';apply zaI
   case use=>
    rintro T key c st' ⟨⟨g,rfl⟩,out,ia',ib',ac,bc,rfl,M,ha,hb,hxi⟩
    revert g out ia' ib' ac bc M ha hb hxi;exact key.k
   intro g out ia' ib' ac bc M ha hb hxi;dsimp only;refine yAX (m:=elem' b ib') (f:=_) (zAH (by lia) ?_);refine yAX (m:=elem' a ia') (f:=_) (zAH (by lia) ?_);refine yAX (m:=lt' (at_ b ib') (at_ a ia')) (f:=_) (zJT C hk (hp.pb _ (by lia)) (hp.pa _ (by lia)) ?_);dsimp only
   cases hR:R (at_ b ib') (at_ a ia') with
   | true=>
    simp only [yDs];refine yAX (m:=elem' b ib') (f:=_) (zAH (by lia) ?_);have M':=M.pushB hp.sb hb λi h1 h2=>O.tr _ (at_ a ia') _ (O.as _ _ hR) (hp.sa ia' i h1 h2);refine zAR (λd1=>yAh #[#[g,rfl],.inl #[_,_,rfl,M'.done hp.sa (yAm.mp d1)]]) (λd1=>?_);have d1':ib'+1≠b.size:=λz=>d1 (yAm.mpr z);exact zAR (λd2=>yAh #[#[g,rfl],.inr #[_,_,_,_,_,rfl,M',ha,by lia,by lia]]) (λd2=>yAh #[#[g,rfl],_,_,_,_,_,rfl,M',ha,by lia,by lia])
   | false=>
    simp only [yBP,yCR];refine yAX (m:=elem' a ia') (f:=_) (zAH (by lia) ?_);have M':=M.pushA hp.sa (by lia) λi h1 h2=>O.tr _ (at_ b ib') _ hR (hp.sb ib' i h1 h2);refine zAR (λd1=>yAh #[#[g,rfl],.inl #[_,_,rfl,M'.lastA hp.sa hp.sb (yAm.mp d1) les]]) (λd1=>?_);have d1':ia'+1+1≠a.size:=λz=>d1 (yAm.mpr z);exact zAR (λd2=>yAh #[#[g,rfl],.inr #[_,_,_,_,_,rfl,M',by lia,hb,by lia]]) (λd2=>yAh #[#[g,rfl],_,_,_,_,_,rfl,M',by lia,hb,by lia])
  case p1=>
   apply zd2
   case use=>
    rintro T key key2 c st' ⟨⟨g,rfl⟩,⟨m,r,rfl,hG⟩|⟨out1,ia1,ib1,ac,bc,rfl,M1,ha1,hb1,hx1⟩⟩
    ·revert g m r hG
     exact key.k
    ·revert g out1 ia1 ib1 ac bc M1 ha1 hb1 hx1
     exact key2.k
   ·intro g m r hG
    exact yAh #[#[g,rfl],m,_,rfl,hG]
   ·intro g out1 ia1 ib1 ac bc M1 ha1 hb1 hx1
    dsimp only;refine yAX (m:=_) (f:=_) (wpS_lift (yDD #[rfl,?_]))
    refine yAX (m:=_) (f:=_) (yCL (yBd (I:=λy c st'=>(∃ g,st'=zCF st g)/\∃ out' ia' ib' mg' ac bc,c=(none,out',ia',ib',mg',ac,bc)/\Mg R a b out' ia' ib'/\ia'+1<a.size/\ib'<b.size/\ia+ib+1+y<=ia'+ib')
     (Q:=λc st'=>(∃ g,st'=zCF st g)/\((∃ m r,c=(some m,r)/\ZM8 R a b m) \/ ∃ out' ia' ib' mg' ac bc,c=(none,out',ia',ib',mg',ac,bc)/\Mg R a b out' ia' ib'/\ia'+1<a.size/\ib'<b.size/\ia+ib+1<=ia'+ib')) ?s2 ?f2 #[#[g,rfl],_,_,_,_,_,_,rfl,M1,ha1,hb1,by lia]) ?p2)
    case f2=>
     rintro c st' ⟨_,out',ia',ib',mg',ac,bc,_,_,h1,h2,h3⟩
     exfalso;lia
    case p2=>
     apply zd2
     case use=>
      rintro T key key2 c st' ⟨⟨g,rfl⟩,⟨m,r,rfl,hG⟩|⟨out2,ia2,ib2,mg2,ac2,bc2,rfl,M2,ha2,hb2,hx2⟩⟩
      ·revert g m r hG
       exact key.k
      ·revert g out2 ia2 ib2 mg2 ac2 bc2 M2 ha2 hb2 hx2
       exact key2.k
     ·intro g m r hG
      exact yAh #[#[g,rfl],m,_,rfl,hG]
     ·intro g out2 ia2 ib2 mg2 ac2 bc2 M2 ha2 hb2 hx2
      dsimp only;refine yAX (m:=ZSM _) (f:=_) (zGB (yAh #[#[_,rfl],_,_,_,_,rfl,M2,ha2,hb2,by lia]))
    case s2=>
     intro y c st' h8 hy;clear h8;revert c st';apply zaI
     case use=>
      rintro T key c st' ⟨⟨g,rfl⟩,out,i,j,mg',ac',bc',rfl,M,ha,hb,hxi⟩
      revert g out i j mg' ac' bc' M ha hb hxi;exact key.k
     intro g out i j mg' ac' bc' M ha hb hxi;dsimp only;apply share
     case use=>
      intro key
      by_cases hm:mg' > 1
      ·rw [yAS hm]
       generalize mg'-1=mm;revert mm;exact key.k
      ·rw [yAT hm]
       clear hm;generalize mg'=mm;revert mm;exact key.k
     intro mm;refine yAX (m:=ZSM mm) (f:=_) (zGB ?_);refine yAX (m:=elem' b j) (f:=_) (zAH (by lia) ?_);refine yAX (m:=ZEH false (at_ b j) a i (a.size-i) 0) (f:=_) (zCC C hk (hp.pb j hb) (λu hu=>#[by lia,hp.pa _ (by lia)]) (zE1 O λu v huv hv=>hp.sa _ _ (by lia) (by lia)) (by lia) λk G1=>?_);dsimp only;apply share
     case use=>
      intro key
      have kn:k<a.size-i:=by
       rcases yBn k (a.size-i) with z|z
       ·exact z
       ·have q:=G1.loF (i:=a.size-i-1) (by lia)
        rw [show i+(a.size-i-1)=a.size-1 by lia,hp.lst j hb] at q
        cases q
      have MM:=M.appA hp.sa k (by lia) λu hu v h1 h2=>O.tr _ (at_ b j) _ (G1.loF hu) (hp.sb j v h1 h2)
      have uu:∀ v,i+k<=v->v<a.size->R (at_ b j) (at_ a v)=true:=λv h1 h2=>by
       have q:=G1.hiF (i:=v-i) (Nat.le_sub_of_add_le' h1) (Nat.sub_lt_sub_right (yAp (yEL _ _) h1) h2)
       rwa [Nat.add_sub_of_le (yAp (yEL _ _) h1)] at q
      have lim:i+k<a.size:=by lia
      have far:i<=i+k:=by lia
      rcases yCM k with k0|k0
      case inr=>
       rw [yAS k0];refine zAR (λe1=>yAh #[#[_,rfl],.inl #[_,_,rfl,MM.lastA hp.sa hp.sb (yAm.mp e1) les]]) (λe1=>?_);have nz:i+k+1≠a.size:=λz=>e1 (yAm.mpr z);rw [yAT (λz=>by have:=yAm.mp z;lia)];clear e1;generalize out++a.extract i (i+k)=out2 at MM ⊢;generalize i+k=i2 at far MM uu lim nz ⊢;revert far;revert nz;revert lim;revert uu;revert MM;revert i2;revert out2;exact key.k
      case inl=>
       subst k0;rw [yAT (yBk 0)];rw [zG6] at MM;simp only [yEU] at MM uu lim;exact key.k out i MM uu lim (by lia) (yAF _)
     clear G1 M;intro out2 i2 MM uu lim nz far;refine yAX (m:=elem' b j) (f:=_) (zAH (by lia) ?_);have M2:=MM.pushB hp.sb hb λv h1 h2=>O.as _ _ (uu v h1 h2);refine zAR (λd1=>yAh #[#[_,rfl],.inl #[_,_,rfl,M2.done hp.sa (yAm.mp d1)]]) (λd1=>?_);have d1':j+1≠b.size:=λz=>d1 (yAm.mpr z);refine yAX (m:=elem' a i2) (f:=_) (zAH (by lia) ?_);refine yAX (m:=ZEH true (at_ a i2) b (j+1) (b.size-(j+1)) 0) (f:=_) (zCC C hk (hp.pa i2 lim) (λu hu=>#[by lia,hp.pb _ (by lia)]) (zE1 O λu v huv hv=>hp.sb _ _ (by lia) (by lia)) (by lia) λk2 G2=>?_);dsimp only;apply share
     case use=>
      intro key;have g2:=G2.le;have M3:=M2.appB hp.sb k2 (by lia) λu hu v h1 h2=>O.tr _ (at_ a i2) _ (O.as _ _ (G2.loT hu)) (hp.sa i2 v h1 h2)
      have lo2:∀ v,j+1+k2<=v->v<b.size->R (at_ b v) (at_ a i2)=false:=λv h1 h2=>by
       have q:=G2.hiT (i:=v-(j+1)) (Nat.le_sub_of_add_le' h1) (Nat.sub_lt_sub_right (yAp (yEL _ _) h1) h2)
       rwa [show j+1+(v-(j+1))=v by lia] at q
      have fb:j+1<=j+1+k2:=by lia
      rcases yCM k2 with k0'|k0'
      case inr=>
       rw [yAS k0'];refine zAR (λe2=>yAh #[#[_,rfl],.inl #[_,_,rfl,M3.done hp.sa (yAm.mp e2)]]) (λe2=>?_);have bz:j+1+k2≠b.size:=λz=>e2 (yAm.mpr z);clear e2;generalize out2.push (at_ b j)++b.extract (j+1) (j+1+k2)=out3 at M3 ⊢;generalize j+1+k2=j3 at M3 lo2 bz fb ⊢;revert fb;revert bz;revert lo2;revert M3;revert j3;revert out3;exact key.k
      case inl=>
       subst k0';rw [yAT (yBk 0)];rw [zG6] at M3;simp only [yEU] at M3 lo2;exact key.k _ _ M3 lo2 d1' (yAF _)
     clear G2;intro out3 j3 M3 lo2 bz fb;have lb3:=M3.lb;refine yAX (m:=elem' a i2) (f:=_) (zAH lim ?_);have M4:=M3.pushA hp.sa lim lo2;refine zAR (λd3=>yAh #[#[_,rfl],.inl #[_,_,rfl,M4.lastA hp.sa hp.sb (yAm.mp d3) les]]) (λd3=>?_);have d3':i2+1+1≠a.size:=λz=>d3 (yAm.mpr z);exact zAR (λ_=>yAh #[#[_,rfl],.inr #[_,_,_,_,_,_,rfl,M4,by lia,by lia,by lia]]) (λ_=>yAh #[#[_,rfl],_,_,_,_,_,_,rfl,M4,by lia,by lia,by lia])
end
end L2T
namespace L2T
open PySem PyProof.Rows
structure Hg (R:Keyed->Keyed->Bool)(a b out:Array Keyed)(na nb:Nat):Prop where
 la:na<=a.size
 lb:nb<=b.size
 perm:out.toList.Perm (a.toList.drop na++b.toList.drop nb)
 srt:out.toList.reverse.Pairwise λx y=>R y x=false
 ua:∀ x∈out.toList,∀ i,i<na->R x (at_ a i)=false
 ub:∀ x∈out.toList,∀ i,i<nb->R x (at_ b i)=false
def zJ7 {xs:Array Keyed}{i:Nat}(h:i<xs.size):xs.toList.drop i=at_ xs i::xs.toList.drop (i+1):=by
 have h':i<xs.toList.length:=by simpa using h
 rw [yAz h']
 congr 1
 have:=at_toList h
 rw [yAB h'] at this;exact eAH this
theorem Hg.pushA {R:Keyed->Keyed->Bool}{a b out:Array Keyed}{na nb:Nat}(h:Hg R a b out (na+1) nb)(sa:Srt R a)(le:∀ i,i<nb->R (at_ a na) (at_ b i)=false):Hg R a b (out.push (at_ a na)) na nb:=by
 have hi:na<a.size:=h.la;refine#[ oz,h.lb,?_,?_,λx hx i h1=>?_,λx hx i h1=>?_]
 ·rw [yAy,zJ7 hi,List.cons_append]
  exact (yEV (l₁:=out.toList)).trans (h.perm.cons _)
 ·rw [yAy,List.reverse_append]
  refine yDH.mpr #[λy hy=>?_,h.srt];exact h.ua y (List.mem_reverse.mp hy) na oz
 ·rw [yAy] at hx
  rcases yAb.mp hx with hx|hx
  ·exact h.ua x hx i oz
  ·rw [yAE.mp hx];exact sa i na oz hi
 ·rw [yAy] at hx
  rcases yAb.mp hx with hx|hx
  ·exact h.ub x hx i h1
  ·rw [yAE.mp hx];exact le i h1
theorem Hg.pushB {R:Keyed->Keyed->Bool}{a b out:Array Keyed}{na nb:Nat}(h:Hg R a b out na (nb+1))(sb:Srt R b)(le:∀ i,i<na->R (at_ b nb) (at_ a i)=false):Hg R a b (out.push (at_ b nb)) na nb:=by
 have hi:nb<b.size:=h.lb;refine#[h.la,oz,?_,?_,λx hx i h1=>?_,λx hx i h1=>?_]
 ·rw [yAy,zJ7 hi]
  refine (yEV (l₁:=out.toList)).trans ?_;exact (h.perm.cons _).trans List.perm_middle.symm
 ·rw [yAy,List.reverse_append]
  refine yDH.mpr #[λy hy=>?_,h.srt];exact h.ub y (List.mem_reverse.mp hy) nb oz
 ·rw [yAy] at hx
  rcases yAb.mp hx with hx|hx
  ·exact h.ua x hx i h1
  ·rw [yAE.mp hx];exact le i h1
 ·rw [yAy] at hx
  rcases yAb.mp hx with hx|hx
  ·exact h.ub x hx i oz
  ·rw [yAE.mp hx];exact sb i nb oz hi
def zMR {xs:Array Keyed}{k n:Nat}(h:k<n)(hn:n<=xs.size)(out:Array Keyed):out++(xs.extract k n).reverse=(out++(xs.extract (k+1) n).reverse).push (at_ xs k):=by
 apply yCE.mp;rw [yAy,yDC,yDC,yDY,yDY,yBT]
 congr 1
 rw [yBm,yBm,yBV,yBV,zJ7 oz];rw [show n-k=(n-(k+1))+1 by lia,List.take_succ_cons,List.reverse_cons]
def zGE (xs out:Array Keyed)(n:Nat):out++(xs.extract n n).reverse=out:=by
 apply yCE.mp
 simp
theorem Hg.appA {R:Keyed->Keyed->Bool}{a b out:Array Keyed}{na nb:Nat}(h:Hg R a b out na nb)(sa:Srt R a):∀ d,d<=na->(∀ j,na-d<=j->j<na->∀ i,i<nb->R (at_ a j) (at_ b i)=false)->Hg R a b (out++(a.extract (na-d) na).reverse) (na-d) nb
 | 0,_,_=>by rw [Nat.sub_zero,zGE];exact h
 | d+1,hd,le=>by
  have la:=h.la;have e:na-(d+1)+1=na-d:=by lia
  rw [zMR oz h.la,e];refine Hg.pushA ?_ sa (le _ oz oz);rw [e];exact h.appA sa d oz λj h1 h2=>le j oz h2
theorem Hg.appB {R:Keyed->Keyed->Bool}{a b out:Array Keyed}{na nb:Nat}(h:Hg R a b out na nb)(sb:Srt R b):∀ d,d<=nb->(∀ j,nb-d<=j->j<nb->∀ i,i<na->R (at_ b j) (at_ a i)=false)->Hg R a b (out++(b.extract (nb-d) nb).reverse) na (nb-d)
 | 0,_,_=>by rw [Nat.sub_zero,zGE];exact h
 | d+1,hd,le=>by
  have lb:=h.lb;have e:nb-(d+1)+1=nb-d:=by lia
  rw [zMR oz h.lb,e];refine Hg.pushB ?_ sb (le _ oz oz);rw [e];exact h.appB sb d oz λj h1 h2=>le j oz h2
theorem Hg.good {R:Keyed->Keyed->Bool}{a b out:Array Keyed}(h:Hg R a b out 0 0):ZM8 R a b out.reverse:=by
 refine#[?_,by rw [yDY];exact h.srt];rw [yDY];exact (List.reverse_perm _).trans h.perm
def zLJ (xs out:Array Keyed)(n:Nat):(out++(xs.extract 0 n).reverse).reverse=xs.extract 0 n++out.reverse:=by
 apply yCE.mp
 simp [List.reverse_append]
def zUI (xs:Array Keyed)(out:Array Keyed):xs.extract 0 0++out=out:=by
 apply yCE.mp
 simp
theorem Hg.done {R:Keyed->Keyed->Bool}{a b out:Array Keyed}{na nb:Nat}(h:Hg R a b out na nb)(sb:Srt R b)(e:na=0):ZM8 R a b (a.extract 0 na++b.extract 0 nb++out.reverse):=by
 subst e;have q:=h.appB sb nb (yAF _) λj h1 h2 i h3=>absurd h3 (Nat.not_lt_zero i);rw [yCn] at q;have g:=q.good;rw [zLJ] at g
 rwa [zUI]
theorem Hg.firstB {R:Keyed->Keyed->Bool}{a b out:Array Keyed}{na nb:Nat}(h:Hg R a b out na nb)(sa:Srt R a)(sb:Srt R b)(e:nb=1)(le:∀ i,i<na->R (at_ a i) (at_ b 0)=false):ZM8 R a b (b.extract 0 nb++a.extract 0 na++out.reverse):=by
 subst e
 have q:=h.appA sa na (yAF _) λj h1 h2 i h3=>by
  have:i=0:=by lia
  subst this;exact le j h2
 rw [yCn] at q;have q2:=q.appB sb 1 (yAF _) λj h1 h2 i h3=>absurd h3 (Nat.not_lt_zero i);rw [yCn] at q2;have g:=q2.good;rw [zLJ,zLJ] at g
 rwa [Array.append_assoc]
end L2T
namespace L2T
open PySem PyProof.Rows
section
variable {prog:eAD}{w:World}{A:eAK}{E:kW}{s:Shared}{κ:SortKind}{R:Keyed->Keyed->Bool}{P:Keyed->Prop}{st:eAj}
theorem Hg.popA {a b out:Array Keyed}{na nb:Nat}(h:Hg R a b out na nb)(sa:Srt R a)(h1:1<=na)(le:∀ i,i<nb->R (at_ a (na-1)) (at_ b i)=false):Hg R a b (out.push (at_ a (na-1))) (na-1) nb:=by
 refine Hg.pushA ?_ sa le;rw [show na-1+1=na by lia];exact h
theorem Hg.popB {a b out:Array Keyed}{na nb:Nat}(h:Hg R a b out na nb)(sb:Srt R b)(h1:1<=nb)(le:∀ i,i<na->R (at_ b (nb-1)) (at_ a i)=false):Hg R a b (out.push (at_ b (nb-1))) na (nb-1):=by
 refine Hg.pushB ?_ sb le;rw [show nb-1+1=nb by lia];exact h
def zL2 {a b:Array Keyed}{Q:Array Keyed->eAj->Prop}(O:Ord R)(C:Cmp prog w A s κ R P)(hk:kindOf st=κ)(hp:Pre R P a b)(h:∀ m g,ZM8 R a b m->Q m (zCF st g)):wpS (model prog w) A E s (ZNE a b) Q st:=by
 have pa1:=hp.na;have pb1:=hp.nb;have les:=hp.le O;have fb:∀ i,i<a.size->R (at_ a i) (at_ b 0)=false:=λi hi=>O.tr _ (at_ a 0) _ (O.as _ _ hp.fst) (hp.sa 0 i (yBN _) hi)
 have tb:∀ i,i<a.size->R (at_ b 0) (at_ a i)=true:=λi hi=>by
  cases z:R (at_ b 0) (at_ a i) with
  | true=>rfl
  | false=>
   have q:=hp.fst;rw [O.tr _ (at_ a i) _ (hp.sa 0 i (yBN _) hi) z] at q
   cases q
 refine yAX (m:=_) (f:=_) (wpS_lift (yDD #[rfl,?_]));dsimp only;refine yAX (m:=elem' a (a.size-1)) (f:=_) (zAH (by lia) ?_)
 have M0:Hg R a b #[at_ a (a.size-1)] (a.size-1) b.size:=by
  refine#[by lia,yAF _,?_,yCa _ _,λx hx i h1=>?_,λx hx i h1=>?_]
  ·rw [zJ7 (by lia:a.size-1<a.size),yCI (by simp;lia),yCI (by simp)]
   exact eAp _
  ·rw [yAE.mp hx]
   exact hp.sa i _ (by lia) (by lia)
  ·rw [yAE.mp hx]
   exact les i h1
 refine zAR (λc1=>yAh (h _ (gallopOf st) (M0.done hp.sb (yAm.mp c1)))) (λc1=>?_);refine zAR (λc2=>yAh (h _ (gallopOf st) (M0.firstB hp.sa hp.sb (yAm.mp c2) λi hi=>fb i (by lia)))) (λc2=>?_);have c1':a.size-1≠0:=λz=>c1 (yAm.mpr z);have c2':b.size≠1:=λz=>c2 (yAm.mpr z);refine yAX (m:=_) (f:=_) (yEE ?_)
 refine yAX (m:=_) (f:=_) (yCL (yBd (I:=λx c st'=>(∃ g,st'=zCF st g)/\∃ na nb out mg,c=(none,na,nb,out,mg)/\Hg R a b out na nb/\1<=na/\2<=nb/\na<=a.size/\nb<=b.size/\x+na+nb+1<=a.size+b.size)
  (Q:=λc st'=>(∃ g,st'=zCF st g)/\∃ m r,c=(some m,r)/\ZM8 R a b m) ?step ?fin #[#[gallopOf st,rfl],_,_,_,_,rfl,M0,by lia,by lia,by lia,by lia,by lia]) ?post)
 case fin=>
  rintro c st' ⟨_,na,nb,out,mg,_,_,h1,h2,h3,h4,h5⟩
  exfalso;lia
 case post=>
  rintro c st' ⟨⟨g,rfl⟩,m,r,rfl,hG⟩
  exact yAh (h m g hG)
 case step=>
  intro x c st' h8 hx;clear h8;revert c st';apply zaI
  case use=>
   rintro T key c st' ⟨⟨g,rfl⟩,na,nb,out,mg,rfl,M,ha,hb,za,zb,hxi⟩
   revert g na nb out mg M ha hb za zb hxi;exact key.k
  intro g na nb out mg M ha hb za zb hxi;dsimp only
  refine yAX (m:=_) (f:=_) (yCL (yBd (I:=λy c st'=>(∃ g,st'=zCF st g)/\∃ na' nb' out' ac bc,c=(none,na',nb',out',ac,bc)/\Hg R a b out' na' nb'/\1<=na'/\2<=nb'/\na'<=a.size/\nb'<=b.size/\y+na'+nb'<=na+nb)
   (Q:=λc st'=>(∃ g,st'=zCF st g)/\((∃ m r,c=(some m,r)/\ZM8 R a b m) \/ ∃ na' nb' out' ac bc,c=(none,na',nb',out',ac,bc)/\Hg R a b out' na' nb'/\1<=na'/\2<=nb'/\na'<=a.size/\nb'<=b.size/\na'+nb'+1<=na+nb)) ?s1 ?f1 #[#[g,rfl],_,_,_,_,_,rfl,M,ha,hb,za,zb,by lia]) ?p1)
  case f1=>
   rintro c st' ⟨_,na',nb',out',ac,bc,_,_,h1,h2,h3,h4,h5⟩
   exfalso;lia
  case s1=>
   intro y c st' h8 hy;clear h8;revert c st';apply zaI
   case use=>
    rintro T key c st' ⟨⟨g,rfl⟩,i,j,out,ac,bc,rfl,M,ha,hb,za,zb,hxi⟩
    revert g i j out ac bc M ha hb za zb hxi;exact key.k
   intro g i j out ac bc M ha hb za zb hxi;dsimp only;refine yAX (m:=elem' b (j-1)) (f:=_) (zAH (by lia) ?_);refine yAX (m:=elem' a (i-1)) (f:=_) (zAH (by lia) ?_);refine yAX (m:=lt' (at_ b (j-1)) (at_ a (i-1))) (f:=_) (zJT C hk (hp.pb _ (by lia)) (hp.pa _ (by lia)) ?_);dsimp only
   cases hR:R (at_ b (j-1)) (at_ a (i-1)) with
   | true=>
    simp only [yDs];refine yAX (m:=elem' a (i-1)) (f:=_) (zAH (by lia) ?_);have M':=M.popA hp.sa ha λu hu=>O.tr _ (at_ b (j-1)) _ (hp.sb u _ (by lia) (by lia)) (O.as _ _ hR);refine zAR (λd1=>yAh #[#[g,rfl],.inl #[_,_,rfl,M'.done hp.sb (yAm.mp d1)]]) (λd1=>?_);have d1':i-1≠0:=λz=>d1 (yAm.mpr z);exact zAR (λd2=>yAh #[#[g,rfl],.inr #[_,_,_,_,_,rfl,M',by lia,by lia,by lia,by lia,by lia]]) (λd2=>yAh #[#[g,rfl],_,_,_,_,_,rfl,M',by lia,by lia,by lia,by lia,by lia])
   | false=>
    simp only [yBP,yCR];refine yAX (m:=elem' b (j-1)) (f:=_) (zAH (by lia) ?_);have M':=M.popB hp.sb (by lia) λu hu=>O.tr _ (at_ a (i-1)) _ (hp.sa u _ (by lia) (by lia)) hR;refine zAR (λd1=>yAh #[#[g,rfl],.inl #[_,_,rfl,M'.firstB hp.sa hp.sb (yAm.mp d1) λu hu=>fb u (by lia)]]) (λd1=>?_);have d1':j-1≠1:=λz=>d1 (yAm.mpr z);exact zAR (λd2=>yAh #[#[g,rfl],.inr #[_,_,_,_,_,rfl,M',by lia,by lia,by lia,by lia,by lia]]) (λd2=>yAh #[#[g,rfl],_,_,_,_,_,rfl,M',by lia,by lia,by lia,by lia,by lia])
  case p1=>
   apply zd2
   case use=>
    rintro T key key2 c st' ⟨⟨g,rfl⟩,⟨m,r,rfl,hG⟩|⟨na1,nb1,out1,ac,bc,rfl,M1,ha1,hb1,za1,zb1,hx1⟩⟩
    ·revert g m r hG
     exact key.k
    ·revert g na1 nb1 out1 ac bc M1 ha1 hb1 za1 zb1 hx1
     exact key2.k
   ·intro g m r hG
    exact yAh #[#[g,rfl],m,_,rfl,hG]
   ·intro g na1 nb1 out1 ac bc M1 ha1 hb1 za1 zb1 hx1
    dsimp only;refine yAX (m:=_) (f:=_) (wpS_lift (yDD #[rfl,?_]))
    refine yAX (m:=_) (f:=_) (yCL (yBd (I:=λy c st'=>(∃ g,st'=zCF st g)/\∃ na' nb' out' mg' ac bc,c=(none,na',nb',out',mg',ac,bc)/\Hg R a b out' na' nb'/\1<=na'/\2<=nb'/\na'<=a.size/\nb'<=b.size/\y+na'+nb'+1<=na+nb)
     (Q:=λc st'=>(∃ g,st'=zCF st g)/\((∃ m r,c=(some m,r)/\ZM8 R a b m) \/ ∃ na' nb' out' mg' ac bc,c=(none,na',nb',out',mg',ac,bc)/\Hg R a b out' na' nb'/\1<=na'/\2<=nb'/\na'<=a.size/\nb'<=b.size/\na'+nb'+1<=na+nb)) ?s2 ?f2 #[#[g,rfl],_,_,_,_,_,_,rfl,M1,ha1,hb1,za1,zb1,by lia]) ?p2)
    case f2=>
     rintro c st' ⟨_,na',nb',out',mg',ac,bc,_,_,h1,h2,h3,h4,h5⟩
     exfalso;lia
    case p2=>
     apply zd2
     case use=>
      rintro T key key2 c st' ⟨⟨g,rfl⟩,⟨m,r,rfl,hG⟩|⟨na2,nb2,out2,mg2,ac2,bc2,rfl,M2,ha2,hb2,za2,zb2,hx2⟩⟩
      ·revert g m r hG
       exact key.k
      ·revert g na2 nb2 out2 mg2 ac2 bc2 M2 ha2 hb2 za2 zb2 hx2
       exact key2.k
     ·intro g m r hG
      exact yAh #[#[g,rfl],m,_,rfl,hG]
     ·intro g na2 nb2 out2 mg2 ac2 bc2 M2 ha2 hb2 za2 zb2 hx2
      dsimp only;refine yAX (m:=ZSM _) (f:=_) (zGB (yAh #[#[_,rfl],_,_,_,_,rfl,M2,ha2,hb2,za2,zb2,by lia]))
    case s2=>
     intro y c st' h8 hy;clear h8;revert c st';apply zaI
     case use=>
      rintro T key c st' ⟨⟨g,rfl⟩,i,j,out,mg',ac',bc',rfl,M,ha,hb,za,zb,hxi⟩
      revert g i j out mg' ac' bc' M ha hb za zb hxi;exact key.k
     intro g i j out mg' ac' bc' M ha hb za zb hxi;dsimp only;apply share
     case use=>
      intro key
      by_cases hm:mg' > 1
      ·rw [yAS hm]
       generalize mg'-1=mm;revert mm;exact key.k
      ·rw [yAT hm]
       clear hm;generalize mg'=mm;revert mm;exact key.k
     intro mm;refine yAX (m:=ZSM mm) (f:=_) (zGB ?_);refine yAX (m:=elem' b (j-1)) (f:=_) (zAH (by lia) ?_);refine yAX (m:=ZEH false (at_ b (j-1)) a 0 i (i-1)) (f:=_) (zCC C hk (hp.pb _ (by lia)) (λu hu=>#[by lia,hp.pa _ (by lia)]) (zE1 O λu v huv hv=>hp.sa _ _ (by lia) (by lia)) (by lia) λk G1=>?_);dsimp only;apply share
     case use=>
      intro key;have kn:=G1.le
      have lo1:∀ u,u<k->R (at_ b (j-1)) (at_ a u)=false:=λu hu=>by
       have q:=G1.loF hu
       rwa [yDm] at q
      have hi1:∀ u,k<=u->u<i->R (at_ b (j-1)) (at_ a u)=true:=λu h1 h2=>by
       have q:=G1.hiF h1 h2
       rwa [yDm] at q
      have MM:=M.appA hp.sa (i-k) (Nat.sub_le _ _) λu h1 h2 v hv=>O.tr _ (at_ b (j-1)) _ (hp.sb v _ (by lia) (by lia)) (O.as _ _ (hi1 u (by rwa [yDV kn] at h1) h2));rw [yDV kn] at MM;have lim:k<=a.size:=by lia
      rcases yCM (i-k) with k0|k0
      case inr=>
       rw [yAS k0];refine zAR (λe1=>yAh #[#[_,rfl],.inl #[_,_,rfl,MM.done hp.sb (yAm.mp e1)]]) (λe1=>?_);have nz':k≠0:=λz=>e1 (yAm.mpr z);have nz:1<=k:=by lia
       clear e1 nz';generalize hn:i-k=n;generalize out++(a.extract k i).reverse=out2 at MM ⊢;clear hn k0 hi1;have kn2:k<=i:=kn;clear kn;generalize k=i2 at MM lo1 lim nz kn2 ⊢;revert kn2;revert nz;revert lim;revert lo1;revert MM;revert i2;revert out2;revert n;exact key.k
      case inl=>
       rw [yAT (by lia)];have ek:i=k:=by lia
       subst ek;rw [zGE] at MM;exact key.k _ _ _ MM lo1 lim ha (yAF _)
     clear G1 M k;intro n out2 i2 MM lo1 lim nz kn;refine yAX (m:=elem' b (j-1)) (f:=_) (zAH (by lia) ?_);have M2:=MM.popB hp.sb (by lia) lo1;refine zAR (λd1=>yAh #[#[_,rfl],.inl #[_,_,rfl,M2.firstB hp.sa hp.sb (yAm.mp d1) λu hu=>fb u (by lia)]]) (λd1=>?_);have d1':j-1≠1:=λz=>d1 (yAm.mpr z);refine yAX (m:=elem' a (i2-1)) (f:=_) (zAH (by lia) ?_);refine yAX (m:=ZEH true (at_ a (i2-1)) b 0 (j-1) (j-1-1)) (f:=_) (zCC C hk (hp.pa _ (by lia)) (λu hu=>#[by lia,hp.pb _ (by lia)]) (zE1 O λu v huv hv=>hp.sb _ _ (by lia) (by lia)) (by lia) λk2 G2=>?_);dsimp only;apply share
     case use=>
      intro key;have g2:=G2.le
      have lo2:∀ u,u<k2->R (at_ b u) (at_ a (i2-1))=true:=λu hu=>by
       have q:=G2.loT hu
       rwa [yDm] at q
      have hi2':∀ u,k2<=u->u<j-1->R (at_ b u) (at_ a (i2-1))=false:=λu h1 h2=>by
       have q:=G2.hiT h1 h2
       rwa [yDm] at q
      have k2p:1<=k2:=by
       rcases yCM k2 with z|z
       ·have q:=hi2' 0 (by lia) (by lia)
        rw [tb _ (by lia)] at q
        cases q
       ·exact z
      have M3:=M2.appB hp.sb (j-1-k2) (Nat.sub_le _ _) λu h1 h2 v hv=>O.tr _ (at_ a (i2-1)) _ (hp.sa v _ (by lia) (by lia)) (hi2' u (by rwa [yDV g2] at h1) h2);rw [yDV g2] at M3
      rcases yCM (j-1-k2) with k0'|k0'
      case inr=>
       rw [yAS k0'];refine zAR (λe2=>yAh #[#[_,rfl],.inl #[_,_,rfl,M3.firstB hp.sa hp.sb (yAm.mp e2) λu hu=>fb u (by lia)]]) (λe2=>?_);have e2':k2≠1:=λz=>e2 (yAm.mpr z);rw [yAT (λz=>by have:=yAm.mp z;lia)];have bz:2<=k2:=by lia
       clear e2 e2';generalize j-1-k2=n2;generalize out2.push (at_ b (j-1))++(b.extract k2 (j-1)).reverse=out3 at M3 ⊢;have jl:k2<=j-1:=g2;clear g2 k0' hi2' k2p;generalize k2=j3 at M3 lo2 bz jl ⊢;revert jl;revert bz;revert lo2;revert M3;revert j3;revert out3;revert n2;exact key.k
      case inl=>
       rw [yAT (by lia)];have ek:k2=j-1:=by lia
       subst ek;rw [zGE] at M3;exact key.k _ _ _ M3 lo2 (by lia) (yAF _)
     clear G2 k2;intro n2 out3 j3 M3 lo2 bz jl;refine yAX (m:=elem' a (i2-1)) (f:=_) (zAH (by lia) ?_);have M4:=M3.popA hp.sa nz λu hu=>O.as _ _ (lo2 u hu);have lb3:=M3.lb;refine zAR (λd3=>yAh #[#[_,rfl],.inl #[_,_,rfl,M4.done hp.sb (yAm.mp d3)]]) (λd3=>?_);have d3':i2-1≠0:=λz=>d3 (yAm.mpr z);exact zAR (λ_=>yAh #[#[_,rfl],.inr #[_,_,_,_,_,_,rfl,M4,by lia,by lia,by lia,by lia,by lia]]) (λ_=>yAh #[#[_,rfl],_,_,_,_,_,_,rfl,M4,by lia,by lia,by lia,by lia,by lia])
end
end L2T
namespace L2T
open PySem PyProof.Rows
def SegSrt (R:Keyed->Keyed->Bool)(xs:Array Keyed)(lo hi:Nat):Prop:=∀ i j,lo<=i->i<=j->j<hi->R (at_ xs j) (at_ xs i)=false
abbrev zdT (st:eAj)(p:Array (Nat×Nat×Nat)):eAj:=SortSt.mk' (kindOf st) (arrOf st) p (gallopOf st) (failedOf st)
def zHM (xs:Array Keyed)(i:Nat):at_ xs i=(xs.toList[i]?).getD (eAE,eAE):=by
 unfold at_
 by_cases h:i<xs.size
 ·simp [Array.getD,h]
 ·simp [Array.getD,h]
def zMN:∀ (m:List Keyed) (xs:Array Keyed) (off j:Nat),off+j+m.length<=xs.size->((m.zipIdx j).foldl (λa x=>a.setIfInBounds (off+x.snd) x.fst) xs).toList=xs.toList.take (off+j)++m++xs.toList.drop (off+j+m.length)
 | [],xs,off,j,h=>by simp
 | x::r,xs,off,j,h=>by
  have hl:off+j+(r.length+1)<=xs.size:=h;rw [List.zipIdx_cons,yEX,zMN r _ off (j+1) (by rw [Array.size_setIfInBounds];lia)]
  have e:(xs.setIfInBounds (off+j) x).toList=xs.toList.take (off+j)++x::xs.toList.drop (off+j+1):=by
   rw [Array.toList_setIfInBounds,List.set_eq_take_append_cons_drop,yAS (by simp;lia)]
  show (xs.setIfInBounds (off+j) x).toList.take (off+(j+1))++r++(xs.setIfInBounds (off+j) x).toList.drop (off+(j+1)+r.length)=_;rw [e];have lt:(xs.toList.take (off+j)).length=off+j:=by rw [yAe];simp;lia
  have t1:(xs.toList.take (off+j)++x::xs.toList.drop (off+j+1)).take (off+(j+1))=xs.toList.take (off+j)++[x]:=by
   rw [List.take_append,lt,yAs (by lia),show off+(j+1)-(off+j)=1 by lia];rfl
  have t2:(xs.toList.take (off+j)++x::xs.toList.drop (off+j+1)).drop (off+(j+1)+r.length)=xs.toList.drop (off+j+(x::r).length):=by
   rw [List.drop_append,lt,yCI (by lia),show off+(j+1)+r.length-(off+j)=r.length+1 by lia,List.drop_succ_cons,List.drop_drop,List.nil_append]
   congr 1
   simp only [yBK]
   lia
  rw [t1,t2]
  simp
def zE8 {xs:Array Keyed}{lo hi i:Nat}(h:lo+i<hi)(hz:hi<=xs.size):at_ (xs.extract lo hi) i=at_ xs (lo+i):=by
 rw [zHM,zHM,yBm,yBV,List.getElem?_take,yAS (by lia),yCP]
def zQE {xs:Array Keyed}{lo hi:Nat}(hz:hi<=xs.size){z:Keyed}(h:z∈(xs.extract lo hi).toList):∃ u,lo<=u/\u<hi/\z=at_ xs u:=by
 obtain ⟨n,hn⟩:=yCu h;rw [yBm,yBV,List.getElem?_take] at hn
 split at hn
 ·rw [yCP] at hn
  refine#[lo+n,by lia,by lia,?_];rw [zHM,hn];rfl
 ·cases hn
section
variable {prog:eAD}{w:World}{A:eAK}{E:kW}{s:Shared}{κ:SortKind}{R:Keyed->Keyed->Bool}{P:Keyed->Prop}{st:eAj}
def zY2 {st':eAj}{Q:PUnit->eAj->Prop}(h:Q ⟨⟩ st'):wpS (model prog w) A E s (set st':StateT eAj Sem PUnit) Q st:=by
 unfold wpS;rw [StateT.run_set];exact yAO #[rfl,h]
def zMG {i sa na pw sb nb pw2:Nat}{Q:Bool->eAj->Prop}(O:Ord R)(C:Cmp prog w A s κ R P)(hk:kindOf st=κ)(hf:failedOf st=none)(p1:(eAo st)[i]?=some (sa,na,pw))(p2:(eAo st)[i+1]?=some (sb,nb,pw2))(esb:sb=sa+na)(na1:1<=na)(nb1:1<=nb)
  (hz:sb+nb<=(arrOf st).size) (s1:SegSrt R (arrOf st) sa sb) (s2:SegSrt R (arrOf st) sb (sb+nb)) (hP:∀ k,k<(arrOf st).size->P (at_ (arrOf st) k))
  (h:∀ xs g,xs.Perm (arrOf st)->(∀ k,k<sa \/ sb+nb<=k->at_ xs k=at_ (arrOf st) k)->SegSrt R xs sa (sb+nb)->Q true (SortSt.mk' (kindOf st) xs (((eAo st).setIfInBounds i (sa,na+nb,pw)).eraseIdxIfInBounds (i+1)) g none)) :
  wpS (model prog w) A E s (mergeAt' i) Q st:=by
 rcases st with ⟨kd,ar,pd,ga,fl⟩
 have hf:fl=none:=hf;subst hf;have hk:kd=κ:=hk;have hz:sb+nb<=ar.size:=hz;have s1:SegSrt R ar sa sb:=s1;have s2:SegSrt R ar sb (sb+nb):=s2;have hP:∀ k,k<ar.size->P (at_ ar k):=hP;refine yAX (m:=_) (f:=_) (yEE ?_);dsimp only;rw [show pd[i]?=some (sa,na,pw) from p1,show pd[i+1]?=some (sb,nb,pw2) from p2];dsimp only;refine yAX (m:=_) (f:=_) (zY2 ?_);refine yAX (m:=elem' ar sb) (f:=_) (zAH (by lia) ?_);refine yAX (m:=ZEH false (at_ ar sb) ar sa na 0) (f:=_) (zCC C hk (hP _ (by lia)) (λu hu=>#[by lia,hP _ (by lia)]) (zE1 O λu v huv hv=>s1 _ _ (by lia) (by lia) (by lia)) (by lia) λk G1=>?_);dsimp only;have kle:=G1.le
 have lo1:∀ u,sa<=u->u<sa+k->R (at_ ar sb) (at_ ar u)=false:=λu h1 h2=>by
  have q:=G1.loF (i:=u-sa) (by lia)
  rwa [show sa+(u-sa)=u by lia] at q
 have hi1:∀ u,sa+k<=u->u<sb->R (at_ ar sb) (at_ ar u)=true:=λu h1 h2=>by
  have q:=G1.hiF (i:=u-sa) (by lia) (by lia)
  rwa [show sa+(u-sa)=u by lia] at q
 have below:∀ u,sa<=u->u<sa+k->∀ v,sb<=v->v<sb+nb->R (at_ ar v) (at_ ar u)=false:=λu h1 h2 v h3 h4=>O.tr _ (at_ ar sb) _ (lo1 u h1 h2) (s2 sb v (yAF _) h3 h4)
 by_cases c1:(na-k==0)=true
 ·rw [yAS c1]
  have ek:na-k=0:=yAm.mp c1;refine yAh (h ar ga (Array.Perm.refl _) (λ_ _=>rfl) λu v h1 h2 h3=>?_)
  by_cases cu:u<sb
  ·by_cases cv:v<sb
   ·exact s1 u v h1 h2 cv
   ·exact below u h1 (by lia) v (by lia) h3
  ·exact s2 u v (by lia) h2 h3
 rw [yAT c1];have c1':na-k≠0:=λz=>c1 (yAm.mpr z);clear c1;have hd:na=k+(na-k):=by lia
 generalize na-k=d at c1' hd ⊢;subst hd;clear kle;rw [show sa+k+d-1=sb-1 by lia];refine yAX (m:=elem' ar (sb-1)) (f:=_) (zAH (by lia) ?_);refine yAX (m:=ZEH true (at_ ar (sb-1)) ar sb nb (nb-1)) (f:=_) (zCC C hk (hP _ (by lia)) (λu hu=>#[by lia,hP _ (by lia)]) (zE1 O λu v huv hv=>s2 _ _ (by lia) (by lia) (by lia)) (by lia) λk2 G2=>?_);dsimp only;have k2le:=G2.le
 have lo2:∀ u,sb<=u->u<sb+k2->R (at_ ar u) (at_ ar (sb-1))=true:=λu h1 h2=>by
  have q:=G2.loT (i:=u-sb) (by lia)
  rwa [show sb+(u-sb)=u by lia] at q
 have hi2:∀ u,sb+k2<=u->u<sb+nb->R (at_ ar u) (at_ ar (sb-1))=false:=λu h1 h2=>by
  have q:=G2.hiT (i:=u-sb) (by lia) (by lia)
  rwa [show sb+(u-sb)=u by lia] at q
 have k2p:1<=k2:=by
  rcases yCM k2 with z|z
  ·have q:=hi2 sb (by lia) (by lia)
   rw [hi1 (sb-1) (by lia) (by lia)] at q
   cases q
  ·exact z
 rw [yAT (λz=>by have:=yAm.mp z;lia)];have xs1:(ar.extract (sa+k) sb).size=d:=by rw [Array.size_extract];lia
 have ys1:(ar.extract sb (sb+k2)).size=k2:=by rw [Array.size_extract];lia
 have hp:Pre R P (ar.extract (sa+k) sb) (ar.extract sb (sb+k2)):=by
  refine#[λu v h1 h2=>?_,λu v h1 h2=>?_,by lia,by lia,?_,λj hj=>?_,λu hu=>?_,λu hu=>?_]
  ·rw [xs1] at h2
   rw [zE8 (by lia) (by lia),zE8 (by lia) (by lia)];exact s1 _ _ (by lia) (by lia) (by lia)
  ·rw [ys1] at h2
   rw [zE8 (by lia) (by lia),zE8 (by lia) (by lia)];exact s2 _ _ (by lia) (by lia) (by lia)
  ·rw [zE8 (by lia) (by lia),zE8 (by lia) (by lia)]
   exact hi1 _ (by lia) (by lia)
  ·rw [ys1] at hj
   rw [xs1,zE8 (by lia) (by lia),zE8 (by lia) (by lia),show sa+k+(d-1)=sb-1 by lia];exact lo2 _ (by lia) (by lia)
  ·rw [xs1] at hu
   rw [zE8 (by lia) (by lia)];exact hP _ (by lia)
  ·rw [ys1] at hu
   rw [zE8 (by lia) (by lia)];exact hP _ (by lia)
 have fin:∀ m:Array Keyed,ZM8 R (ar.extract (sa+k) sb) (ar.extract sb (sb+k2)) m->∀ xs:Array Keyed,xs=(m.toList.zipIdx).foldl (λa x=>a.setIfInBounds (sa+k+x.snd) x.fst) ar->xs.Perm ar/\(∀ u,u<sa \/ sb+nb<=u->at_ xs u=at_ ar u)/\SegSrt R xs sa (sb+nb):=λm hG xs hxs=>by
  obtain ⟨gp,gs⟩:=hG;have ml:m.toList.length=d+k2:=by rw [gp.length_eq,yAV];simp only [yBJ];lia
  have el:xs.toList=ar.toList.take (sa+k)++m.toList++ar.toList.drop (sb+k2):=by
   rw [hxs,zMN _ _ _ _ (by lia),ml,yEU,show sa+k+(d+k2)=sb+k2 by lia]
  have eo:ar.toList=ar.toList.take (sa+k)++((ar.extract (sa+k) sb).toList++(ar.extract sb (sb+k2)).toList)++ar.toList.drop (sb+k2):=by
   rw [yBm,yBm,yBV,yBV]
   have e1:ar.toList.drop sb=(ar.toList.drop sb).take (sb+k2-sb)++ar.toList.drop (sb+k2):=by
    have:=(yCo (sb+k2-sb) (ar.toList.drop sb)).symm
    rwa [List.drop_drop,show sb+(sb+k2-sb)=sb+k2 by lia] at this
   have e2:ar.toList.drop (sa+k)=(ar.toList.drop (sa+k)).take (sb-(sa+k))++ar.toList.drop sb:=by
    have:=(yCo (sb-(sa+k)) (ar.toList.drop (sa+k))).symm
    rwa [List.drop_drop,show sa+k+(sb-(sa+k))=sb by lia] at this
   have e3:=(yCo (sa+k) ar.toList).symm;rw [yBT,yBT,<- e1,<- e2,<- e3]
  have ta:(ar.toList.take (sa+k)).length=sa+k:=by rw [yAe];simp;lia
  have at1:∀ u,u<sa+k->at_ xs u=at_ ar u:=λu hu=>by
   rw [zHM,zHM,el,yBT,yAv (by lia),List.getElem?_take,yAS hu]
  have at3:∀ u,sb+k2<=u->at_ xs u=at_ ar u:=λu hu=>by
   rw [zHM,zHM,el,yAt (by rw [yAV];lia),yAV,ta,ml,yCP]
   congr 2
   lia
  have at2:∀ u,sa+k<=u->u<sb+k2->m.toList[u-(sa+k)]?=some (at_ xs u):=λu h1 h2=>by
   have hl:u-(sa+k)<m.toList.length:=by lia
   rw [zHM,el,yBT,yAt (by lia),ta,yAv hl,yAB hl];rfl
  have mem:∀ u,sa+k<=u->u<sb+k2->(∃ v,sa+k<=v/\v<sb/\at_ xs u=at_ ar v) \/ ∃ v,sb<=v/\v<sb+k2/\at_ xs u=at_ ar v:=λu h1 h2=>by
   have q:=gp.mem_iff.mp (yAk (at2 u h1 h2))
   rcases yAb.mp q with q|q
   ·exact .inl (zQE (by lia) q)
   ·exact .inr (zQE (by lia) q)
  refine#[yDi.mpr ?_,λu hu=>?_,λu v h1 h2 h3=>?_]
  ·rw [el]
   refine List.Perm.trans ?_ (List.Perm.of_eq eo.symm);exact (gp.append_left _).append_right _
  ·rcases hu with hu|hu
   ·exact at1 u (by lia)
   ·exact at3 u (by lia)
  ·by_cases cu1:u<sa+k
   ·rw [at1 u cu1]
    by_cases cv1:v<sa+k
    ·rw [at1 v cv1];exact s1 u v h1 h2 (by lia)
    ·by_cases cv2:v<sb+k2
     ·rcases mem v (by lia) cv2 with ⟨z,z1,z2,e⟩|⟨z,z1,z2,e⟩
      ·rw [e];exact s1 u z h1 (by lia) z2
      ·rw [e];exact below u h1 cu1 z z1 (by lia)
     ·rw [at3 v (by lia)];exact below u h1 cu1 v (by lia) h3
   ·by_cases cu2:u<sb+k2
    ·by_cases cv2:v<sb+k2
     ·by_cases e:u=v
      ·rw [e];exact O.irr _
      ·have p:=yDt.mp gs (u-(sa+k)) (v-(sa+k)) (by lia) (by lia) (by lia)
       have e1:=at2 u (by lia) cu2;have e2:=at2 v (by lia) cv2;rw [yAB (by lia)] at e1 e2;rw [eAH e1,eAH e2] at p;exact p
     ·rw [at3 v (by lia)]
      rcases mem u (by lia) cu2 with ⟨z,z1,z2,e⟩|⟨z,z1,z2,e⟩
      ·rw [e];exact O.tr _ (at_ ar (sb-1)) _ (s1 z (sb-1) (by lia) (by lia) (by lia)) (hi2 v (by lia) h3)
      ·rw [e];exact s2 z v z1 (by lia) h3
    ·rw [at3 u (by lia),at3 v (by lia)];exact s2 u v (by lia) h2 h3
 by_cases c3:d<=k2
 ·rw [yAS c3]
  refine yAX (m:=ZNO _ _) (f:=_) (zM4 O C hk hp λm g hG=>?_);obtain ⟨q1,q2,q3⟩:=fin m hG _ rfl;refine yAX (m:=_) (f:=_) (yDv ?_);refine yAX (m:=_) (f:=_) (yEE (yAh ?_));exact h _ g q1 q2 q3
 ·rw [yAT c3]
  refine yAX (m:=ZNE _ _) (f:=_) (zL2 O C hk hp λm g hG=>?_);obtain ⟨q1,q2,q3⟩:=fin m hG _ rfl;refine yAX (m:=_) (f:=_) (yDv ?_);refine yAX (m:=_) (f:=_) (yEE (yAh ?_));exact h _ g q1 q2 q3
end
end L2T
namespace L2T
open PySem PyProof.Rows
def Eqv (R:Keyed->Keyed->Bool)(x y:Keyed):Prop:=R x y=false/\R y x=false
theorem Eqv.le {R:Keyed->Keyed->Bool}(O:Ord R){x x' y y':Keyed}(a:Eqv R x x')(b:Eqv R y y')(h:R x y=false):R x' y'=false:=
 O.tr _ x _ (O.tr _ y _ b.1 h) a.2
theorem Eqv.refl {R:Keyed->Keyed->Bool}(O:Ord R)(x:Keyed):Eqv R x x:=#[O.irr x,O.irr x]
theorem Eqv.symm {R:Keyed->Keyed->Bool}{x y:Keyed}(h:Eqv R x y):Eqv R y x:=#[h.2,h.1]
theorem Eqv.trans {R:Keyed->Keyed->Bool}(O:Ord R){x y z:Keyed}(h:Eqv R x y)(g:Eqv R y z):Eqv R x z:=#[O.tr _ _ _ g.1 h.1,O.tr _ _ _ h.2 g.2]
def Dec (R:Keyed->Keyed->Bool)(xs:Array Keyed)(lo hi:Nat):Prop:=∀ i j,lo<=i->i<=j->j<hi->R (at_ xs i) (at_ xs j)=false
def zF0 {xs ys:Array Keyed}{i j:Nat}(h:xs[i]?=ys[j]?):at_ xs i=at_ ys j:=by
 rw [zHM,zHM,yBH,yBH,h]
def zF4 {xs:Array Keyed}{i j:Nat}(hj:j<=xs.size)(k:Nat):at_ (mirror xs i j ((j-i) / 2)) k=if i<=k/\k<j then at_ xs (i+j-1-k) else at_ xs k:=by
 have e:=getElem?_mirror_all (i:=i) hj k
 split
 ·rename_i c
  rw [yAS c] at e;exact zF0 e
 ·rename_i c
  rw [yAT c] at e;exact zF0 e
def zSP {xs:Array Keyed}{src d:Nat}(hs:src<xs.size)(hd:d<=src)(k:Nat):at_ (bubble xs src d) k=if k=src-d then at_ xs src else if src-d<k/\k<=src then at_ xs (k-1) else at_ xs k:=by
 have e:=getElem?_bubble hs d hd k
 split
 ·rename_i c
  rw [yAS c] at e;exact zF0 e
 ·rename_i c
  rw [yAT c] at e
  split
  ·rename_i c2
   rw [yAS c2] at e;exact zF0 e
  ·rename_i c2
   rw [yAT c2] at e;exact zF0 e
structure Bs (κ:SortKind)(a₀:Array Keyed)(st:eAj):Prop where
 kind:kindOf st=κ
 failed:failedOf st=none
 perm:(arrOf st).Perm a₀
theorem Bs.size {κ:SortKind}{a₀:Array Keyed}{st:eAj}(h:Bs κ a₀ st):(arrOf st).size=a₀.size:=h.perm.size_eq
theorem Bs.mem {κ:SortKind}{a₀:Array Keyed}{st:eAj}(h:Bs κ a₀ st){k:Nat}(hk:k<(arrOf st).size):at_ (arrOf st) k∈a₀.toList:=by
 have:=yDi.mp h.perm
 exact this.mem_iff.mp (yAk (at_toList hk))
theorem Bs.setA {κ:SortKind}{a₀:Array Keyed}{st:eAj}(h:Bs κ a₀ st){xs:Array Keyed}(hp:xs.Perm (arrOf st)):Bs κ a₀ (setArr st xs):=#[h.kind,h.failed,hp.trans h.perm]
structure Upd (a₀:Array Keyed)(κ:SortKind)(lo:Nat)(st st':eAj):Prop where
 bs:Bs κ a₀ st'
 pend:eAo st'=eAo st
 low:∀ k,k<lo->at_ (arrOf st') k=at_ (arrOf st) k
theorem Upd.refl {a₀:Array Keyed}{κ:SortKind}{lo:Nat}{st:eAj}(h:Bs κ a₀ st):Upd a₀ κ lo st st:=#[h,rfl,λ_ _=>rfl]
section
variable {prog:eAD}{w:World}{A:eAK}{E:kW}{s:Shared}{κ:SortKind}{R:Keyed->Keyed->Bool}{a₀:Array Keyed}{st:eAj}
def zI5 {i j:Nat}{Q:Option Bool->eAj->Prop}(C:Cmp prog w A s κ R (· ∈ a₀.toList))(hB:Bs κ a₀ st)(hi:i<a₀.size)(hj:j<a₀.size)(h:Q (some (R (at_ (arrOf st) i) (at_ (arrOf st) j))) st):wpS (model prog w) A E s (ltAt' i j) Q st:=by
 have hz:=hB.size;rw [ltAt'_eq];refine yAX (yEE ?_);refine yAX (m:=elem' (arrOf st) i) (f:=_) (zAH (by lia) ?_);refine yAX (m:=elem' (arrOf st) j) (f:=_) (zAH (by lia) ?_);exact zJT C hB.kind (hB.mem (by lia)) (hB.mem (by lia)) h
theorem Upd.mirror {lo i j:Nat}{st₀:eAj}(U:Upd a₀ κ lo st₀ st)(hi:lo<=i)(hj:j<=a₀.size):Upd a₀ κ lo st₀ (setArr st (mirror (arrOf st) i j ((j-i) / 2))):=by
 have hz:=U.bs.size;refine#[U.bs.setA (mirror_perm _ _ _ _),U.pend,λk hk=>?_];show at_ (PyProof.Rows.mirror (arrOf st) i j ((j-i) / 2)) k=_;rw [zF4 (by lia),yAT (by lia)];exact U.low k hk
def zFB (O:Ord R){xs:Array Keyed}{i j:Nat}(hj:j<=xs.size)(he:∀ u,i<=u->u<j->Eqv R (at_ xs u) (at_ xs (j-1)))(k:Nat):Eqv R (at_ xs k) (at_ (mirror xs i j ((j-i) / 2)) k):=by
 rw [zF4 hj]
 split
 ·exact (he _ (by lia) (by lia)).trans O (he _ (by lia) (by lia)).symm
 ·exact Eqv.refl O _
def zQV {lo nrem:Nat}{Q:Option Nat->eAj->Prop}(O:Ord R)(C:Cmp prog w A s κ R (· ∈ a₀.toList))(hB:Bs κ a₀ st)(hn:lo+nrem<=a₀.size)(h1:1<=nrem)
  (h:∀ m st',Upd a₀ κ lo st st'->1<=m->m<=nrem->SegSrt R (arrOf st') lo (lo+m)->Q (some m) st'):wpS (model prog w) A E s (countRun' lo nrem) Q st:=by
 have hz:=hB.size
 have one:∀ xs:Array Keyed,SegSrt R xs lo (lo+1):=λxs i j a1 a2 a3=>by
  have:i=j:=by lia
  subst this;exact O.irr _
 refine yAX (m:=_) (f:=_) (yCL (yBd (I:=λx c st'=>st'=st/\c=(none,x)/\SegSrt R (arrOf st) lo (lo+x))
  (Q:=λc st'=>st'=st/\∃ n,c=(none,n)/\1<=n/\n<=nrem/\SegSrt R (arrOf st) lo (lo+n)/\(n=nrem \/ R (at_ (arrOf st) (lo+n)) (at_ (arrOf st) (lo+n-1))=true)) ?as ?af #[rfl,rfl,one _]) ?ap)
 case af=>
  rintro c st' ⟨rfl,rfl,hs⟩
  rw [show max 1 nrem=nrem by lia] at hs ⊢;exact#[rfl,nrem,rfl,h1,yAF _,hs,.inl rfl]
 case as=>
  rintro x c st' hx1 hx ⟨rfl,rfl,hs⟩
  dsimp only;refine yAX (m:=ltAt' (lo+x) (lo+x-1)) (f:=_) (zI5 C hB (by lia) (by lia) ?_);dsimp only
  cases hr:R (at_ (arrOf st') (lo+x)) (at_ (arrOf st') (lo+x-1)) with
  | true=>exact yAh #[rfl,x,rfl,hx1,by lia,hs,.inr hr]
  | false=>
   refine yAh #[rfl,rfl,λi j a1 a2 a3=>?_]
   by_cases c1:j<lo+x
   ·exact hs i j a1 a2 c1
   ·have ej:j=lo+x:=by lia
    subst ej
    by_cases c2:i=lo+x
    ·rw [c2];exact O.irr _
    ·exact O.tr _ (at_ (arrOf st') (lo+x-1)) _ (hs i (lo+x-1) a1 (by lia) (by lia)) hr
 case ap=>
  rintro c st' ⟨rfl,n,rfl,n1,nn,hs,hor⟩
  dsimp only;have hst4:st'=st':=rfl;refine zAR (λcn=>yAh (h n st' (Upd.refl hB) n1 nn hs)) (λcn=>?_);have cn':n≠nrem:=λz=>cn (yAm.mpr z);have hlt:=hor.resolve_left cn';apply share
  case use=>
   intro key
   by_cases cg:n > 1
   case pos=>
    rw [yAS cg];refine yAX (m:=ltAt' lo (lo+n-1)) (f:=_) (zI5 C hB (by lia) (by lia) ?_);dsimp only
    by_cases hr':R (at_ (arrOf st') lo) (at_ (arrOf st') (lo+n-1))=true
    ·rw [hr']
     exact yAh (h n st' (Upd.refl hB) n1 nn hs)
    have hr:R (at_ (arrOf st') lo) (at_ (arrOf st') (lo+n-1))=false:=Bool.eq_false_iff.mpr hr';rw [hr];have al:∀ u,lo<=u->u<lo+n->Eqv R (at_ (arrOf st') u) (at_ (arrOf st') (lo+n-1)):=λu b1 b2=>#[O.tr _ (at_ (arrOf st') lo) _ hr (hs lo u (yAF _) b1 b2),hs u (lo+n-1) b1 (by lia) (by lia)];simp only [yBP,yCR];refine yAX (m:=reverseSlice' lo (lo+n)) (f:=_) (wpS_reverse ?_);have U:=(Upd.refl (lo:=lo) hB).mirror (yAF lo) (show lo+n<=a₀.size by lia);have ev:=zFB O (xs:=arrOf st') (i:=lo) (j:=lo+n) (by lia) al
    have D0:Dec R (mirror (arrOf st') lo (lo+n) ((lo+n-lo) / 2)) lo (lo+(n+1)):=λi j a1 a2 a3=>by
     refine (ev i).le O (ev j) ?_
     by_cases c1:j<lo+n
     ·exact ((al i a1 (by lia)).trans O (al j (by lia) c1).symm).1
     ·have ej:j=lo+n:=by lia
      subst ej
      by_cases c2:i=lo+n
      ·rw [c2];exact O.irr _
      ·exact (al i a1 (by lia)).symm.le O (Eqv.refl O _) (O.as _ _ hlt)
    have D:Dec R (arrOf (setArr st' (mirror (arrOf st') lo (lo+n) ((lo+n-lo) / 2)))) lo (lo+(n+1)):=D0;clear D0 ev al hr;generalize setArr st' (mirror (arrOf st') lo (lo+n) ((lo+n-lo) / 2))=st2 at U D ⊢;revert D;revert U;revert st2;exact key.k
   case neg=>
    rw [yAT cg];have U:=Upd.refl (lo:=lo) hB
    have D:Dec R (arrOf st') lo (lo+(n+1)):=λi j a1 a2 a3=>by
     by_cases c2:i=j
     ·rw [c2];exact O.irr _
     ·have ei:i=lo+n-1:=by lia
      have ej:j=lo+n:=by lia
      subst ei ej;exact O.as _ _ hlt
    exact key.k _ U D
  intro st2 U D;refine yAX (m:=_) (f:=_) (wpS_lift (yDD #[rfl,?_]))
  refine yAX (m:=_) (f:=_) (yCL (yBd (I:=λx c st3=>∃ neq,c=(none,x,neq)/\Upd a₀ κ lo st' st3/\Dec R (arrOf st3) lo (lo+x)/\neq+1<=x/\∀ u,lo+x-(neq+1)<=u->u<lo+x->Eqv R (at_ (arrOf st3) u) (at_ (arrOf st3) (lo+x-1)))
   (Q:=λc st3=>∃ m neq,c=(none,m,neq)/\1<=m/\m<=nrem/\Upd a₀ κ lo st' st3/\Dec R (arrOf st3) lo (lo+m)/\neq+1<=m/\∀ u,lo+m-(neq+1)<=u->u<lo+m->Eqv R (at_ (arrOf st3) u) (at_ (arrOf st3) (lo+m-1))) ?ds ?df #[0,rfl,U,D,by lia,λu b1 b2=>by rw [show u=lo+(n+1)-1 by lia];exact Eqv.refl O _]) ?dp)
  case df=>
   rintro c st3 ⟨neq,rfl,U3,D3,q1,q2⟩
   rw [show max (n+1) nrem=nrem by lia] at D3 q1 q2 ⊢;exact#[nrem,neq,rfl,h1,yAF _,U3,D3,q1,q2]
  case ds=>
   rintro x c st3 hx1 hx ⟨neq,rfl,U3,D3,q1,q2⟩
   have z3:=U3.bs.size;dsimp only;refine yAX (m:=ltAt' (lo+x) (lo+x-1)) (f:=_) (zI5 C U3.bs (by lia) (by lia) ?_);dsimp only
   by_cases hr':R (at_ (arrOf st3) (lo+x)) (at_ (arrOf st3) (lo+x-1))=true
   ·rw [hr']
    simp only [yDs]
    have step1:∀ xs:Array Keyed,(∀ k,Eqv R (at_ (arrOf st3) k) (at_ xs k))->Dec R xs lo (lo+(x+1)):=λxs ev i j a1 a2 a3=>by
     refine (ev i).le O (ev j) ?_
     by_cases c1:j<lo+x
     ·exact D3 i j a1 a2 c1
     ·have ej:j=lo+x:=by lia
      subst ej
      by_cases c2:i=lo+x
      ·rw [c2];exact O.irr _
      ·exact O.tr _ (at_ (arrOf st3) (lo+x-1)) _ (O.as _ _ hr') (D3 i (lo+x-1) a1 (by lia) (by lia))
    by_cases cq:neq > 0
    ·rw [yAS cq]
     refine yAX (m:=reverseSlice' (lo+x-(neq+1)) (lo+x)) (f:=_) (wpS_reverse (yAh #[0,rfl,U3.mirror (by lia) (by lia),step1 _ (zFB O (by lia) q2),by lia,λu b1 b2=>by rw [show u=lo+(x+1)-1 by lia];exact Eqv.refl O _]))
    ·rw [yAT cq]
     exact yAh #[0,rfl,U3,step1 _ (λk=>Eqv.refl O _),by lia,λu b1 b2=>by rw [show u=lo+(x+1)-1 by lia];exact Eqv.refl O _]
   ·have hr:R (at_ (arrOf st3) (lo+x)) (at_ (arrOf st3) (lo+x-1))=false:=Bool.eq_false_iff.mpr hr'
    rw [hr];simp only [yBP,yCR];refine yAX (m:=ltAt' (lo+x-1) (lo+x)) (f:=_) (zI5 C U3.bs (by lia) (by lia) ?_);dsimp only
    by_cases hl':R (at_ (arrOf st3) (lo+x-1)) (at_ (arrOf st3) (lo+x))=true
    ·rw [hl']
     exact yAh #[x,neq,rfl,by lia,by lia,U3,D3,q1,q2]
    ·have hl:R (at_ (arrOf st3) (lo+x-1)) (at_ (arrOf st3) (lo+x))=false:=Bool.eq_false_iff.mpr hl'
     rw [hl];have ee:Eqv R (at_ (arrOf st3) (lo+x-1)) (at_ (arrOf st3) (lo+x)):=#[hl,hr];refine yAh #[neq+1,rfl,U3,λi j a1 a2 a3=>?_,by lia,λu b1 b2=>?_]
     ·by_cases c1:j<lo+x
      ·exact D3 i j a1 a2 c1
      ·have ej:j=lo+x:=by lia
       subst ej
       by_cases c2:i=lo+x
       ·rw [c2];exact O.irr _
       ·exact (Eqv.refl O _).le O ee (D3 i (lo+x-1) a1 (by lia) (by lia))
     ·rw [show lo+(x+1)-1=lo+x by lia]
      by_cases c2:u=lo+x
      ·rw [c2];exact Eqv.refl O _
      ·exact (q2 u (by lia) (by lia)).trans O ee
  case dp=>
   rintro c st3 ⟨m,neq,rfl,m1,mn,U3,D3,q1,q2⟩
   have z3:=U3.bs.size;dsimp only;apply share
   case use=>
    intro key
    by_cases cq:neq > 0
    case pos=>
     rw [yAS cq];refine yAX (m:=reverseSlice' (lo+m-(neq+1)) (lo+m)) (f:=_) (wpS_reverse ?_);have U5:=U3.mirror (i:=lo+m-(neq+1)) (j:=lo+m) (by lia) (by lia);have ev:=zFB O (xs:=arrOf st3) (i:=lo+m-(neq+1)) (j:=lo+m) (by lia) q2;have D5:Dec R (arrOf (setArr st3 (mirror (arrOf st3) (lo+m-(neq+1)) (lo+m) ((lo+m-(lo+m-(neq+1))) / 2)))) lo (lo+m):=λi j a1 a2 a3=>(ev i).le O (ev j) (D3 i j a1 a2 a3);clear ev;generalize setArr st3 (mirror (arrOf st3) (lo+m-(neq+1)) (lo+m) ((lo+m-(lo+m-(neq+1))) / 2))=st5 at U5 D5 ⊢;revert D5;revert U5;revert st5;exact key.k
    case neg=>
     rw [yAT cq];have U5:=U3;have D5:=D3;exact key.k _ U5 D5
   intro st5 U5 D5;have z5:=U5.bs.size;refine yAX (m:=reverseSlice' lo (lo+m)) (f:=_) (wpS_reverse ?_);have U6:=U5.mirror (yAF lo) (show lo+m<=a₀.size by lia)
   have S6:SegSrt R (arrOf (setArr st5 (mirror (arrOf st5) lo (lo+m) ((lo+m-lo) / 2)))) lo (lo+m):=λi j a1 a2 a3=>by
    show R (at_ (mirror (arrOf st5) lo (lo+m) ((lo+m-lo) / 2)) j) (at_ (mirror (arrOf st5) lo (lo+m) ((lo+m-lo) / 2)) i)=false;rw [zF4 (by lia),zF4 (by lia),yAS (by lia),yAS (by lia)];exact D5 _ _ (by lia) (Nat.sub_le_sub_left a2 _) (by lia)
   generalize hs6:setArr st5 (mirror (arrOf st5) lo (lo+m) ((lo+m-lo) / 2))=st6 at U6 S6 ⊢
   refine yAX (m:=_) (f:=_) (yCL (yBd (I:=λx c st7=>st7=st6/\c=(none,x)/\SegSrt R (arrOf st6) lo (lo+x))
    (Q:=λc st7=>st7=st6/\∃ n,c=(none,n)/\1<=n/\n<=nrem/\SegSrt R (arrOf st6) lo (lo+n)) ?es ?ef #[rfl,rfl,S6]) ?ep)
   case ef=>
    rintro c st7 ⟨rfl,rfl,hs'⟩
    rw [show max m nrem=nrem by lia] at hs' ⊢;exact#[rfl,nrem,rfl,h1,yAF _,hs']
   case ep=>
    rintro c st7 ⟨rfl,n',rfl,b1,b2,hs'⟩
    exact yAh (h n' _ U6 b1 b2 hs')
   case es=>
    rintro x c st7 hx1 hx ⟨rfl,rfl,hs'⟩
    have z6:=U6.bs.size;dsimp only;refine yAX (m:=ltAt' (lo+x) (lo+x-1)) (f:=_) (zI5 C U6.bs (by lia) (by lia) ?_);dsimp only
    cases hr:R (at_ (arrOf st7) (lo+x)) (at_ (arrOf st7) (lo+x-1)) with
    | true=>exact yAh #[rfl,x,rfl,by lia,by lia,hs']
    | false=>
     refine yAh #[rfl,rfl,λi j a1 a2 a3=>?_]
     by_cases c1:j<lo+x
     ·exact hs' i j a1 a2 c1
     ·have ej:j=lo+x:=by lia
      subst ej
      by_cases c2:i=lo+x
      ·rw [c2];exact O.irr _
      ·exact O.tr _ (at_ (arrOf st7) (lo+x-1)) _ (hs' i (lo+x-1) a1 (by lia) (by lia)) hr
end
end L2T
namespace L2T
open PySem PyProof.Rows
section
variable {prog:eAD}{w:World}{A:eAK}{E:kW}{s:Shared}{κ:SortKind}{R:Keyed->Keyed->Bool}{a₀:Array Keyed}{st:eAj}
def zOP {lo n ok:Nat}{Q:Bool->eAj->Prop}(O:Ord R)(C:Cmp prog w A s κ R (· ∈ a₀.toList))(hB:Bs κ a₀ st)(hn:lo+n<=a₀.size)(ho1:1<=ok)(hok:ok<=n)(hs:SegSrt R (arrOf st) lo (lo+ok))
  (h:∀ st',Upd a₀ κ lo st st'->SegSrt R (arrOf st') lo (lo+n)->Q true st'):wpS (model prog w) A E s (binarySort' lo n ok) Q st:=by
 refine yAX (m:=_) (f:=_) (yCL (yBd (I:=λk c st'=>c=(none,())/\Upd a₀ κ lo st st'/\SegSrt R (arrOf st') lo (lo+min k n))
  (Q:=λc st'=>c=(none,())/\Upd a₀ κ lo st st'/\SegSrt R (arrOf st') lo (lo+n)) ?step ?fin #[rfl,Upd.refl hB,by rw [show min (max ok 1) n=ok by lia];exact hs]) ?post)
 case post=>
  rintro c st' ⟨rfl,U,hs'⟩
  exact yAh (h st' U hs')
 case fin=>
  rintro c st' ⟨hc,U,hs'⟩
  refine#[hc,U,?_]
  rwa [show min (max (max ok 1) n) n=n by lia] at hs'
 case step=>
  rintro k c st' hak hkn ⟨rfl,U,hs'⟩
  rw [show min k n=k by lia] at hs';have z1:=U.bs.size;dsimp only
  refine yAX (m:=_) (f:=_) (yCL (yBd (I:=λx c st''=>st''=st'/\∃ l r,c=(none,l,r)/\l<=r/\r<=k/\r+x<=k+l /\
    (∀ i,lo<=i->i<lo+l->R (at_ (arrOf st') (lo+k)) (at_ (arrOf st') i)=false)/\(∀ i,lo+r<=i->i<lo+k->R (at_ (arrOf st') (lo+k)) (at_ (arrOf st') i)=true))
   (Q:=λc st''=>st''=st'/\∃ l r,c=(none,l,r)/\l<=k /\
    (∀ i,lo<=i->i<lo+l->R (at_ (arrOf st') (lo+k)) (at_ (arrOf st') i)=false)/\(∀ i,lo+l<=i->i<lo+k->R (at_ (arrOf st') (lo+k)) (at_ (arrOf st') i)=true)) ?istep ?ifin #[rfl,0,k,rfl,by lia,by lia,by lia,λi a1 a2=>by lia,λi a1 a2=>by lia]) ?ipost)
  case ifin=>
   rintro c st'' ⟨rfl,l,r,rfl,hlr,hrk,hm,hlo,hhi⟩
   have e:l=r:=by lia
   subst e;exact#[rfl,l,l,rfl,hrk,hlo,hhi]
  case istep=>
   rintro x c st'' _ hxk ⟨rfl,l,r,rfl,hlr,hrk,hm,hlo,hhi⟩
   dsimp only
   by_cases hge:l >= r
   ·rw [yAS hge]
    have e:l=r:=by lia
    subst e;exact yAh #[rfl,l,l,rfl,hrk,hlo,hhi]
   ·rw [yAT hge]
    refine yAX (m:=ltAt' (lo+k) (lo+(l+r) / 2)) (f:=_) (zI5 C U.bs (by lia) (by lia) ?_);dsimp only
    cases hr:R (at_ (arrOf st'') (lo+k)) (at_ (arrOf st'') (lo+(l+r) / 2)) with
    | true=>
     refine yAh #[rfl,l,(l+r) / 2,rfl,by lia,by lia,by lia,hlo,λi b1 b2=>?_]
     cases z:R (at_ (arrOf st'') (lo+k)) (at_ (arrOf st'') i) with
     | true=>rfl
     | false=>
      rw [O.tr _ (at_ (arrOf st'') i) _ (hs' (lo+(l+r) / 2) i (by lia) b1 b2) z] at hr
      cases hr
    | false=>
     refine yAh #[rfl,(l+r) / 2+1,r,rfl,by lia,by lia,by lia,λi b1 b2=>?_,hhi];exact O.tr _ (at_ (arrOf st'') (lo+(l+r) / 2)) _ (hs' i (lo+(l+r) / 2) b1 (by lia) (by lia)) hr
  case ipost=>
   rintro c st'' ⟨rfl,l,r,rfl,hlk,hlo,hhi⟩
   dsimp only;refine yAX (m:=moveDown' (lo+k) (lo+l)) (f:=_) ?_;rw [moveDown'_eq]
   have ab:∀ u,at_ (bubble (arrOf st'') (lo+k) (lo+k-(lo+l))) u=if u=lo+l then at_ (arrOf st'') (lo+k) else if lo+l<u/\u<=lo+k then at_ (arrOf st'') (u-1) else at_ (arrOf st'') u:=λu=>by
    have q:=zSP (xs:=arrOf st'') (src:=lo+k) (d:=lo+k-(lo+l)) (by lia) (by lia) u
    rwa [yDV (Nat.add_le_add_left hlk lo)] at q
   refine yDv (yAh #[rfl,#[U.bs.setA (bubble_perm _ _ _),U.pend,λu hu=>?_],?_])
   ·show at_ (bubble (arrOf st'') (lo+k) (lo+k-(lo+l))) u=_
    rw [ab,yAT (by lia),yAT (by lia)];exact U.low u hu
   ·rw [show min (k+1) n=k+1 by lia]
    intro i j a1 a2 a3;show R (at_ (bubble (arrOf st'') (lo+k) (lo+k-(lo+l))) j) (at_ (bubble (arrOf st'') (lo+k) (lo+k-(lo+l))) i)=false;rw [ab,ab]
    repeat' split
    all_goals first
     | (exfalso;lia)
     | exact O.irr _
     | exact hlo _ (by lia) (by lia)
     | exact O.as _ _ (hhi _ (by lia) (by lia))
     | exact hs' _ _ (by lia) (by lia) (by lia)
def Runs (S:Nat->Nat->Prop):List (Nat×Nat×Nat)->Nat->Nat->Prop
 | [],a,b=>a=b
 | (s,n,_)::r,a,b=>s=a/\1<=n/\S a (a+n)/\Runs S r (a+n) b
theorem Runs.le {S:Nat->Nat->Prop}:∀ {l:List (Nat×Nat×Nat)} {a b:Nat},Runs S l a b->a+l.length<=b
 | [],a,b,h=>by have:a=b:=h;subst this;simp
 | (s,n,p)::r,a,b,h=>by
  have:=h.2.2.2.le
  have:=h.2.1
  simp only [yBK]
  lia
theorem Runs.mono {S S':Nat->Nat->Prop}:∀ {l:List (Nat×Nat×Nat)} {a b:Nat},Runs S l a b->(∀ u v,a<=u->v<=b->S u v->S' u v)->Runs S' l a b
 | [],a,b,h,_=>h
 | (s,n,p)::r,a,b,h,f=>by
  have:=h.2.2.2.le
  exact#[h.1,h.2.1,f _ _ (yAF _) (by lia) h.2.2.1,h.2.2.2.mono λu v h1 h2=>f u v (by lia) h2]
theorem Runs.push {S:Nat->Nat->Prop}:∀ {l:List (Nat×Nat×Nat)} {a b n p:Nat},Runs S l a b->1<=n->S b (b+n)->Runs S (l++[(b,n,p)]) a (b+n)
 | [],a,b,n,p,h,hn,hs=>by have:a=b:=h;subst this;exact#[rfl,hn,hs,rfl]
 | (s,m,p')::r,a,b,n,p,h,hn,hs=>#[h.1,h.2.1,h.2.2.1,h.2.2.2.push hn hs]
theorem Runs.two {S:Nat->Nat->Prop}:∀ {l:List (Nat×Nat×Nat)} {a b i:Nat},Runs S l a b->i+1<l.length->∃ s n p m p2,l[i]?=some (s,n,p)/\l[i+1]?=some (s+n,m,p2)/\1<=n/\1<=m/\a<=s/\s+n+m<=b/\S s (s+n)/\S (s+n) (s+n+m) /\
  ∀ S':Nat->Nat->Prop,(∀ u v,(v<=s \/ s+n+m<=u)->S u v->S' u v)->S' s (s+n+m)->Runs S' ((l.set i (s,n+m,p)).eraseIdx (i+1)) a b
 | (s,n,p)::(t,m,p2)::r,a,b,0,h,_=>by
  obtain ⟨e1,h1,q1,e2,h2,q2,h3⟩:=h;have l3:=h3.le;subst e1 e2;refine#[s,n,p,m,p2,rfl,rfl,h1,h2,yAF _,by lia,q1,q2,λS' f g=>#[rfl,by lia,by rw [<- Nat.add_assoc];exact g,?_]];rw [<- Nat.add_assoc];exact h3.mono λu v a1 a2=>f u v (.inr a1)
 | [],a,b,i,h,hl=>by simp at hl
 | [x],a,b,i,h,hl=>by simp at hl
 | (s,n,p)::x::r,a,b,i+1,h,hl=>by
  obtain ⟨e1,h1,q1,h2⟩:=h;obtain ⟨s',n',p',m',q',g1,g2,g3,g4,g5,g6,g7,g8,g9⟩:=h2.two (i:=i) (by simpa using hl);exact#[s',n',p',m',q',g1,g2,g3,g4,by lia,g6,g7,g8,λS' f g=>#[e1,h1,f _ _ (.inl g5) q1,g9 S' f g]]
theorem Runs.mod {S:Nat->Nat->Prop}{f:Nat×Nat×Nat->Nat×Nat×Nat}(hf:∀ x,(f x).1=x.1/\(f x).2.1=x.2.1):∀ {l:List (Nat×Nat×Nat)} {a b:Nat} (k:Nat),Runs S l a b->Runs S (l.modify k f) a b
 | [],a,b,k,h=>by rw [List.modify_nil];exact h
 | (s,n,p)::r,a,b,0,h=>by
  show Runs S (f (s,n,p)::r) a b;obtain ⟨e1,e2⟩:=hf (s,n,p);generalize f (s,n,p)=w at e1 e2 ⊢;obtain ⟨x,y,z⟩:=w;have e1:x=s:=e1;have e2:y=n:=e2;subst e1 e2;exact h
 | (s,n,p)::r,a,b,k+1,h=>#[h.1,h.2.1,h.2.2.1,h.2.2.2.mod hf k]
def zPO {xs ys:Array Keyed}{lo u v:Nat}(h:∀ k,k<lo->at_ ys k=at_ xs k)(hv:v<=lo)(q:SegSrt R xs u v):SegSrt R ys u v:=λi j a1 a2 a3=>by
 rw [h i (by lia),h j (by lia)];exact q i j a1 a2 a3
def zKY {i lo:Nat}{Q:Bool->eAj->Prop}(O:Ord R)(C:Cmp prog w A s κ R (· ∈ a₀.toList))(hB:Bs κ a₀ st)(hl:lo<=a₀.size)(hr:Runs (SegSrt R (arrOf st)) (eAo st).toList 0 lo)(hi:i+1<(eAo st).size)
  (h:∀ st',Bs κ a₀ st'->Runs (SegSrt R (arrOf st')) (eAo st').toList 0 lo->(eAo st').size+1=(eAo st).size->(∀ k,lo<=k->at_ (arrOf st') k=at_ (arrOf st) k)->Q true st'):wpS (model prog w) A E s (mergeAt' i) Q st:=by
 obtain ⟨sa,na,p,nb,p2,e1,e2,n1,n2,_,le,s1,s2,f⟩:=hr.two (i:=i) (by simpa using hi);have hz:=hB.size;refine zMG O C hB.kind hB.failed (sa:=sa) (na:=na) (pw:=p) (sb:=sa+na) (nb:=nb) (pw2:=p2) (by simpa using e1) (by simpa using e2) rfl n1 n2 (by lia) s1 s2 (λk hk=>hB.mem hk) λxs g hp same seg=>?_;refine h _ #[hB.kind,rfl,hp.trans hB.perm] ?_ ?_ λk hk=>same k (.inr (by lia))
 ·have q:=f (SegSrt R xs) (λu v huv q i j a1 a2 a3=>by
   rcases huv with huv|huv
   ·rw [same i (.inl (by lia)),same j (.inl (by lia))];exact q i j a1 a2 a3
   ·rw [same i (.inr (by lia)),same j (.inr (by lia))];exact q i j a1 a2 a3) seg
  have et:(((eAo st).setIfInBounds i (sa,na+nb,p)).eraseIdxIfInBounds (i+1)).toList=((eAo st).toList.set i (sa,na+nb,p)).eraseIdx (i+1):=by
   simp
  show Runs (SegSrt R xs) (((eAo st).setIfInBounds i (sa,na+nb,p)).eraseIdxIfInBounds (i+1)).toList 0 lo;rw [et];exact q
 ·show (((eAo st).setIfInBounds i (sa,na+nb,p)).eraseIdxIfInBounds (i+1)).size+1=_
  rw [<- yBJ,show (((eAo st).setIfInBounds i (sa,na+nb,p)).eraseIdxIfInBounds (i+1)).toList=((eAo st).toList.set i (sa,na+nb,p)).eraseIdx (i+1) by simp,List.length_eraseIdx,List.length_set,yBJ,yAS hi]
  lia
theorem wpS_runs {Q:Unit->eAj->Prop}(O:Ord R)(C:Cmp prog w A s κ R (· ∈ a₀.toList))(hB:Bs κ a₀ st)(hpd:eAo st=#[])(h2:2<=a₀.size)
  (h:∀ st',Bs κ a₀ st'->SegSrt R (arrOf st') 0 a₀.size->Q () st'):wpS (model prog w) A E s sortRuns' Q st:=by
 have hz:=hB.size;refine yAX (m:=_) (f:=_) (yEE ?_);dsimp only;rw [show (arrOf st).size=a₀.size from hz];generalize (sortPriv% PySem.Builtin.minRun) a₀.size a₀.size 0=minrun
 refine yAX (m:=_) (f:=_) (yCL (yBd (I:=λx c st'=>∃ lo,c=(none,lo)/\Bs κ a₀ st'/\Runs (SegSrt R (arrOf st')) (eAo st').toList 0 lo/\lo<=a₀.size/\x<=lo)
  (Q:=λc st'=>c=(none,a₀.size)/\Bs κ a₀ st'/\Runs (SegSrt R (arrOf st')) (eAo st').toList 0 a₀.size) ?step ?fin #[0,rfl,hB,by rw [hpd];exact rfl,yBN _,yBN _]) ?post)
 case fin=>
  rintro c st' ⟨lo,rfl,hB',hr,h3,h4⟩
  have e:lo=a₀.size:=by lia
  subst e;exact#[rfl,hB',hr]
 case post=>
  rintro c st1 ⟨rfl,hB1,hr1⟩
  dsimp only;have len1:=hr1.le
  refine yAX (m:=_) (f:=_) (yCL (yBd (I:=λx c st'=>c=(none,())/\Bs κ a₀ st'/\Runs (SegSrt R (arrOf st')) (eAo st').toList 0 a₀.size/\(eAo st').size+x<=a₀.size)
   (Q:=λc st'=>c=(none,())/\Bs κ a₀ st'/\Runs (SegSrt R (arrOf st')) (eAo st').toList 0 a₀.size/\(eAo st').size<=1) ?ls ?lf #[rfl,hB1,hr1,by simp only [yBJ] at len1;lia]) ?lp)
  case lf=>
   rintro c st' ⟨rfl,hB',hr,h3⟩
   exact#[rfl,hB',hr,by lia]
  case lp=>
   rintro c st' ⟨rfl,hB',hr,h3⟩
   refine yAh (h st' hB' ?_)
   match hl:(eAo st').toList,hr with
   | [],hr=>have:(0:Nat)=a₀.size:=hr;lia
   | [(s0,n0,p0)],hr=>
    obtain ⟨e1,_,q,e2⟩:=hr;have e2:0+n0=a₀.size:=e2;rw [<- e2];exact q
   | _::_::_,_=>
    have:(eAo st').toList.length<=1:=by rw [yBJ];exact h3
    rw [hl] at this
    simp at this
  case ls=>
   rintro x c st' _ hx ⟨rfl,hB',hr,h3⟩
   refine yAX (m:=_) (f:=_) (yEE ?_);refine zAR (λc1=>yAh #[rfl,hB',hr,c1]) (λc1=>?_);have c1:¬(eAo st').size<=1:=c1;have two:∀ (p:Prop) [Decidable p],(if p then (eAo st').size-2-1 else (eAo st').size-2)+1<(eAo st').size:=λp _=>by split<;>lia
   have go:∀ i,i+1<(eAo st').size->wpS (model prog w) A E s (mergeAt' i) (λb st''=>b=true/\Bs κ a₀ st''/\Runs (SegSrt R (arrOf st'')) (eAo st'').toList 0 a₀.size/\(eAo st'').size+(x+1)<=a₀.size) st':=λi hi=>zKY O C hB' (yAF _) hr hi λst'' b1 b2 b3 _=>#[rfl,b1,b2,by lia]
   try dsimp only
   refine yAX (m:=mergeAt' _) (f:=_) (yCL (go _ ?_) ?_)
   ·exact two _
   ·rintro b st'' ⟨rfl,b1,b2,b3⟩
    exact yAh #[rfl,b1,b2,b3]
 case step=>
  rintro x c st' _ hx ⟨lo,rfl,hB',hr,h3,h4⟩
  dsimp only
  by_cases cg:lo >= a₀.size
  ·rw [yAS cg]
   have e:lo=a₀.size:=by lia
   subst e;exact yAh #[rfl,hB',hr]
  rw [yAT cg];refine yAX (m:=countRun' lo (a₀.size-lo)) (f:=_) (zQV O C hB' (by lia) (by lia) λm st2 U m1 mn sg=>?_);dsimp only
  have r2:Runs (SegSrt R (arrOf st2)) (eAo st2).toList 0 lo:=by
   rw [U.pend];exact hr.mono λu v _ hv q=>zPO U.low hv q
  apply share
  case use=>
   intro key
   by_cases cm:m<minrun
   case pos=>
    rw [yAS cm];refine yAX (m:=_) (f:=_) (wpS_lift (yDD #[rfl,?_]));refine yAX (m:=binarySort' lo (min (a₀.size-lo) minrun) m) (f:=_) (zOP O C U.bs (by lia) m1 (by lia) sg λst3 U3 sg3=>?_);simp only [Bool.not_true,yBP,yCR]
    have r3:Runs (SegSrt R (arrOf st3)) (eAo st3).toList 0 lo:=by
     rw [U3.pend];exact r2.mono λu v _ hv q=>zPO U3.low hv q
    have B3:=U3.bs;have n1:1<=min (a₀.size-lo) minrun:=by lia
    have nz:lo+min (a₀.size-lo) minrun<=a₀.size:=by lia
    clear U3;generalize min (a₀.size-lo) minrun=n at sg3 n1 nz ⊢;revert nz;revert n1;revert sg3;revert B3;revert r3;revert n;revert st3;exact key.k
   case neg=>
    rw [yAT cm];exact key.k _ _ r2 U.bs sg m1 (by lia)
  intro st3 n r3 B3 sg3 n1 nz;have last:∀ st4:eAj,Bs κ a₀ st4->Runs (SegSrt R (arrOf st4)) (eAo st4).toList 0 lo->SegSrt R (arrOf st4) lo (lo+n)->Bs κ a₀ (zdT st4 ((eAo st4).push (lo,n,0)))/\Runs (SegSrt R (arrOf st4)) ((eAo st4).push (lo,n,0)).toList 0 (lo+n):=λst4 b1 b2 b3=>#[#[b1.kind,b1.failed,b1.perm],by rw [yAy];exact b2.push n1 b3];refine yAX (m:=_) (f:=_) (yEE ?_)
  split
  ·refine yAX (m:=_) (f:=_) (yCL (yBd (I:=λy c st4=>c=(none,())/\Bs κ a₀ st4/\Runs (SegSrt R (arrOf st4)) (eAo st4).toList 0 lo/\SegSrt R (arrOf st4) lo (lo+n))
    (Q:=λc st4=>c=(none,())/\Bs κ a₀ st4/\Runs (SegSrt R (arrOf st4)) (eAo st4).toList 0 lo/\SegSrt R (arrOf st4) lo (lo+n)) ?ix1 ?ix2 #[rfl,B3,r3,sg3]) ?ix3)
   case ix2=>
    rintro c st4 q
    exact q
   case ix1=>
    rintro y c st4 _ hy ⟨rfl,B4,r4,sg4⟩
    refine yAX (m:=_) (f:=_) (yEE ?_)
    split
    ·rename_i hsome
     split
     ·exact yAh #[rfl,B4,r4,sg4]
     ·have c2:(eAo st4).size > 1:=by
       rcases yBn 1 (eAo st4).size with z|z
       ·exact z
       ·rw [yAT (Nat.not_lt_of_ge z)] at hsome
        cases hsome
      refine yAX (m:=mergeAt' ((eAo st4).size-2)) (f:=_) (zKY O C B4 h3 r4 (by lia) λst5 b1 b2 b3 b4=>yAh #[rfl,b1,b2,λi j a1 a2 a3=>?_]);rw [b4 i a1,b4 j (by lia)];exact sg4 i j a1 a2 a3
    ·exact yAh #[rfl,B4,r4,sg4]
   case ix3=>
    rintro c st4 ⟨rfl,B4,r4,sg4⟩
    dsimp only;refine yAX (m:=_) (f:=_) (yDv ?_);refine yAX (m:=_) (f:=_) (yDv (yAh ?_));refine#[lo+n,rfl,#[B4.kind,B4.failed,B4.perm],?_,nz,by lia];show Runs (SegSrt R (arrOf st4)) (((eAo st4).modify ((eAo st4).size-1) _).push (lo,n,0)).toList 0 (lo+n);rw [yAy,Array.toList_modify];refine Runs.push (Runs.mod ?_ _ r4) n1 sg4;exact λx=>#[rfl,rfl]
  ·refine yAX (m:=_) (f:=_) (yDv (yAh ?_))
   obtain ⟨b1,b2⟩:=last st3 B3 r3 sg3;exact#[lo+n,rfl,b1,b2,nz,by lia]
end
end L2T
namespace L2
open PySem PySem.Spec PyProof.Rows PySem.W
theorem pw2 {α:Type}{R:α->α->Prop}:∀ {xs:List α},xs.length<2->xs.Pairwise R|[],_=>.nil|[_],_=>yCa _ _
section
variable {X:Cx}{pins:kA}{σ:St}{H:Hp}{s:Shared}{k:Nat}{f D:Addr}{fd:eAY}{pn:Str}{sp:Sp}{kf:V->Int×List Int}{xs:List V}{its:List Value}{kd:Int×List Int->PyData}{okk:Int×List Int->Prop}{KA:Hp->Shared->Value->Int->List Int->Prop}
def zTS {x:V}{u:Value}{Q:VK}{E:kW}(F:FnOk X.prog X.w X.K X.mg X.base CX0 k f fd [pn] sp)(hr:Room (k+2) X.A)(hb:UAD X.K fd [pn] [])(I:Inv X pins σ H s)(r:RelV x u)(h:sp [x] H Q E0) :
  wpAny (model X.prog X.w) X.A.in1.in1 (call (.ref f) [u]) (EP X pins σ Q) E s:=by
 refine yDc (yCX (F.run X.A.in1.in1 X.stack s H #[[u],[]] [u] [x] Q E0 hr.in1.in1 I.env0.in1.in1 (hb s [u] I.kIn rfl) (.cons r .nil) h) λr s' hq=>?_)
 cases r with
 | error e=>exact eAQ hq
 | ok fl=>
  cases fl with
  | ret u=>exact I.after hq
  | next=>exact eAQ hq
  | brk=>exact eAQ hq
  | cont=>exact eAQ hq
structure UA6 (X:Cx)(kd:Int×List Int->PyData)(okk:Int×List Int->Prop)(KA:Hp->Shared->Value->Int->List Int->Prop):Prop where
 tup:∀ a,∃ ds,kd a=.tuple ds
 at_:∀ {pins:kA} {σ:St} {H:Hp} {s:Shared} {v:V} {u:Value} {n:Int} {ms:List Int},Inv X pins σ H s->DV X.K H v (kd (n,ms))->RelV v u->okk (n,ms)->KA H s u n ms
 ex:∀ {H:Hp} {s:Shared} {v:Value} {n:Int} {ms:List Int},KA H s v n ms->∃ (a b:Addr) (t:Tok) (o:Obj) (k:Nat),v=.ref a/\s.heap.get? a=some o/\o.cls=.type "tuple"/\o.data=.seq [.int n t,.ref b].toArray k
 cmp:∀ {H:Hp} {s:Shared} {A:eAK} {E:kW} {u v:Value} {n m:Int} {ms ks:List Int} {C:Bool->Shared->Prop},A.units+10<cLine->KA H s u n ms->KA H s v m ks->C (ZBQ (n,ms) (m,ks)) s->wpAny (model X.prog X.w) A (keyLt' (tuples' true) u v) C E s
structure UA1 (kd:Int×List Int->PyData)(K:Frag)(H:Hp)(kf:V->Int×List Int)(xs:List V)(ks:List Value)(i:Nat):Prop where
 len:ks.length=i
 at':∀ j,j<i->∃ a,ks[j]?=some (.ref a)/\DV K H (.ref a) (kd (kf (xs.getD j .non)))
theorem DV.tup_ref {K:Frag}{v:V}{ds:List PyData}(h:DV K H v (.tuple ds)):∃ a,v=.ref a:=by
 generalize hd:eAn ds=d at h
 cases h with
 | tup _ _=>exact#[_,rfl]
 | _=>cases hd
def ZLH (X:Cx)(pins:kA)(σ:St)(H:Hp)(D:Addr)(kf:V->Int×List Int)(xs:List V)(s':Shared):Prop:=
 ∃ H' ys,Inv X pins σ (upd H' D (.lst ys)) s'/\Same H H'/\H' D=none/\ys.Perm xs/\ys.Pairwise λa b=>ZBQ (kf b) (kf a)=false
def zEX:∀ {xs:List V} {us:List Value},Vals xs us->∀ i,RelV (xs.getD i .non) (us.getD i .none)
 | _,_,.nil,i=>by simp [RelV]
 | _,_,.cons r t,0=>by simpa using r
 | _,_,.cons r t,i+1=>by simpa using zEX t i
def zHW {α:Type}(xs:List α)(d:α):(eAJ xs.length).map (λi=>xs.getD i d)=xs:=by
 apply List.ext_getElem
 ·simp
 ·intro i h1 h2
  simp at h1
  simp [h1]
def zVE:∀ {v v':V} {u:Value},RelV v u->RelV v' u->v=v':=λ{v v' u} h h'=>by
 cases v<;>cases v'<;>simp only [RelV] at h h'<;>(try obtain ⟨t,rfl⟩:=h)<;>(try obtain ⟨t',h'⟩:=h')<;>(try subst h)<;>(try cases h')<;>first|rfl|simp_all
def zUS (KF:UA6 X kd okk KA)(hkf:∀ x,okk (kf x)){E:kW}{kS:Addr}{e e1:Nat}{ks:List Value}{H':Hp}(hr:Room (k+2) X.A)(rv:Vals xs its)(h64:xs.length<=100000)
  (I:Inv X (pins++[(D,eAi "list" #[] e1),(kS,eAi "list" ks.toArray e)]) σ H' s) (fD:ZHO X pins H D) (sD:X.s₀.heap.objs.size<=D) (fK:ZHO X pins H kS) (hne:kS≠D) (g:Same H H') (kt:UA1 kd X.K H' kf xs ks xs.length) :
  wpAny (model X.prog X.w) X.A.in1.in1 (ksk_end D false its.toArray e1 (.ref kS) ks.toArray) (λfin s'=>fin=.done (.ret .none)/\ZLH X pins σ H D kf xs s') E s:=by
 have hlen:=rv.length;have hkl:=kt.len;have pD:=I.pin (D,eAi "list" #[] e1) (yAY _ (yAY _ (yAU ..)));have pK:=I.pin (kS,eAi "list" ks.toArray e) (yAY _ (yAY _ (yAL _ (yAU ..))));have I0:Inv X pins σ H' s:=I.pins_of λp hp=>I.pin p (yAY _ (yBy _ hp));have sz:eA5=eA5:=rfl;have s64:100000<=eA5:=by decide
 have fin:∀ (st:eAj) (us:List Value) (ys:List V),(arrOf st).map (·.2)=us.toArray->failedOf st=none->Vals ys us->ys.Perm xs->ys.Pairwise (λa b=>ZBQ (kf b) (kf a)=false) ->
   wpAny (model X.prog X.w) X.A.in1.in1 (ksk_tail D false e1 (.ref kS) st) (λfin s'=>fin=.done (.ret .none)/\ZLH X pins σ H D kf xs s') E s:=λst us ys h1 h2 hv h3 h4=>by
  have hyl:ys.length=xs.length:=h3.length_eq;have hul:=hv.length;refine zXJ pK.1 pD.1 hne h1 h2 oz oz #[rfl,H',ys,?_,g,pD.2.1,h3,h4];have I1:Inv X pins σ H' { s with heap:=s.heap.update kS (eAc λ_=>#[]) }:=I0.turned (t':=s.toks) (λb o hb e=>by rw [yBj _ _ _ _ hb];exact e) pK.2.1 fK.2.1 fK.2.2.2.1 fK.2.2.2.2.1 fK.2.2.2.2.2;have hD1:(s.heap.update kS (eAc λ_=>(#[]:Array Value))).get? D=some (eAi "list" #[] e1):=by rw [yBj _ _ _ _ hne.symm];exact pD.1
  have I2:Inv X pins σ H' { s with heap:=(s.heap.update kS (eAc λ_=>#[])).update D (eAc λ_=>us.toArray) }:=I1.turned (t':=s.toks) (λb o hb e=>by rw [yBj _ _ _ _ hb];exact e) pD.2.1 fD.2.1 fD.2.2.2.1 fD.2.2.2.2.1 fD.2.2.2.2.2;exact I2.take #[pD.2.1,fD.2] sD #[ oz,_,_,hv,yEQ hD1 λ_=>us.toArray]
 unfold ksk_end
 try dsimp only
 rw [yAT (by simp)]
 by_cases h2:its.toArray.size<2
 ·have h2':xs.length<2:=by rw [yAM] at h2;lia
  rw [yAS h2,yAS h2];refine yAC (yAO ?_);rw [StateT.run_pure];refine yAC (yAO ?_);simp only [yBP,yCR];refine fin (SortSt.mk' general' (ks.toArray.zip its.toArray) #[] 7 none) its xs ?_ rfl rv (eAp _) ?_
  ·show (ks.toArray.zip its.toArray).map (·.2)=its.toArray
   apply yCE.mp;rw [Array.toList_map,ksk_zip];show (ks.zip its).map (·.2)=its
   have hz:∀ (a b:List Value),a.length=b.length->(a.zip b).map (·.2)=b:=λa=>by
    induction a with
    | nil=>intro b hb;cases b with
     | nil=>rfl
     | cons _ _=>simp at hb
    | cons x r ih=>intro b hb;cases b with
     | nil=>simp at hb
     | cons y t=>simp at hb;simp [ih t hb]
   exact hz ks its oz
  ·exact pw2 h2'
 ·have h2':2<=xs.length:=by rw [yAM] at h2;lia
  rw [yAT h2,yAT h2]
  have kat:∀ j,j<xs.length->KA H' s (ks.getD j .none) (kf (xs.getD j .non)).1 (kf (xs.getD j .non)).2:=λj hj=>by
   obtain ⟨a,e,d⟩:=kt.at' j hj;have eg:ks.getD j .none=.ref a:=by rw [yBS,e];rfl
   rw [eg];exact KF.at_ I d rfl (hkf _)
  have tups:∀ l:List Value,(∀ v∈l,∃ n ms,KA H' s v n ms)->∃ fs,KatTups s.heap l fs/\fs.length=l.length/\∀ v∈fs,∃ n t,v=Value.int n t:=λl=>by
   induction l with
   | nil=>exact λ_=>#[[],KatTups.nil,rfl,λ_ h=>nomatch h]
   | cons v r ih=>
    intro h;obtain ⟨fs,t1,t2,t3⟩:=ih λu hu=>h u (yAL _ hu);obtain ⟨n,ms,q⟩:=h v (yAU ..);obtain ⟨a,b,t,o,kk,rfl,e,c,d⟩:=KF.ex q;refine#[.int n t::fs,KatTups.cons e c d rfl t1,by simp [t2],λu hu=>?_]
    rcases yAf.mp hu with rfl|hu
    ·exact#[n,t,rfl]
    ·exact t3 u hu
  obtain ⟨fs,t1,t2,t3⟩:=tups ks λv hv=>by
   obtain ⟨j,hj⟩:=yCu hv;have hjl:j<xs.length:=by rw [<- hkl];exact (yAH.mp hj).1
   have q:=kat j hjl;rw [yBS,hj] at q;exact#[_,_,q]
  refine yAC (kat_kind (T:=.type "int") t1 oz (λv hv=>?_) rfl ?_)
  ·obtain ⟨n,t,rfl⟩:=t3 v hv
   exact Looks.of_pure rfl
  simp only [yBP,yCR]
  have hun:X.A.in1.in1.units+10<cLine:=by
   have:=hr.un
   show X.A.units+1+1+10<cLine;lia
  have hz:(ks.toArray.zip its.toArray).size=xs.length:=by simp;lia
  have itemAt:∀ j,j<xs.length->(ks.toArray.zip its.toArray)[j]?=some (ks.getD j .none,its.getD j .none):=λj hj=>by
   have h1:j<ks.length:=by lia
   have h2:j<its.length:=by lia
   have e:(ks.zip its)[j]?=some (ks[j],its[j]):=by rw [List.getElem?_zip_eq_some];exact#[yAB h1,yAB h2]
   rw [<- yBH,ksk_zip];show (ks.zip its)[j]?=_;rw [e]
   simp [h1,h2]
  have spec:∀ x,x∈(ks.toArray.zip its.toArray).toList->∃ j,j<xs.length/\x=(ks.getD j .none,its.getD j .none):=λx hx=>by
   obtain ⟨j,hj⟩:=yCu hx
   have hjl:j<xs.length:=by
    have:=(yAH.mp hj).1
    rw [yBJ] at this;lia
   refine#[j,hjl,?_];rw [yBH,itemAt j hjl] at hj;exact (eAH hj).symm
  let idx:Keyed->Nat:=λx=>by classical exact if h:∃ j,j<xs.length/\x=(ks.getD j .none,its.getD j .none) then Classical.choose h else 0
  have idxOk:∀ x,x∈(ks.toArray.zip its.toArray).toList->idx x<xs.length/\x=(ks.getD (idx x) .none,its.getD (idx x) .none):=λx hx=>by
   have h:=spec x hx;have e:idx x=Classical.choose h:=by show (if h:_ then Classical.choose h else 0)=_;rw [dif_pos h]
   rw [e];exact Classical.choose_spec h
  generalize idx=idx at idxOk
  refine yAC (yBW (L2T.wpS_runs (κ:=tuples' true) (R:=λx y=>ZBQ (kf (xs.getD (idx x) .non)) (kf (xs.getD (idx y) .non))) (a₀:=ks.toArray.zip its.toArray) (st:=SortSt.mk' (tuples' true) (ks.toArray.zip its.toArray) #[] 7 none)
   (Q:=λ_ st'=>L2T.Bs (tuples' true) (ks.toArray.zip its.toArray) st'/\L2T.SegSrt (λx y=>ZBQ (kf (xs.getD (idx x) .non)) (kf (xs.getD (idx y) .non))) (arrOf st') 0 (ks.toArray.zip its.toArray).size)
   #[λx y h=>UAz.asym _ _ h,λx y z h h'=>UAz.trans _ _ _ h h'] ⟨λx y hx hy C' E' hC=>?_⟩ #[rfl,rfl,Array.Perm.refl _] rfl oz λst' b seg=>#[b,seg]) ?_ λ_ _ x=>x)
  ·obtain ⟨l1,e1⟩:=idxOk x hx
   obtain ⟨l2,e2⟩:=idxOk y hy;have a1:=kat _ l1;have a2:=kat _ l2;rw [show ks.getD (idx x) .none=x.1 by rw [e1];exact congrArg (λj=>ks.getD (idx j) eAE) e1.symm] at a1;rw [show ks.getD (idx y) .none=y.1 by rw [e2];exact congrArg (λj=>ks.getD (idx j) eAE) e2.symm] at a2;exact KF.cmp hun a1 a2 hC
  ·rintro ⟨⟨⟩,st'⟩ s' ⟨rfl,hb',seg⟩
   try dsimp only
   have hperm:=yDi.mp hb'.perm;have ok':∀ x∈(arrOf st').toList,idx x<xs.length/\x=(ks.getD (idx x) .none,its.getD (idx x) .none):=λx hx=>idxOk x (hperm.mem_iff.mp hx);refine fin st' ((arrOf st').toList.map (·.2)) ((arrOf st').toList.map λx=>xs.getD (idx x) .non) (by apply yCE.mp;simp) hb'.failed ?_ ?_ ?_
   ·have go:∀ l:List Keyed,(∀ x∈l,idx x<xs.length/\x=(ks.getD (idx x) .none,its.getD (idx x) .none))->Vals (l.map λx=>xs.getD (idx x) .non) (l.map (·.2)):=λl=>by
     induction l with
     | nil=>exact λ_=>.nil
     | cons x r ih=>
      intro hl;obtain ⟨_,e⟩:=hl x (yAU ..);have q:=zEX rv (idx x);have e2:its.getD (idx x) .none=x.2:=(congrArg Prod.snd e).symm;rw [e2] at q;exact .cons q (ih λy hy=>hl y (yAL _ hy))
    exact go _ ok'
   ·refine (hperm.map _).trans (List.Perm.of_eq ?_)
    apply yEC;intro j;rw [yAa,yBH]
    by_cases hj:j<xs.length
    ·rw [itemAt j hj,yAB hj]
     have m:(ks.getD j eAE,its.getD j eAE)∈(ks.toArray.zip its.toArray).toList:=yAk (i:=j) (by rw [yBH,itemAt j hj]);obtain ⟨l1,e1⟩:=idxOk _ m;have q1:=zEX rv (idx (ks.getD j eAE,its.getD j eAE));have q2:=zEX rv j;have e3:its.getD (idx (ks.getD j eAE,its.getD j eAE)) eAE=its.getD j eAE:=(congrArg Prod.snd e1).symm;rw [e3] at q1;have e:=zVE q1 q2;show some (xs.getD (idx (ks.getD j eAE,its.getD j eAE)) .non)=some xs[j];rw [e]
     simp [hj]
    ·rw [yCO oz,Array.getElem?_eq_none oz]
     rfl
   ·rw [yBl,yDt]
    intro i j hi hj hij;have hs':(arrOf st').size=xs.length:=hb'.size.trans hz;have q:=seg i j (yBN _) (yDU hij) (by rw [hz];rw [yBJ] at hj;lia);have ei:=L2T.at_toList (xs:=arrOf st') (i:=i) (by simpa using hi);have ej:=L2T.at_toList (xs:=arrOf st') (i:=j) (by simpa using hj);rw [yAB hi] at ei;rw [yAB hj] at ej;rw [eAH ei,eAH ej];exact q
def zT2 (KF:UA6 X kd okk KA)(hkf:∀ x,okk (kf x)){E:kW}(F:FnOk X.prog X.w X.K X.mg X.base CX0 k f fd [pn] sp)(hr:Room (k+2) X.A)(hb:UAD X.K fd [pn] [])(I:Inv X pins σ H s)(hD:s.heap.get? D=some (eAi "list" its.toArray 0))(fD:ZHO X pins H D)
  (sD:X.s₀.heap.objs.size<=D) (rv:Vals xs its) (h64:xs.length<=100000) (hk:∀ y∈xs,∀ H2,Same H H2->sp [y] H2 (λv H3=>Same H2 H3/\DV X.K H3 v (kd (kf y))) E0) :
  wpAny (model X.prog X.w) X.A.in1.in1 (ksk_tree D (.ref f) false) (λfin s'=>fin=.done (.ret .none)/\ZLH X pins σ H D kf xs s') E s:=by
 have hlen:=rv.length;have s64:100000<=eA5:=by decide
 unfold ksk_tree;refine yAC (listItems_at hD rfl ?_);refine yAC (yEF hD rfl ?_ (by rw [yAM];lia) (yBN _));obtain ⟨e1,hD1⟩:∃ e1,(s.heap.update D (eAc λ_=>(#[]:Array Value))).get? D=some (eAi "list" #[] e1):=#[_,yEQ hD λ_=>#[]];have I1:Inv X pins σ H { s with heap:=s.heap.update D (eAc λ_=>#[]) }:=I.turned (t':=s.toks) (λb o hb e=>by rw [yBj _ _ _ _ hb];exact e) fD.1 fD.2.1 fD.2.2.2.1 fD.2.2.2.2.1 fD.2.2.2.2.2;generalize hs1:({ s with heap:=s.heap.update D (eAc λ_=>#[]) }:Shared)=s1 at I1;have hD1':s1.heap.get? D=some (eAi "list" #[] e1):=by rw [<- hs1];exact hD1
 refine yAC (seqEpoch_at hD1' rfl ?_);refine yAC (wpAny_newTuple ?_ (by show its.length<=_;lia));have I2:Inv X pins σ H { s1 with heap:=s1.heap.push { cls:=.type "tuple",data:=.seq its.toArray } }:=I1.kept (t':=s1.toks) λb o e=>yAD _ e;have hD2:=yAD ({ cls:=.type "tuple",data:=.seq its.toArray }:Obj) hD1';generalize hs2:({ s1 with heap:=s1.heap.push { cls:=.type "tuple",data:=.seq its.toArray } }:Shared)=s2 at I2;have hD2':s2.heap.get? D=some (eAi "list" #[] e1):=by rw [<- hs2];exact hD2
 refine yAC (wpAny_newList ?_ (yBN _));have fK:ZHO X pins H (kZ s2):=I2.fpOk (yAF _) I2.fresh;have hne:(kZ s2)≠D:=yBf (yAP hD2');generalize hkS:(kZ s2)=kS at fK hne;have I3:Inv X pins σ H { s2 with heap:=s2.heap.push { cls:=.type "list",data:=.seq ([]:List Value).toArray } }:=I2.kept (t':=s2.toks) λb o e=>yAD _ e;have hD3:(s2.heap.push { cls:=.type "list",data:=.seq ([]:List Value).toArray }).get? D=some (eAi "list" #[] e1):=yAD _ hD2';have hK3:(s2.heap.push { cls:=.type "list",data:=.seq ([]:List Value).toArray }).get? kS=some (eAi "list" ([]:List Value).toArray 0):=by rw [<- hkS];exact yAc _ rfl
 generalize hs3:({ s2 with heap:=s2.heap.push { cls:=.type "list",data:=.seq ([]:List Value).toArray } }:Shared)=s3 at I3;have hD3':s3.heap.get? D=some (eAi "list" #[] e1):=by rw [<- hs3];exact hD3
 have hK3':s3.heap.get? kS=some (eAi "list" ([]:List Value).toArray 0):=by rw [<- hs3];exact hK3
 refine yBa ?_
 have pin2:∀ {H':Hp} {ks:List Value} {e:Nat} {s':Shared} {pl:kA},Inv X (pins++pl) σ H' s'->s'.heap.get? D=some (eAi "list" #[] e1)->H' D=none->s'.heap.get? kS=some (eAi "list" ks.toArray e)->H' kS=none ->
   Inv X (pins++[(D,eAi "list" #[] e1),(kS,eAi "list" ks.toArray e)]) σ H' s':=λ{H' ks e s' pl} I' h1 h2 h3 h4=>I'.pins_of λp hp=>by
  rcases yAb.mp hp with z|z
  ·exact I'.pin p (yAY _ (yBy _ z))
  ·rcases yAf.mp z with rfl|z
   ·exact#[h1,h2,fD.2.1,fD.2.2.1,λv q=>by cases q]
   ·rcases yAf.mp z with rfl|z
    ·exact#[h3,h4,fK.2.1,fK.2.2.1,λv q=>by cases q]
    ·cases z
 have I4:Inv X (pins++[(D,eAi "list" #[] e1),(kS,eAi "list" ([]:List Value).toArray 0)]) σ H s3:=pin2 (pl:=[]) (by simpa using I3) hD3' fD.1 hK3' fK.1
 (try rw [hs3]);(try rw [hkS])
 unfold ksk_rest;refine yAC (yDD ?_)
 first
  | rw [List.forIn_toArray]
  | (rw [<- Array.forIn_toList];simp only [List.toList_toArray])
 refine yAC (ksk_fold (λi s'=>∃ H' ks e,Inv X (pins++[(D,eAi "list" #[] e1),(kS,eAi "list" (List.toArray ks) e)]) σ H' s'/\Same H H'/\UA1 kd X.K H' kf xs ks i) its 0 s3 #[H,[],0,I4,Same.refl _,rfl,λj hj=>absurd hj (Nat.not_lt_zero j)] (λj u s' hu hJ=>?_) λs' hd=>?_)
 ·obtain ⟨H',ks,e,I',g,kt⟩:=hJ
  rw [yDm] at kt ⊢;have hjl:j<xs.length:=by rw [hlen];exact (yAH.mp hu).1
  have hx:xs[j]?=some xs[j]:=yAB hjl;obtain ⟨u',hu',ru⟩:=rv.get hx;rw [hu] at hu'
  cases hu'
  have hg:xs.getD j .non=xs[j]:=by simp [hjl]
  have hkl:=kt.len;refine yAC (wpAny_attempt (yBW (zTS (E:=λ_ _=>False) F hr hb I' ru (hk xs[j] (yAi hjl) H' g)) (λr s'' q=>?_) λ_ _ z=>z.elim));obtain ⟨v,H3,I3',rv3,g3,dv⟩:=q;obtain ⟨ds,eds⟩:=KF.tup (kf xs[j]);obtain ⟨a,rfl⟩:=DV.tup_ref (eds ▸ dv)
  cases rv3
  have pD:=I3'.pin (D,eAi "list" #[] e1) (yAY _ (yAY _ (yAU ..)));have pK:=I3'.pin (kS,eAi "list" ks.toArray e) (yAY _ (yAY _ (yAL _ (yAU ..))));refine yAC (yEF pK.1 rfl ?_ (by rw [yAM];lia) (by rw [Array.size_push,yAM];lia))
  have I5:Inv X (pins++[(D,eAi "list" #[] e1)]) σ H3 s'':=I3'.pins_of λp hp=>I3'.pin p (yAY _ (by
   rcases yAb.mp hp with z|z
   ·exact yBy _ z
   ·exact yAY _ (by
     rcases yAf.mp z with rfl|z
     ·exact yAU ..
     ·cases z)))
  have I6:Inv X (pins++[(D,eAi "list" #[] e1)]) σ H3 { s'' with heap:=s''.heap.update kS (eAc (·.push (.ref a))) }:=I5.turned (t':=s''.toks) (λb o hb' e'=>by rw [yBj _ _ _ _ hb'];exact e') pK.2.1 fK.2.1 fK.2.2.2.1 fK.2.2.2.2.1 (λp hp=>by
   rcases yAb.mp hp with z|z
   ·exact fK.2.2.2.2.2 p (yBy _ z)
   ·rcases yAb.mp z with z|z
    ·exact fK.2.2.2.2.2 p (yAY _ z)
    ·rcases yAf.mp z with rfl|z
     ·exact hne.symm
     ·cases z)
  have ea:ks.toArray.push (.ref a)=(ks++[eAF a]).toArray:=by simp
  have hK7:=yEQ pK.1 (·.push (eAF a));rw [ea] at hK7;refine yAO #[rfl,H3,ks++[.ref a],_,pin2 (pl:=[(D,eAi "list" #[] e1)]) I6 (by rw [yBj _ _ _ _ hne.symm];exact pD.1) pD.2.1 hK7 pK.2.1,g.trans g3,by rw [yAV,hkl];rfl,λi hi=>?_]
  by_cases hij:i<j
  ·obtain ⟨b,hb1,hb2⟩:=kt.at' i hij
   exact#[b,by rw [yAv oz];exact hb1,hb2.mono g3]
  ·have ei:i=j:=by lia
   subst ei;exact#[a,by rw [yAt oz,hkl];simp,by rw [hg];exact dv]
 ·rw [yDm] at hd
  obtain ⟨H',ks,e,I',g,kt⟩:=hd;rw [<- hlen] at kt;have pK:=I'.pin (kS,eAi "list" ks.toArray e) (yAY _ (yAY _ (yAL _ (yAU ..))));refine yAC (listItems_at pK.1 rfl ?_);exact zUS KF hkf hr rv h64 I' fD sD fK hne g kt
def ZQ0 (kd:Int×List Int->PyData)(K:Frag)(kf:V->Int×List Int)(sp:Sp)(te:TE):TE:=λσ H Q=>te σ H λx H1=>∃ a xs,x=.ref a/\(SqL K H1 a xs \/ SqT K H1 a xs)/\xs.length<=100000 /\
 (∀ y∈xs,∀ H2,Same H1 H2->sp [y] H2 (λv H3=>Same H2 H3/\DV K H3 v (kd (kf y))) E0) /\
 ∀ D H2 ys,H1 D=none->Same H1 H2->H2 D=some (.lst ys)->ys.Perm xs->ys.Pairwise (λa b=>ZBQ (kf b) (kf a)=false)->Q (.ref D) H2
def zNR (KF:UA6 X kd okk KA)(hkf:∀ x,okk (kf x)){e:Expr}{te:TE}{fn:Str}{p kp1 kp2 pos:Pos}(F:FnOk X.prog X.w X.K X.mg X.base CX0 k f fd [pn] sp)(hr:Room (k+2) X.A)(hb:UAD X.K fd [pn] [])(hgs:Gl X "sorted")(hms:X.mg "sorted"=none)(hg:Gl X fn)(hm:X.mg fn=some (.ref f))(he:PE X e te)
  (hdb:(fn==("__debug__":Str))=false:=by decide) (hs:eAO [e] X.env=[(false,eval e X.env)]:=by rfl) :
  PE X (.Call (.Name "sorted" p) [e] [#[some "key",.Name fn kp1,kp2]] pos) (ZQ0 kd X.K kf sp te):=by
 intro pins s σ H Q I h;refine yCB (zEV I hgs hms boot_sorted ?_)
 refine callWith_kw (thn (zBP (e:=e) (es:=[]) he zB5 hs pos pins s σ H (λvs H1=>match vs with
  | [x]=>∃ a xs,x=.ref a/\(SqL X.K H1 a xs \/ SqT X.K H1 a xs)/\xs.length<=100000/\(∀ y∈xs,∀ H2,Same H1 H2->sp [y] H2 (λv H3=>Same H2 H3/\DV X.K H3 v (kd (kf y))) E0) /\
    ∀ D H2 ys,H1 D=none->Same H1 H2->H2 D=some (.lst ys)->ys.Perm xs->ys.Pairwise (λa b=>ZBQ (kf b) (kf a)=false)->Q (.ref D) H2
  | _=>False) I h) λus s1 hM=>?_) (by rw [hs];rfl) (by rw [hs];rfl)
 obtain ⟨vs,H1,I1,r1,q1⟩:=hM
 have hv:∃ x,vs=[x]:=by
  rcases vs with _|⟨x,_|⟨y,r0⟩⟩
  ·exact eAQ q1
  ·exact#[x,rfl]
  ·exact eAQ q1
 obtain ⟨x,rfl⟩:=hv;obtain ⟨a,xs,rfl,hq,h64,hkey,q⟩:=q1;obtain ⟨u,rfl,ru⟩:=zEP r1
 cases ru
 refine kws_cons (zD5 I1 hg hm (kws_nil ?_) hdb);show wpAny _ _ (call (.builtin "sorted") [.ref a] [(eAb "key",.ref f)]) _ _ s1;have s64:100000<=eA5:=by decide
 obtain ⟨T,o,its,n,hT,ho,hc,hd,rv⟩:∃ T o its n,(T="list" \/ T="tuple")/\s1.heap.get? a=some o/\o.cls=.type T/\o.data=.seq (List.toArray its) n/\Vals xs its:=by
  rcases hq with hq|hq
  ·obtain ⟨its,r',pl,hz⟩:=I1.list hq
   obtain ⟨o,ho,hc,n,hd⟩:=pl.isList;exact#[_,o,its,n,.inl rfl,ho,hc,hd,r']
  ·obtain ⟨its,r',pl,hz⟩:=I1.tuple hq
   obtain ⟨o,ho,hc,n,hd⟩:=pl;exact#[_,o,its,n,.inr rfl,ho,hc,hd,r']
 have hlen:=rv.length;refine call_function_entry_kw kind_sorted plain_sorted entry_sorted (ksk_s1 _ _) ?_;unfold Builtin.«sorted»;refine yAC (m:=checkCount "sorted" 1 1 _) (yAO ?_);refine yAC (zLZ hT ho hc hd (λh2 hk2=>?_) oz);have I2:Inv X pins σ H1 { s1 with heap:=h2 }:=I1.kept (t':=s1.toks) hk2;refine yAC (wpAny_newList ?_ oz);have I3:Inv X pins σ H1 { s1 with heap:=h2.push { cls:=.type "list",data:=.seq its.toArray } }:=I2.kept (h':=h2.push { cls:=.type "list",data:=.seq its.toArray }) (t':=s1.toks) λb u e=>yAD _ e;have fD:ZHO X pins H1 h2.objs.size:=I2.fpOk (yAF _) I2.fresh;have hD3:(h2.push { cls:=.type "list",data:=.seq its.toArray }).get? h2.objs.size=some (eAi "list" its.toArray 0):=yAc _ rfl;refine yAC (yBa (wpAny_call_entry_kw slot_list_sort #[_,hD3,rfl] entry_list_sort ?_ (ksk_l1 _ _)));rw [ksk_t1];refine yBW (zT2 KF hkf (E:=X.xe) F hr hb I3 hD3 fD I2.sz rv h64 hkey) (λfin s' hfin=>?_) λ_ _ z=>z;obtain ⟨rfl,H',ys,I',g,hD',hp,hs'⟩:=hfin;refine#[_,rfl,yAO #[_,rfl,.ref h2.objs.size,_,I',rfl,q _ _ ys I2.fresh (g.trans λb u e=>?_) zA0 hp hs']];rw [zA6 (zA3 e hD')];exact e
def Zb8 (K:Frag)(kf:V->Int×List Int)(sp:Sp)(te:TE):TE:=ZQ0 Zd0 K kf sp te
def zUN {e:Expr}{te:TE}{fn:Str}{p kp1 kp2 pos:Pos}(F:FnOk X.prog X.w X.K X.mg X.base CX0 k f fd [pn] sp)(hr:Room (k+2) X.A)(hb:UAD X.K fd [pn] [])(hgs:Gl X "sorted")(hms:X.mg "sorted"=none)(hg:Gl X fn)(hm:X.mg fn=some (.ref f))(he:PE X e te)
  (hdb:(fn==("__debug__":Str))=false:=by decide) (hs:eAO [e] X.env=[(false,eval e X.env)]:=by rfl) :
  PE X (.Call (.Name "sorted" p) [e] [#[some "key",.Name fn kp1,kp2]] pos) (Zb8 X.K kf sp te):=
 zNR (KA:=UAx X) (okk:=λ_=>True) #[λ_=>#[_,rfl],λI d r _=>zcE I d r,λq=>by obtain ⟨a,b,t,o,k,_,_,h1,h2,h3,h4,_⟩:=q.ex;exact#[a,b,t,o,k,h1,h2,h3,h4],λh a b c=>zYI h a b c] (λ_=>trivial) F hr hb hgs hms hg hm he hdb hs
end
def Its (z:Str):It:=#[λi _=>i<z.cps.size,λi H x H'=>H'=H/\∃ c,z.cps[i]?=some c/\x=.str ⟨#[c]⟩,λi _=>z.cps.size<=i]
def zV4 {P:eAD}{w:World}{K:Frag}{y:Str}{py:Pos}(z:Str)(it:Addr)(tn:Nat->Heap->Prop)(ob:∀ i h,tn i h->∃ o,h.get? it=some o/\∀ v,o.data≠.cell v)
  (W:∀ A':eAK,A'.handled=none->Walks P w A' it [it] [it] z.cps.size (SignAt z) tn) (sf:∀ (A:eAK) (i:Nat) (s:Shared) (Q:kW) (E:kW),tn i s.heap->Q (.ref it) s->wpAny (model P w) A (pyIter (.ref it)) Q E s)
  (le:∀ i h,tn i h->True):Turn P w K (.Name y py) (Its z) [it] it (λi h=>tn i h/\i<=z.cps.size) where
 mem:=by simp
 obj:=λi h st b hb=>by
  have e:b=it:=by simpa using hb
  subst e;exact ob i h st.1
 keep:=λi h h' st k=>#[(W {} rfl).frame i h h' st.1 λb hb o e=>k b hb o e,st.2]
 item:=by
  intro X hP hw hK hc i pins s σ H E I hf st hg;subst hP hw hK;obtain ⟨f0,f1,f2,f3,f4,f5⟩:=hf it (by simp);refine (W X.A (I.ok.hd hc)).item i s _ E hg st.1 λv h' tk hv st' hk=>?_;obtain ⟨c,u,hc',rfl⟩:=hv;have I1:Inv X pins σ H { s with heap:=h',toks:=tk }:=I.turned (t':=tk) (λb o hb e=>hk b o (by simpa using hb) e) f0 f1 f3 f4 f5;exact#[_,rfl,yAO #[.str ⟨#[c]⟩,H,I1,#[_,rfl],#[rfl,c,hc',rfl],#[st',hg],λb hb=>(hf b hb).1]]
 done:=by
  intro X hP hw hK hc i pins s σ H E I hf st hg;subst hP hw hK;obtain ⟨f0,f1,f2,f3,f4,f5⟩:=hf it (by simp);have e:i=z.cps.size:=Nat.le_antisymm st.2 hg;have st1:=st.1;rw [e] at st1;exact (W X.A (I.ok.hd hc)).done s _ E st1 λh' tk hk=>#[rfl,I.turned (t':=tk) (λb o hb e=>hk b o (by simpa using hb) e) f0 f1 f3 f4 f5]
 self:=λA i s Q E st h=>sf A i s Q E st.1 h
section
variable {X:Cx}
def Zf6 (tl:TE):TI:=λσ H R=>tl σ H λx H1=>∃ z,x=.str z/\R (Its z) H1
def zRP {l:Expr}{tl:TE}{y:Str}{py:Pos}(hl:PE X l tl):PI X (.Name y py) l (Zf6 tl):=by
 intro pins s σ H R I h;refine thn (hl pins s σ H _ I h) λv s1 hM=>?_;obtain ⟨x,H1,I1,r1,q1⟩:=hM;obtain ⟨z,e,q⟩:=q1;subst e;obtain ⟨t,rfl⟩:=r1
 have fin:∀ (ty:String) (o:Obj),o={ cls:=.type ty,data:=.fields (List.toArray [.str z t,rawInt 0]) }->(∀ A':eAK,A'.handled=none->Walks X.prog X.w A' (kZ s1) [(kZ s1)] [(kZ s1)] z.cps.size (SignAt z) (λi h=>h.IsStrIter (kZ s1) ty z t i)) ->
   (∀ (A:eAK) (i:Nat) (s:Shared) (Q:kW) (E:kW),s.heap.IsStrIter (kZ s1) ty z t i->Q (.ref (kZ s1)) s->wpAny (model X.prog X.w) A (pyIter (.ref (kZ s1))) Q E s)->(s1.heap.push o).IsStrIter (kZ s1) ty z t 0 ->
   PIE X pins σ (.Name y py) R (.ref (kZ s1)) { s1 with heap:=s1.heap.push o }:=λty o ho W sf st=>by
  refine#[(kZ s1),[(kZ s1)],_,_,H1,rfl,I1.kept (t':=s1.toks) λb o e=>yAD _ e,zV4 z _ _ (λi h hst=>?_) W sf (λ_ _ _=>trivial),#[st,yBN _],λb hb=>?_,q]
  ·obtain ⟨o,e,c,d⟩:=hst
   exact#[o,e,λv zz=>by rw [d] at zz;cases zz]
  ·have e:b=(kZ s1):=by simpa using hb
   subst e;exact I1.fpOk (yAF _) (I1.hok.fresh (yAF _))
 cases ha:z.cps.all (·<128)
 ·exact wpAny_pyIter_wide ha (fin "str_iterator" _ rfl (λA' hA=>Walks.strWide hA _ z t) (λA i s Q E st h=>wpAny_pyIter_striter_wide st h) #[_,yAc _ rfl,rfl,rfl])
 ·exact wpAny_pyIter_ascii ha (fin "str_ascii_iterator" _ rfl (λA' hA=>Walks.strAscii hA _ z t) (λA i s Q E st h=>wpAny_pyIter_striter_ascii st h) #[_,yAc _ rfl,rfl,rfl])
def zMT {bs:List Bool}{us:List Value}(r:Vals (bs.map V.bl) us)(i:Nat)(v:Value)(h:us[i]?=some v):v=.bool (bs.getD i true):=by
 have hl:=r.length;rw [yAA] at hl;have hi:i<bs.length:=by rw [hl];exact (yAH.mp h).1
 obtain ⟨u,hu,ru⟩:=r.get (i:=i) (x:=.bl bs[i]) (by rw [yAa,yAB hi];rfl);rw [h] at hu
 cases hu
 have:v=.bool bs[i]:=ru
 rw [this]
 simp [hi]
def zQT (bs:List Bool):((eAJ bs.length).all λi=>bs.getD i true)=bs.all id:=by
 have:=zHW bs true
 conv=>rhs;rw [<- this]
 rw [List.all_map];rfl
def NB6 (K:Frag):=∀ (p:Addr) (bs:List Bool),xs=[.ref p]->SqL K H p (bs.map V.bl)->Q (.bl (bs.all id)) H->NB6 K xs H Q
def zGI (hc:X.calm=true):ZDK X (.builtin "all") (NB6 X.K):=by
 intro pins s σ H xs us Q I r h;obtain ⟨p,bs,rfl,hq,q⟩:=h;obtain ⟨u,rfl,ru⟩:=zEP r
 cases ru
 obtain ⟨its,rv,pl,hz⟩:=I.list hq;have hl:=rv.length;rw [yAA] at hl;have hh:X.A.in1.handled=none:=I.ok.hd hc;have hlt:p<(kZ s):=by obtain ⟨o,n,e,_⟩:=pl;exact yAP e
 refine call_all_walk (yCr pl.isList ?_);refine#[(kZ s),_,_,_,_,_,λi=>bs.getD i true,rfl,Walks.list hh (kZ s) p (yAo hlt) its.toArray,#[#[_,yAc _ rfl,rfl,rfl],pl.isList.push _],λi v s' Q' E' hP hq'=>?_,λh' tk hk=>?_]
 ·have:v=.bool (bs.getD i true):=zMT rv i v (by simpa using hP)
  subst this;exact yBb hq'
 ·rw [yAM,<- hl,zQT]
  refine#[.bl (bs.all id),H,I.kept (t':=tk) λb o e=>?_,rfl,q];exact hk b o (λzz=>by have e2:=yAP e;rw [yAE.mp zz] at e2;exact yBk _ e2) (yAD _ e)
def zK7:∀ {ys:List Str} {us:List Value},Vals (ys.map V.str) us->StrsAre us ys
 | [],_,.nil=>.nil
 | y::r,_,.cons h t=>by
  obtain ⟨tk,rfl⟩:=h;exact .cons y tk (zK7 t)
def zbO {n:Nat}(h:n<=16000000):Builtin.Str.tooLong n=false:=by
 unfold Builtin.Str.tooLong;exact yAG (Nat.not_lt.mpr (yAp h dQ))
def zT8 (z:Str)(l u:Option Int):(Txt.slice z l u).length<=z.length:=by
 unfold Txt.slice
 split
 ·exact yAF _
 ·show (((Builtin.Str.strSliceIndices l u 1 z.length).filterMap (z.cps[·]?)).toArray).size<=_
  rw [yAM];exact yAp (List.length_filterMap_le _ _) (sliceIndices_le l u z.length)
inductive rSlS (x:V)(lo:Option Int)(hi:Option Int)(H:Hp)(Q:VK):Prop
 | mk:∀ z,x=.str z->z.length<=eA5->Q (.str (Txt.slice z lo hi)) H->rSlS x lo hi H Q
def zX2:SlR X rSlS:=by
 intro pins s σ H x v vl vu lo hi sl Q I rx hs pl pu h;obtain ⟨z,rfl,hz,q⟩:=h;obtain ⟨t,rfl⟩:=rx;refine#["str",_,F.slot_str_getitem.lookup,typeIs_str _ _ _,?_];obtain ⟨o,ho,hc,hd⟩:=hs
 have fin:∀ (l u:Option (Int×Tok)),l.map (·.1)=lo->u.map (·.1)=hi->vl=partValue l->vu=partValue u->kM (getItem (.str z t) (.ref sl)) (EP X pins σ Q) X.xe s:=λl u h1 h2 e1 e2=>by
  subst h1 h2 e1 e2;refine wpAny_getItem_str_slice (l:=l) (u:=u) (st:=none) #[o,ho,hc,hd] rfl ?_;have hl:=zT8 z (l.map (·.1)) (u.map (·.1));unfold sliceMade;unfold Txt.slice at q hl;have e0:slicePicked z l u none=Builtin.Str.strSliceIndices (l.map (·.1)) (u.map (·.1)) 1 z.length:=rfl;rw [e0]
  by_cases c:((1:Int)==1&&(Builtin.Str.strSliceIndices (l.map (·.1)) (u.map (·.1)) 1 z.length).length==z.length)=true
  ·have c':(((Option.none:Option (Int×Tok)).map (·.1)).getD 1==1&&(Builtin.Str.strSliceIndices (l.map (·.1)) (u.map (·.1)) 1 z.length).length==z.length)=true:=c
   rw [yAS c] at q;rw [yAS c'];exact#[.str z,H,I,#[_,rfl],q]
  ·have c':¬(((Option.none:Option (Int×Tok)).map (·.1)).getD 1==1&&(Builtin.Str.strSliceIndices (l.map (·.1)) (u.map (·.1)) 1 z.length).length==z.length)=true:=c
   rw [yAT c] at q hl;rw [yAT c'];exact#[yAp hl hz,.str _,H,I.tok _,#[_,rfl],q]
 cases pl with
 | none=>cases pu with
  | none=>exact fin none none rfl rfl rfl rfl
  | int j tj=>exact fin none (some (j,tj)) rfl rfl rfl rfl
 | int i ti=>cases pu with
  | none=>exact fin (some (i,ti)) none rfl rfl rfl rfl
  | int j tj=>exact fin (some (i,ti)) (some (j,tj)) rfl rfl rfl rfl
def KC3:=∀ z n,x=.str z->y=.int n->0<=n->n<=10000->z.length<=1000->(∀ z':Str,(z'.length:Int)=z.length*n->Q (.str z') H)->KC3 x y H Q
def MA7 (K:Frag):=∀ (sep:Str) (l:Addr) (ys:List Str),x=.str sep->vs=[.ref l]->SqL K H l (ys.map V.str)->(ys.map (·.length)).sum+ys.length*sep.length<=10000->(∀ z:Str,z.length<=10000->Q (.str z) H)->MA7 K x vs H Q
def MA8:=∀ z,x=.str z->vs=[]->z.length<=eA5->(PySem.wordsOf z).length<=1000->(Builtin.Str.spaceWords z (z.length+1)==[(0,z.length)])=false->(∀ D,H D=none->Q (.ref D) (upd H D (.lst ((PySem.wordsOf z).map V.str))))->MA8 x vs H Q
def MA9:=∀ z,x=.str z->vs=[]->z.length<=1000->(∀ z':Str,z'.length<=3*z.length->Q (.str z') H)->MA9 x vs H Q
def MB0:=∀ z n,x=.str z->vs=[.int n]->0<=n->n<=1000->z.length<=1000->(∀ z':Str,z'.length<=1000->Q (.str z') H)->MB0 x vs H Q
def MB1:=∀ z y i rest,x=.str z->vs=[.str y]->(Builtin.Str.occurrences z y 0 z.length 1=i::rest)->(Q (.int (i:Nat)) H)->MB1 x vs H Q
def NB7:=∀ z n,xs=[.str z]->PySem.intText? z=some n->z.length<=640->Q (.int n) H->NB7 xs H Q
end
def zaR {P:eAD}{w:World}{k:Key}{u:Value}(h:(ZAF P w).is k u=true):RelV (kV k) u:=by
 rcases k with i|x
 ·cases u<;>first|(cases h;done)|skip
  rename_i j t
  have:j=i:=by simpa [ZAF,ZJ1,Value.isInt] using h
  subst this;exact#[_,rfl]
 ·cases u<;>first|(cases h;done)|skip
  rename_i j t
  have:j=x:=by simpa [ZAF,ZJ1,Value.isStrOf] using h
  subst this;exact#[_,rfl]
def zK8 {P:eAD}{w:World}:∀ {kvs:List (Key×V)} {vs:List (Key×Value)} {us:List Value},KV kvs vs->us.length=vs.length->(∀ (i:Nat) v,us[i]?=some v->∃ k x,vs[i]?=some (k,x)/\(ZAF P w).is k v=true)->Vals (kvs.map λkv=>kV kv.1) us
 | _,_,[],.nil,_,_=>.nil
 | _,_,_::_,.nil,h,_=>by cases h
 | _,_,[],.cons _ _,h,_=>by cases h
 | _,_,u::us,.cons r t,h,f=>by
  obtain ⟨k,x,e,hk⟩:=f 0 u rfl
  cases e
  refine .cons ?_ (zK8 t (by simpa using h) λi v hv=>f (i+1) v hv);show RelV (kV _) u;rw [r.1];exact zaR hk
def NB8:=∀ p kvs,xs=[.ref p]->H p=some (.dK kvs)->(∀ l,H l=none->Q (.ref l) (upd H l (.lst (kvs.map λkv=>kV kv.1))))->NB8 xs H Q
def zP8 {X:Cx}(hc:X.calm=true):ZDK X (.type "list") NB8:=by
 intro pins s σ H xs us Q I r h;obtain ⟨p,kvs,rfl,hp,q⟩:=h;obtain ⟨u,rfl,rx⟩:=zEP r
 cases rx
 obtain ⟨z,hd,vs,rel,dd⟩:=zWH I.hok hp;obtain ⟨ep,da⟩:=dd.dictAt;have hl:=rel.length;refine PySem.W.kdl_call (PySem.W.kdl_dict (knd:=ZAF X.prog X.w) (kvs:=vs) (ep:=ep) hd) (I.ok.hd hc) da oz λh' tk acc c hk hS hacc=>?_;have hv:Vals (kvs.map λkv=>kV kv.1) acc.toList:=zK8 rel (by rw [yBJ];exact hacc.1) λi v e=>hacc.2 i v (by rw [<- yBH];exact e);refine#[.ref (kZ s),_,I.laid (a:=(kZ s)) (o:=.lst (kvs.map λkv=>kV kv.1)) (t':=tk) hk (yAF _) #[by rw [yAA];exact z,acc.toList,c,hv,by rw [Array.toArray_toList];exact hS],rfl,q _ (I.hok.fresh (yAF _))]
def At1 (a:Addr)(H H':Hp):Prop:=∀ o,H a=some o->H' a=some o
theorem Same.at1 {H H':Hp}(g:Same H H')(a:Addr):At1 a H H':=λo h=>g a o h
theorem SqL.at1 {K:Frag}{H H':Hp}{a:Addr}{xs:List V}(e:At1 a H H')(h:SqL K H a xs):SqL K H' a xs:=by
 rcases h with (h|⟨o,h⟩)|h
 ·exact .inl (.inl (e _ h))
 ·exact .inl (.inr #[o,e _ h])
 ·exact .inr h
theorem SqT.at1 {K:Frag}{H H':Hp}{a:Addr}{xs:List V}(e:At1 a H H')(h:SqT K H a xs):SqT K H' a xs:=by
 rcases h with (h|⟨o,h⟩)|h
 ·exact .inl (.inl (e _ h))
 ·exact .inl (.inr #[o,e _ h])
 ·exact .inr h
abbrev Sq (K:Frag)(H:Hp)(a:Addr)(xs:List V):Prop:=SqL K H a xs \/ SqT K H a xs
theorem Sq.at1 {K:Frag}{H H':Hp}{a:Addr}{xs:List V}(e:At1 a H H')(h:Sq K H a xs):Sq K H' a xs:=h.imp (SqL.at1 e) (SqT.at1 e)
def zJQ {H:Hp}{p:Addr}(h:H p=none)(o:HO):Same H (upd H p o):=λb u q=>by rw [zA6 (zA3 q h)];exact q
def zC5 {K:Frag}{g:TG}{tb:TS}{D:Ends}{σ:St}{H1:Hp}{a:Addr}{ys:List V}(sq:Sq K H1 a ys)(Pv:Nat->St->Hp->Prop)(h0:Pv 0 σ H1)(hk:∀ i σ H',Pv i σ H'->At1 a H1 H')
  (hs:∀ i σ H' x,i<ys.length->ys[i]?=some x->Pv i σ H'->g x σ H' λσ2 H2=>tb { D with nx:=Pv (i+1),ct:=Pv (i+1),bk:=D.nx } σ2 H2) (hd:∀ σ H',Pv ys.length σ H'->D.nx σ H') :
  (∃ xs,SqL K H1 a xs)/\(∃ W:Nat->Nat->St->Hp->Prop,(∃ m,W 0 m σ H1)/\∀ i m σ H,W i m σ H ->
   ((Itl K a).stop i H/\D.nx σ H) \/ ((Itl K a).go i H/\∃ N:St->Hp->Prop,(∀ σ' H',N σ' H'->∃ m',m'<m/\W (i+1) m' σ' H')/\∀ x H',(Itl K a).yld i H x H'->g x σ H' λσ2 H2=>tb { D with nx:=N,ct:=N,bk:=D.nx } σ2 H2)) \/
  (∃ xs,SqT K H1 a xs)/\(∃ W:Nat->Nat->St->Hp->Prop,(∃ m,W 0 m σ H1)/\∀ i m σ H,W i m σ H ->
   ((Itt K a).stop i H/\D.nx σ H) \/ ((Itt K a).go i H/\∃ N:St->Hp->Prop,(∀ σ' H',N σ' H'->∃ m',m'<m/\W (i+1) m' σ' H')/\∀ x H',(Itt K a).yld i H x H'->g x σ H' λσ2 H2=>tb { D with nx:=N,ct:=N,bk:=D.nx } σ2 H2)):=by
 rcases sq with sq|sq
 ·refine .inl #[#[_,sq],zHT ys.length Pv h0 (λi σ H' hi hP=>#[ys,ys[i],SqL.at1 (hk _ _ _ hP) sq,by simp [hi]]) (λσ H' hP=>#[ys,SqL.at1 (hk _ _ _ hP) sq,yAF _]) (λi σ H' x H2 hi hP y=>?_) hd]
  obtain ⟨rfl,hx⟩:=y;exact hs i σ _ x hi (hx ys (SqL.at1 (hk _ _ _ hP) sq)) hP
 ·refine .inr #[#[_,sq],zHT ys.length Pv h0 (λi σ H' hi hP=>#[ys,ys[i],SqT.at1 (hk _ _ _ hP) sq,by simp [hi]]) (λσ H' hP=>#[ys,SqT.at1 (hk _ _ _ hP) sq,yAF _]) (λi σ H' x H2 hi hP y=>?_) hd]
  obtain ⟨rfl,hx⟩:=y;exact hs i σ _ x hi (hx ys (SqT.at1 (hk _ _ _ hP) sq)) hP
def zC6 {K:Frag}{o0:HO}{xs:List Str}{fv:List (Str×Nat)}{g:TG}{tt:TT}{tb:TB}{σ:St}{H1:Hp}{Q:VK}{a:Addr}{ys:List V}(sq:Sq K H1 a ys)(Pv:Nat->Addr->Hp->Prop)(h0:∀ D,H1 D=none->Pv 0 D (upd H1 D o0))
  (hk:∀ i D H',H1 D=none->Pv i D H'->At1 a H1 H')
  (hs:∀ i D H' x,H1 D=none->i<ys.length->ys[i]?=some x->Pv i D H'->g x (ρT xs fv σ) H' λσ2 H2=>ZIK xs (ρT xs fv σ) σ2/\tt σ2 H2 λb H3=>if b=true then tb D σ2 H3 (Pv (i+1) D) else Pv (i+1) D H3)
  (hd:∀ D H',H1 D=none->Pv ys.length D H'->Q (.ref D) H') :
  (∃ xs,SqL K H1 a xs)/\ZCY o0 xs fv g tt tb σ (Itl K a) H1 Q \/ (∃ xs,SqT K H1 a xs)/\ZCY o0 xs fv g tt tb σ (Itt K a) H1 Q:=by
 rcases sq with sq|sq
 ·refine .inl #[#[_,sq],zC7 ys.length Pv h0 (λi D H' hD hi hP=>#[ys,ys[i],SqL.at1 (hk _ _ _ hD hP) sq,by simp [hi]]) (λD H' hD hP=>#[ys,SqL.at1 (hk _ _ _ hD hP) sq,yAF _]) (λi D H' x H2 hD hi hP y=>?_) hd]
  obtain ⟨rfl,hx⟩:=y;exact hs i D _ x hD hi (hx ys (SqL.at1 (hk _ _ _ hD hP) sq)) hP
 ·refine .inr #[#[_,sq],zC7 ys.length Pv h0 (λi D H' hD hi hP=>#[ys,ys[i],SqT.at1 (hk _ _ _ hD hP) sq,by simp [hi]]) (λD H' hD hP=>#[ys,SqT.at1 (hk _ _ _ hD hP) sq,yAF _]) (λi D H' x H2 hD hi hP y=>?_) hd]
  obtain ⟨rfl,hx⟩:=y;exact hs i D _ x hD hi (hx ys (SqT.at1 (hk _ _ _ hD hP) sq)) hP
def zKO {K:Frag}{o0:HO}{xs:List Str}{fv:List (Str×Nat)}{g:TG}{tt:TT}{tb:TB}{σ:St}{H1:Hp}{Q:VK}{a:Addr}{ys:List V}(sq:Sq K H1 a ys)(Pv:Nat->Addr->Hp->Prop)(h0:∀ D,H1 D=none->Pv 0 D (upd H1 D o0))
  (hk:∀ i D H',H1 D=none->Pv i D H'->At1 a H1 H')
  (hs:∀ i D H' x r,H1 D=none->i<ys.length->ys[i]?=some x->Pv i D H'->H' r=none->g (.ref r) (ρT xs fv σ) (upd H' r (.tup [.int (i:Nat),x])) λσ2 H2=>ZIK xs (ρT xs fv σ) σ2/\tt σ2 H2 λb H3=>if b=true then tb D σ2 H3 (Pv (i+1) D) else Pv (i+1) D H3)
  (hd:∀ D H',H1 D=none->Pv ys.length D H'->Q (.ref D) H') :
  (∃ xs,SqL K H1 a xs)/\ZCY o0 xs fv g tt tb σ (Ite K a) H1 Q \/ (∃ xs,SqT K H1 a xs)/\ZCY o0 xs fv g tt tb σ (ZZM K a) H1 Q:=by
 rcases sq with sq|sq
 ·refine .inl #[#[_,sq],zC7 ys.length Pv h0 (λi D H' hD hi hP=>#[ys,ys[i],SqL.at1 (hk _ _ _ hD hP) sq,by simp [hi]]) (λD H' hD hP=>#[ys,SqL.at1 (hk _ _ _ hD hP) sq,rfl]) (λi D H' x H2 hD hi hP y=>?_) hd]
  obtain ⟨r,x,hr,rfl,hx,rfl⟩:=y;exact hs i D _ x r hD hi (hx ys (SqL.at1 (hk _ _ _ hD hP) sq)) hP hr
 ·refine .inr #[#[_,sq],zC7 ys.length Pv h0 (λi D H' hD hi hP=>#[ys,ys[i],SqT.at1 (hk _ _ _ hD hP) sq,by simp [hi]]) (λD H' hD hP=>#[ys,SqT.at1 (hk _ _ _ hD hP) sq,rfl]) (λi D H' x H2 hD hi hP y=>?_) hd]
  obtain ⟨r,x,hr,rfl,hx,rfl⟩:=y;exact hs i D _ x r hD hi (hx ys (SqT.at1 (hk _ _ _ hD hP) sq)) hP hr
def zE5 {o0:HO}{xs:List Str}{fv:List (Str×Nat)}{g:TG}{tt:TT}{tb:TB}{σ:St}{H1:Hp}{Q:VK}{lo:Int}{n:Nat}(Pv:Nat->Addr->Hp->Prop)(h0:∀ D,H1 D=none->Pv 0 D (upd H1 D o0))
  (hs:∀ i D H',H1 D=none->i<n->Pv i D H'->g (.int (lo+i)) (ρT xs fv σ) H' λσ2 H2=>ZIK xs (ρT xs fv σ) σ2/\tt σ2 H2 λb H3=>if b=true then tb D σ2 H3 (Pv (i+1) D) else Pv (i+1) D H3)
  (hd:∀ D H',H1 D=none->Pv n D H'->Q (.ref D) H'):ZCY o0 xs fv g tt tb σ (Itr lo n) H1 Q:=by
 refine zC7 n Pv h0 (λi D H' hD hi hP=>hi) (λD H' hD hP=>yAF _) (λi D H' x H2 hD hi hP y=>?_) hd;obtain ⟨rfl,rfl⟩:=y;exact hs i D _ hD hi hP
def Zc4:Expr->Option V
 | .Constant (.int i) _ _=>some (.int i)
 | .Constant (.str x) _ _=>some (.str x)
 | .Constant (.bool b) _ _=>some (.bl b)
 | .Constant .none _ _=>some .non
 | _=>none
def ZaZ (cs:List V)(t:TA):TA:=λσ H Q=>t σ H λvs H1=>Q (cs++vs) H1
def zaA {X:Cx}{e:Expr}{es:List Expr}{c:V}{cs:List V}{t:TA}(h:Zc4 e=some c)(hr:PA X es (ZaZ cs t)):PA X (e::es) (ZaZ (c::cs) t):=by
 have main:∀ {te:TE},PE X e te->(∀ σ H Q,te σ H Q=Q c H)->eAO (e::es) X.env=(false,eval e X.env)::eAO es X.env->PA X (e::es) (ZaZ (c::cs) t):=λ{te} he hte hs=>by
  have q:=zBP he hr hs;intro pos pins s σ H Q I hw;refine q pos pins s σ H Q I ?_;show te σ H _;rw [hte];exact hw
 unfold Zc4 at h
 split at h
 ·cases h;exact main zA5 (λ_ _ _=>rfl) rfl
 ·cases h;exact main zAL (λ_ _ _=>rfl) rfl
 ·cases h;exact main zC0 (λ_ _ _=>rfl) rfl
 ·cases h;exact main zBV (λ_ _ _=>rfl) rfl
 ·cases h
def zPK {X:Cx}{t:TA}:∀ (n:Nat) {es:List Expr} {cs:List V},(es.take n).map Zc4=cs.map some->PA X (es.drop n) t->PA X es (ZaZ cs t)
 | 0,es,cs,h,hr=>by
  cases cs with
  | nil=>exact hr
  | cons _ _=>simp at h
 | n+1,[],cs,h,hr=>by
  cases cs with
  | nil=>exact hr
  | cons _ _=>simp at h
 | n+1,e::es,cs,h,hr=>by
  cases cs with
  | nil=>simp at h
  | cons c cs=>
   simp only [List.take_succ_cons,yAq,List.cons.injEq] at h;exact zaA h.1 (zPK n h.2 hr)
def ZcX (cs:List V):TA:=λ_ H Q=>Q cs H
def zZG {X:Cx}(cs:List V){es:List Expr}(h:es.map Zc4=cs.map some:=by rfl):PA X es (ZcX cs):=by
 have q:PA X es (ZaZ cs ZWP):=zPK es.length (by rw [yAs (yAF _)];exact h) (by rw [yCI (yAF _)];exact zB5);intro pos pins s σ H Q I hw;refine q pos pins s σ H Q I ?_;show Q (cs++[]) H;rw [yBh];exact hw
structure PEH (X:Cx)(e:Expr)(t:TE):Prop where
 out:PE X e t
structure PAH (X:Cx)(es:List Expr)(t:TA):Prop where
 out:PA X es t
structure PSH (X:Cx)(st:List Stmt)(t:TS):Prop where
 out:PSs X st t
section
variable {X:Cx}
def zYW {j pos}:PEH X (.Constant .none j pos) (tC .non):=PEH.mk zBV
def zT6 {i j pos}:PEH X (.Constant (.int i) j pos) (tC (.int i)):=PEH.mk zA5
def zGM {x j pos}:PEH X (.Constant (.str x) j pos) (tC (.str x)):=PEH.mk zAL
def zC2:PAH X [] ZWP:=PAH.mk zB5
def zAI {e:Expr}{es:List Expr}{te:TE}{t:TA}(ha:PEH X e te)(hr:PAH X es t)(hs:eAO (e::es) X.env=(false,eval e X.env)::eAO es X.env:=by rfl):PAH X (e::es) (ZOR te t):=PAH.mk (zBP ha.out hr.out hs)
def zFC {es:List Expr}{t:TA}{pos}(h:PAH X es t):PEH X (.List es pos) (ZdR t):=PEH.mk (zB1 h.out)
def zH6 {es:List Expr}{t:TA}{x1 pos}(h:PAH X es t):PEH X (.Tuple es x1 pos) (ZeO t):=PEH.mk (zB9 h.out)
def zSQ {pos}:PEH X (.Dict [] [] pos) ZWR:=PEH.mk zIN
def zcT {c:Expr}{a b:List Stmt}{tc:TT}{t u:TS}{pos}(hc:PT X c tc)(ha:PSH X a t)(hb:PSs X b u):PS X (.If c a b pos) (ZeK tc t u):=zAK hc ha.out hb
end
def zGA {X:Cx}(cs:List V){es:List Expr}(h:es.map Zc4=cs.map some:=by rfl):PAH X es (ZcX cs):=PAH.mk (zZG cs h)
theorem Fun.okH {P:eAD}{w:World}{K:Frag}{mg:Str->Option Value}{base:Heap}{x qual:Str}{st:Stmt}{f:Addr}{fd:eAY}{N ps:List Str}{k:Nat}{sp:Sp}(F:Fun K x qual st f fd)(S:UAC N ps (ZA4 st))(len:∀ vs H Q E,sp vs H Q E->vs.length=ps.length)
  (hbody:∀ (cdv:Value) (A:eAK) (outer:List Env) (s:Shared) (H:Hp) (vs:List V) (Q:VK) (E:XK),Room k (A.deeper (envOfC qual (ZA4 st) (kZ s) f cdv))->sp vs H Q E ->
   ∃ t,PSH (ZT1 CX0 P w K mg base N qual (ZA4 st) f cdv A outer s H E).nox (ZD3 st) t/\t { nx:=λ_ H'=>Q .non H',rt:=Q } (UAf N vs) H):Fk (k+1) f fd ps sp:=
 F.ok S len λcdv A outer s H vs Q E hr h=>let ⟨t,a,b⟩:=hbody cdv A outer s H vs Q E hr h;#[t,a.out,b]
def zJF {X:Cx}{sts rest:List Stmt}{es:List Expr}{x:Str}{p p1 p2:Pos}{i:Nat}{t:TA}{t2:TS}(h:sts=.Assign [.Name x p] (.List es p1) p2::rest)(nd:X.N.Nodup)(hi:X.N[i]?=some x)(hx:X.env.scope.names.lookup x=some .local \/ X.env.scope.names.lookup x=some .cell)(ha:PAH X es t)(hr:PSs X rest t2)
  (hf:X.fn x=true \/ X.env.scope.names.lookup x=some .local:=by first|exact .inl rfl|exact .inr rfl|assumption):PSH X sts (ZXY (Zd5 (ZdR t) (ZFS i)) t2):=by
 rw [h];exact PSH.mk (zA1 (zE7 (i:=i) nd hi hx (zB1 ha.out)) hr)
structure PS1 (X:Cx)(st:Stmt)(t:TS):Prop where
 out:PS X st t
structure PIH (X:Cx)(tg e:Expr)(t:TI):Prop where
 out:PI X tg e t
section
variable {X:Cx}
def zIX {st:Stmt}{rest:List Stmt}{t u:TS}(h1:PS1 X st t)(h2:PSH X rest u):PSH X (st::rest) (ZXY t u):=PSH.mk (zA1 h1.out h2.out)
def zVG {st:Stmt}{t:TS}(h1:PS1 X st t):PSH X [st] t:=PSH.mk (zA2 h1.out)
def zXL {tg iter:Expr}{body:List Stmt}{wi:TI}{g:TG}{tb:TS}{pos:Pos}(hp:PassesOwn (model X.prog X.w) X.A X.env X.xe)(hc:X.calm=true)(hi:PIH X tg iter wi)(hg:PG X tg g)(hb:PSs X body tb)
  (hs:∀ x,foldedSetIterable iter X.env x=pure x:=by intro _;rfl):PS1 X (.For tg iter body [] pos) (ZaL wi g tb):=PS1.mk (zBK hp hc hi.out hg hb hs)
def zPE {tg a:Expr}{ta:TA}{p pos:Pos}(hg:Gl X "range")(hm:X.mg "range"=none)(ha:PAH X [a] ta)(hs:eAO [a] X.env=[(false,eval a X.env)]:=by rfl):PIH X tg (.Call (.Name "range" p) [a] [] pos) (ZbF ta):=PIH.mk (zBG hg hm ha.out hs)
def zWN {r:R2}{a b:Expr}{ta tb:TE}{pos:Pos}(hr:IxR X r)(ha:PEH X a ta)(hb:PEH X b tb)(hs:ZSH b):PEH X (.Subscript a b pos) (tOp r ta tb):=PEH.mk (zBF hr ha.out hb.out hs)
end
abbrev mkS (l:List Nat):Str:=⟨l.toArray⟩
def zZJ {l l':List Nat}(h:mkS l=mkS l'):l=l':=by
 have:(mkS l).cps.toList=(mkS l').cps.toList:=by rw [h]
 simpa using this
def zCS (l:List Nat):(mkS l).length=l.length:=yAM
def zcW (z:Str):mkS z.cps.toList=z:=by
 cases z
 simp [mkS]
def zH5 (l l':List Nat):mkS l++mkS l'=mkS (l++l'):=by
 apply Str.ext';show l.toArray++l'.toArray=(l++l').toArray
 simp
def zTY {l:List Nat}{j:Int}(h0:0<=j)(h1:j<=(l.length:Int)):Txt.slice (mkS l) none (some j)=mkS (l.take j.toNat):=by
 have h:StrLaws.sliceText (mkS l) none (some j)=_:=StrLaws.sliceText_to #[h0,by simpa using h1];have e:Txt.slice (mkS l) none (some j)=StrLaws.sliceText (mkS l) none (some j):=rfl;rw [e,h]
 simp [mkS]
def zOY {l:List Nat}{i:Int}(h0:0<=i)(h1:i<=(l.length:Int)):Txt.slice (mkS l) (some i) none=mkS (l.drop i.toNat):=by
 have h:StrLaws.sliceText (mkS l) (some i) none=_:=StrLaws.sliceText_from #[h0,by simpa using h1];have e:Txt.slice (mkS l) (some i) none=StrLaws.sliceText (mkS l) (some i) none:=rfl;rw [e,h];have e2:(mkS l).cps.toList=l:=by simp
 rw [e2];apply Str.ext';show (List.take ((l.length:Int)-i).toNat (List.drop i.toNat l)).toArray=(List.drop i.toNat l).toArray;rw [yAs (by rw [yCK];lia)]
def zHY:∀ (cs acc:List Nat),(cs.map λc=>(⟨#[c]⟩:Str)).foldl (λacc p=>acc++(Str.empty:Str).cps++p.cps) acc.toArray=(acc++cs).toArray
 | [],acc=>by simp
 | c::cs,acc=>by
  rw [yAq,yEX]
  have e:acc.toArray++(Str.empty:Str).cps++(#[c]:Array Nat)=(acc++[c]).toArray:=by
   show acc.toArray ++ #[] ++ #[c]=_
   simp
  rw [e,zHY cs (acc++[c])]
  simp
def zLC (cs:List Nat):Builtin.Str.glued Str.empty (cs.map λc=>⟨#[c]⟩)=mkS cs:=by
 apply Str.ext'
 cases cs with
 | nil=>rfl
 | cons c cs=>
  show ((cs.map λc=>(⟨#[c]⟩:Str)).foldl (λacc p=>acc++(Str.empty:Str).cps++p.cps) [c].toArray)=_;rw [zHY];rfl
section
variable {X:Cx}
def MB2 (K:Frag):=∀ (l:Addr) (cs:List Nat),x=.str Str.empty->vs=[.ref l]->(SqL K H l (cs.map λc=>V.str ⟨#[c]⟩))->cs.length<=1000->Q (.str (mkS cs)) H->MB2 K x vs H Q
def zVO:MtR X "str.join" (MB2 X.K):=by
 intro pins s σ H x vs v us Q I rx rv h;obtain ⟨l,cs,rfl,rfl,hq,hb,q⟩:=h;obtain ⟨t,rfl⟩:=rx;obtain ⟨u,rfl,ru⟩:=rv.one
 cases ru
 have e:(cs.map λc=>V.str ⟨#[c]⟩)=(cs.map λc=>(⟨#[c]⟩:Str)).map V.str:=by rw [yCA];rfl
 rw [e] at hq;obtain ⟨its,r,p,hz⟩:=I.list hq
 have hs:((cs.map λc=>(⟨#[c]⟩:Str)).map (·.length)).sum<=1000:=by
  have:∀ cs:List Nat,((cs.map λc=>(⟨#[c]⟩:Str)).map (·.length)).sum=cs.length:=λcs=>by
   induction cs with
   | nil=>rfl
   | cons c cs ih=>
    rw [yAq,yAq,yEG,ih,yBK];show 1+cs.length=_;lia
  rw [this];exact hb
 have h0:(Str.empty:Str).length=0:=rfl;refine join_list p.isList (zK7 r) (by rw [h0];lia) λt' k=>#[.str _,H,I.tok _,#[_,rfl],?_];show Q (V.str (Builtin.Str.glued Str.empty (cs.map λc=>(⟨#[c]⟩:Str)))) H;rw [zLC];exact q
end
theorem gNs {i:Nat}{v:V}{σ:St}{H:Hp}{k:St->Hp->Prop}(h:k (σ.set i (some v)) H):ZFS i v σ H k:=h
theorem sH {A B:TS}{D:Ends}{σ:St}{H:Hp}(h:∀ B':TS,B'=B->ZXY A B' D σ H):ZXY A B D σ H:=h B rfl
theorem sR {B B':TS}(e:B'=B){D:Ends}{σ:St}{H:Hp}(h:B D σ H):B' D σ H:=e ▸ h
theorem dH {B:TS}{D:Ends}{σ:St}{H:Hp}(h:∀ D':Ends,D'=D->B D' σ H):B D σ H:=h D rfl
theorem sfH {it:TI}{g:TG}{b B:TS}{D:Ends}{σ:St}{H:Hp}(h:∀ b':TS,b'=b->∀ B':TS,B'=B->ZXY (ZaL it g b') B' D σ H):ZXY (ZaL it g b) B D σ H:=h b rfl B rfl
theorem fH {it:TI}{g:TG}{b:TS}{D:Ends}{σ:St}{H:Hp}(h:∀ b':TS,b'=b->ZaL it g b' D σ H):ZaL it g b D σ H:=h b rfl
theorem len6 {α:Type}:∀ {us:List α},us.length=6->∃ a b c d e f,us=[a,b,c,d,e,f]|[_,_,_,_,_,_],_=>#[_,_,_,_,_,_,rfl]
open PySem.SeqAt
open PySem.AutoSeq1 (wpAny_loadPart')
open PySem.MeetsSeq PySem.MeetsSeq2 PySem.MeetsSeq3
def zLO:∀ {vs:List Value} {ns:List Int},eAa vs ns->∀ (i:Nat) (h:i<ns.length),∃ t,vs[i]?=some (.int ns[i] t)
 | _,_,.cons a t r,0,_=>#[t,rfl]
 | _,_,.cons a t r,i+1,h=>by
  obtain ⟨u,e⟩:=zLO r i (by simpa using h);exact#[u,e]
def zYN (l b:Addr)(xs ys:Array Value)(c1 c2:Nat)(sl1 sl2:Array (Option Value))(ns ms:List Int)(hx:eAa xs.toList ns)(hy:eAa ys.toList ms)(hz:ns.length=ms.length)(k:Nat) :
  ∀ i:Nat,ns.length-i=k->i<=ns.length->Meets (Builtin.«list.__eq__.loop» #[[.ref l,.ref b,rawInt i,rawInt 0],[]])
   (λ_ R s=>s.heap.get? l=some { cls:=.type "list",dict:=none,data:=.seq xs c1,slots:=sl1 }/\s.heap.get? b=some { cls:=.type "list",dict:=none,data:=.seq ys c2,slots:=sl2 } /\
    R (.ok (.ret (.bool (HT.lexLt (ns.drop i) (ms.drop i))))) s):=by
 have s1:xs.size=ns.length:=by
  rw [<- hx.length]
  simp
 have s2:ys.size=ms.length:=by
  rw [<- hy.length]
  simp
 induction k with
 | zero=>
  intro i hk hi P w A R s #[hl,hb,hR];obtain ⟨hp,gs,dr,tk,os⟩:=s
  wp_walk using yBM hl,yBM hb
  have n1:xs[((i:Nat):Int).toNat]?=none:=by
   simp
   lia
  rw [n1]
  wp_walk using yBM hl,yBM hb
  have d1:ns.drop i=[]:=yCI oz;have d2:ms.drop i=[]:=yCI oz;rw [d1,d2] at hR;show R (.ok (.ret (.bool (decide (xs.size<ys.size))))) _;rw [yAG oz];exact hR
 | succ k ih=>
  intro i hk hi P w A R s #[hl,hb,hR];obtain ⟨hp,gs,dr,tk,os⟩:=s;have i1:i<ns.length:=by lia
  have i2:i<ms.length:=by lia
  obtain ⟨t1,e1⟩:=zLO hx i i1;obtain ⟨t2,e2⟩:=zLO hy i i2
  have f1:xs[((i:Nat):Int).toNat]?=some (.int ns[i] t1):=by
   rw [yAW,<- yBH];exact e1
  have f2:ys[((i:Nat):Int).toNat]?=some (.int ms[i] t2):=by
   rw [yAW,<- yBH];exact e2
  rw [yAz i1,yAz i2,HT.lexLt_cons] at hR
  wp_walk using yBM hl,yBM hb
  rw [f1,f2];obtain ⟨e,he,hiff⟩:=HT.eqAt_int A.in1 #[hp,gs,dr,tk,os] ns[i] t1 ms[i] t2;refine yAC (he P w _ _ ?_)
  cases e with
  | true=>
   rw [yAS (hiff.mp rfl)] at hR
   wp_walk
   have ec:((i:Int)+1)=((i+1:Nat):Int):=by lia
   rw [ec];refine#[plainId_quiet plain_eq_loop _,yCS entry_eq_loop ?_];rw [yDZ plain_eq_loop _];exact ih (i+1) oz oz P w A R _ #[hl,hb,hR]
  | false=>
   rw [yAT (λq=>absurd (hiff.mpr q) yAg)] at hR
   wp_walk using yBM hl,yBM hb
   rw [f1,f2];have rc:=HT.rcLt_int A.in1 #[hp,gs,dr,tk,os] ns[i] t1 ms[i] t2 P w
   wp_walk using rc
   exact hR
def zJM (l b:Addr)(xs ys:Array Value)(c1 c2:Nat)(sl1 sl2:Array (Option Value))(ns ms:List Int)(hx:eAa xs.toList ns)(hy:eAa ys.toList ms)(hz:ns.length=ms.length) :
  Meets (Builtin.«list.__lt__» #[[.ref l,.ref b],[]])
   (λ_ R s=>s.heap.get? l=some { cls:=.type "list",dict:=none,data:=.seq xs c1,slots:=sl1 }/\s.heap.get? b=some { cls:=.type "list",dict:=none,data:=.seq ys c2,slots:=sl2 } /\
    R (.ok (.ret (.bool (HT.lexLt ns ms)))) s):=by
 intro P w A R s #[hl,hb,hR];obtain ⟨hp,gs,dr,tk,os⟩:=s;have sb:=AutoSeq1.sub_list_list
 wp_walk using yBM hl,yBM hb
 refine#[plainId_quiet plain_eq_loop _,yCS entry_eq_loop ?_];rw [yDZ plain_eq_loop _];exact zYN l b xs ys c1 c2 sl1 sl2 ns ms hx hy hz _ 0 rfl (yBN _) P w A R _ #[hl,hb,hR]
def zP0 {P:eAD}{w:World}{A:eAK}{E:kW}{s:Shared}{l b:Addr}{xs ys:Array Value}{ns ms:List Int}{Q:kW}(hl:PlainL s.heap l xs)(hb:PlainL s.heap b ys)(hx:eAa xs.toList ns)(hy:eAa ys.toList ms)(hz:ns.length=ms.length)
  (hu:A.units<cLine) (h:Q (.bool (HT.lexLt ns ms)) s):wpAny (model P w) A (eAP .Lt (.ref l) (.ref b)) Q E s:=by
 obtain ⟨⟨k1,d1,a1,e1⟩,n1,p1,q1,r1,v1⟩:=hl;obtain ⟨⟨k2,d2,a2,e2⟩,n2,p2,q2,r2,v2⟩:=hb;simp only at q1 r1 v1 q2 r2 v2;subst q1 r1 v1 q2 r2 v2
 exact richCompare_meets_room (op:=.Lt) #[_,p1,rfl] #[_,p2,rfl] PySem.F.slot_list_lt PySem.F.entry_list_lt (PySem.F.args_list_lt_2 _ _) (zJM l b xs ys n1 n2 e1 e2 ns ms hx hy hz)
  #[p1,p2,show Value.bool (HT.lexLt ns ms)≠Value.notImplemented/\Q (.bool (HT.lexLt ns ms)) s from#[(λx=>nomatch x),h]] hu
end L2
namespace L2
open PySem PySem.Spec PyProof.Rows PySem.W
def ZTZ (a:Int×List Int):PyData:=.tuple [.int a.1,.list (a.2.map eAf)]
def zLP (ms:List Int):(PyData.list (ms.map eAf)).depth<=2:=by
 have:=zD8 ms
 simp only [eAm];lia
section
variable {X:Cx}{pins:kA}{σ:St}{H:Hp}{s:Shared}
structure UAo (X:Cx)(H:Hp)(s:Shared)(v:Value)(n:Int)(ms:List Int):Prop where
 ex:∃ (a b:Addr) (t:Tok) (o:Obj) (k:Nat) (its:List Value) (bs:List Addr),v=.ref a/\s.heap.get? a=some o/\o.cls=.type "tuple"/\o.data=.seq [.int n t,.ref b].toArray k/\PlainL s.heap b its.toArray/\eAa its ms/\Reads s.heap (.ref b) (.list (ms.map eAf)) bs/\n=(ms.length:Int)
def zYD {v:V}{u:Value}{n:Int}{ms:List Int}(I:Inv X pins σ H s)(h:DV X.K H v (ZTZ (n,ms)))(r:RelV v u)(hn:n=(ms.length:Int)):UAo X H s u n ms:=by
 unfold ZTZ at h;generalize hd:eAn [.int n,.list (ms.map eAf)]=d at h
 cases h with
 | @tup a xs ds hq hs=>
  cases hd
  cases r
  obtain ⟨its,rv,⟨o,e,c,k,d⟩,_⟩:=I.tuple hq
  cases hs with
  | cons h1 t=>
   cases t with
   | cons h2 t2=>
    cases t2
    generalize hd2:eAf n=d1 at h1
    cases h1 with
    | int i=>
     cases hd2
     generalize hd3:PyData.list (ms.map eAf)=d2 at h2;have h2':=h2
     cases h2 with
     | @lst b ys es hq2 hs2=>
      cases hd3
      have ey:=DVs.ints_inv hs2;subst ey
      cases rv with
      | cons r1 rr=>
       cases rr with
       | cons r2 rr2=>
        cases rr2
        obtain ⟨t,rfl⟩:=r1
        cases r2
        obtain ⟨its2,rv2,p2,_⟩:=I.list hq2;obtain ⟨bs,q⟩:=DV.reads I h2' (u:=.ref b) rfl;exact#[a,b,t,o,k,its2,bs,rfl,e,c,d,p2,zHU rv2,q,hn]
     | _=>cases hd3
    | _=>cases hd2
 | _=>cases hd
def zU7 {A:eAK}{E:kW}{u v:Value}{n m:Int}{ms ks:List Int}{C:Bool->Shared->Prop}(hu:A.units+10<cLine)(h1:UAo X H s u n ms)(h2:UAo X H s v m ks)(h:C (ZBQ (n,ms) (m,ks)) s) :
  wpAny (model X.prog X.w) A (keyLt' (tuples' true) u v) C E s:=by
 obtain ⟨a,b,t,o,k,its,bs,rfl,e,c,d,p,ia,rd,l1⟩:=h1.ex;obtain ⟨a',b',t',o',k',its',bs',rfl,e',c',d',p',ia',rd',l2⟩:=h2.ex;refine kat_lt e d e' d' (kat_cons (yDl n t m t' _ _ _ _ ?_));refine kat_go (λz=>?_) (λz=>?_)
 ·have en:n=m:=by simpa using z
  subst en;refine kat_yes (kat_cons (SeqAt.eqAt_reads _ _ A s _ _ _ _ rd rd' ?_ ?_ ?_ _ _ _ _ ?_))
  ·show eAk (ms.map eAf)=true
   exact zCJ ms
  ·show eAk (ks.map eAf)=true
   exact zCJ ks
  ·have q:(PyData.list (ms.map eAf)).depth<=2:=zLP ms
   have:=yES (PyData.list (ms.map eAf)).depth (PyData.list (ks.map eAf)).depth
   lia
  ·have eq1:eAh (.list (ms.map eAf)) (.list (ks.map eAf))=decide (ms=ks):=by
    rw [eAh];exact ked_eqvAll ms ks
   have hk:ZBQ (n,ms) (n,ks)=HT.lexLt ms ks:=by unfold ZBQ;rw [yAS rfl]
   rw [hk] at h;refine kat_go (λy=>?_) (λy=>?_)
   ·rw [eq1] at y
    have em:=yAZ y;subst em;rw [zLU] at h;exact kat_yes (kat_nil h)
   ·refine kat_no (kat_one _ _ ?_)
    exact zP0 (xs:=its.toArray) (ys:=its'.toArray) p p' ia ia' oz oz h
 ·have en:¬n=m:=by simpa using z
  have hk:ZBQ (n,ms) (m,ks)=decide (n<m):=by unfold ZBQ;rw [yAT en]
  rw [hk] at h;exact kat_no (oneLt_int h)
end
section
variable {X:Cx}{k:Nat}{f:Addr}{fd:eAY}{pn:Str}{sp:Sp}{kf:V->Int×List Int}
def ZZB (K:Frag)(kf:V->Int×List Int)(sp:Sp)(te:TE):TE:=ZQ0 ZTZ K kf sp te
def zS1 {e:Expr}{te:TE}{fn:Str}{p kp1 kp2 pos:Pos}(hkf:∀ x,(kf x).1=((kf x).2.length:Int))(F:FnOk X.prog X.w X.K X.mg X.base CX0 k f fd [pn] sp)(hr:Room (k+2) X.A)(hb:UAD X.K fd [pn] [])(hgs:Gl X "sorted")(hms:X.mg "sorted"=none)(hg:Gl X fn)(hm:X.mg fn=some (.ref f))(he:PE X e te)
  (hdb:(fn==("__debug__":Str))=false:=by decide) (hs:eAO [e] X.env=[(false,eval e X.env)]:=by rfl) :
  PE X (.Call (.Name "sorted" p) [e] [#[some "key",.Name fn kp1,kp2]] pos) (ZZB X.K kf sp te):=
 zNR (KA:=UAo X) (okk:=λa=>a.1=(a.2.length:Int)) #[λ_=>#[_,rfl],λI d r h=>zYD I d r h,λq=>by obtain ⟨a,b,t,o,k,_,_,h1,h2,h3,h4,_⟩:=q.ex;exact#[a,b,t,o,k,h1,h2,h3,h4],λh a b c=>zU7 h a b c] hkf F hr hb hgs hms hg hm he hdb hs
end
section
variable {X:Cx}{scope:Scope}{xs:List Str}{fv:List (Str×Nat)}{elt tg iter:Expr}{ifs:List Expr}{pos spos py:Pos}{tt:TT}{te:TE}{g:TG}{y:Str}{i:Nat}
def zE0 {wi:TI}(hN:X.N.Nodup)(hi':X.N[i]?=some y)(hy:X.env.scope.names.lookup y=some .local)(hc:X.calm=true)(hs:ZFN scope xs fv=true)(hv:FvOk X scope fv)(hi:PI X tg iter wi)(hg:∀ C s₀ H₀ ex pn,PG (cxT X scope xs fv C s₀ H₀ ex pn) tg g)
  (ht:∀ C s₀ H₀ ex pn,PTl (cxT X scope xs fv C s₀ H₀ ex pn) ifs tt) (he:∀ C s₀ H₀ ex pn,PE (cxT X scope xs fv C s₀ H₀ ex pn) elt te)
  (hsw:swapsWith (.ListComp elt [#[tg,iter,ifs,0]] scope pos) (some (.Name y py)) spos.line X.env=pure true:=by rfl) (hf:∀ x,foldedSetIterable iter X.env x=pure x:=by intro _;rfl) :
  PS X (.Assign [.Name y py] (.ListComp elt [#[tg,iter,ifs,0]] scope pos) spos) (Zd5 (ZNV (.lst []) wi xs fv g tt (tbL te)) (ZFS i)):=by
 intro pins s σ H D I h;have S:=zE3 hs;rw [exec_Assign_Name_used _ _ _ _ hsw];refine yAC (yCF (yAC ?_));show wpAny _ X.A (do let _ <- comprehension (.ListComp elt [#[tg,iter,ifs,0]] scope pos) scope X.env _ (newList []) false (eval iter X.env) (some (assign (.Name y py) X.env))) _ _ s;refine yAC (yBW (yDx (use:=some (assign (.Name y py) X.env)) (Q:=λ_ s'=>SP X pins D .next s') rfl hf (zd6 I S hv) S.kind S.names (thn (hi pins s σ H _ I h) λv s1 h1=>thn h1 λitv s2 h2=>?_)) (λ_ s' h'=>yAO (yAO h')) λ_ _ z=>z);obtain ⟨it,fp,tn,J,H2,e,I2,T,st2,f2,hw⟩:=h2;subst e;refine zEQ (e:=.ListComp elt [#[tg,iter,ifs,0]] scope pos) (iter:=iter) (RR:=λacc C=>compPost (model X.prog X.w) X.A X.xe (some (assign (.Name y py) X.env)) (λ_ s'=>SP X pins D .next s') acc C) hc S hv ht hg (λC s₀ H₀ ex pn=>zQN (he C s₀ H₀ ex pn)) zNU (λ_ _ _=>rfl) (λ_ _ _=>rfl) (λit D env=>compTurn_list ..) (λ_ _ _ _ _ a b=>codeAny_compStart_list a b) I2 T st2 f2 hw ?_;intro L C s' H' m I' q hn fC;show wpAny _ X.A (assign (.Name y py) X.env (.ref L)) _ _ s';refine wpAny_assign_Name (zKQ I' hN hi' (.inl hy) (v:=.ref L) rfl (λs'' I'' hb=>?_) (.inr hy));obtain ⟨a,sb,ha⟩:=hb
 have na:C≠a:=by
  rcases ha with z|z
  ·rw [z];exact fC.2.1
  ·exact λw=>fC.2.2.2.2.1 y a z w.symm
 have hn2:s''.heap.Ns C m:=hn.sameBut sb na;refine#[m,hn2,λh' hs'=>#[_,H',I''.turned (t':=s''.toks) (λb o hb e=>(hs'.2 b hb).trans e) fC.1 fC.2.1 fC.2.2.2.1 fC.2.2.2.2.1 fC.2.2.2.2.2,q]]
end
end L2
namespace HT
open PySem PySem.Spec PyProof.Rows
section
variable {prog:eAD}{w:World}{A:eAK}{E:kW}{s:Shared}
theorem getItem_tuple_whole {t sl:Addr}{items:Array Value}{vl vu:Value}{lo hi:Option Int}{Q:kW}(ht:IsTup s.heap t items)(hs:s.heap.IsSliceOf sl vl vu .none)(pl:IsPart vl lo)(pu:IsPart vu hi)
  (h1:sIx items.size 0 lo=0) (h2:sIx items.size items.size hi=items.size)
  (h:Q (.ref t) s):wpAny (model prog w) A (getItem (.ref t) (.ref sl)) Q E s:=by
 obtain ⟨os,hos,hcs,hds⟩:=id hs;have hTs:s.TypeIs (.ref sl) "slice":=#[os,hos,hcs];unfold getItem
 try with_reducible refine yBa ?_
 first|refine yAC (yAO ?_)|skip
 refine yAC (wpAny_sequenceKey ht.typeIs dQ ?_)
 refine yAC (yDE (name:=eAb "__getitem__") ht.typeIs yCT
  (yEJ yCT ht.typeIs entry_tuple_getitem ?_ (args_tuple_getitem _ _)))
 show wpAny _ _ (Builtin.Tuple.tupleItemsOf (.ref t) >>= _) _ _ s;refine yAC (tupleItemsOf_ ht ?_);refine yAC (yEP hTs ?_);rw [yAS dQ];refine yAC (zDG hs pl pu ?_);rw [h1,h2];show wpAny _ _ (if (((0:Nat):Int)==0&&(1:Int)==1&&(items.size-0)==items.size)=true then _ else _) _ _ s;rw [yAS (by simp)];refine yAC (yAC (yEP ht.typeIs (yAO ?_)));rw [yAS dQ]
 first
  | exact yAC (yDD (yAO ⟨_,rfl,yAO h⟩))
  | exact yDD (yAO ⟨_,rfl,yAO h⟩)
  | exact yAC (yAO (yAO ⟨_,rfl,yAO h⟩))
end
end HT
namespace L2
open PySem PySem.Spec PyProof.Rows
inductive UA3 (K:Frag)(x:V)(lo:Option Int)(hi:Option Int)(H:Hp)(Q:VK):Prop
 | mk:∀ a xs,x=.ref a->SqT K H a xs->((HT.sIx xs.length 0 lo=0/\HT.sIx xs.length xs.length hi=xs.length)->Q (.ref a) H)->(¬(HT.sIx xs.length 0 lo=0/\HT.sIx xs.length xs.length hi=xs.length)->∀ p,H p=none->Q (.ref p) (upd H p (.tup (ZL7 xs lo hi))))->UA3 K x lo hi H Q
def zY8 {X:Cx}:SlR X (UA3 X.K):=by
 intro pins s σ H x v vl vu lo hi sl Q I rx hs pl pu h;obtain ⟨a,xs,rfl,hx,q1,q2⟩:=h
 by_cases c:HT.sIx xs.length 0 lo=0/\HT.sIx xs.length xs.length hi=xs.length
 ·cases rx
  obtain ⟨its,r,ht,hz⟩:=I.tuple hx;have hlen:its.toArray.size=xs.length:=by rw [yAM];exact r.length.symm
  refine#["tuple",_,PyProof.Rows.slot_tuple_getitem.lookup,ht.typeIs,?_];exact HT.getItem_tuple_whole ht hs pl pu (by rw [hlen];exact c.1) (by rw [hlen];exact c.2) #[.ref a,_,I,rfl,q1 c]
 ·exact zaO pins s σ H _ v vl vu lo hi sl Q I rx hs pl pu #[a,xs,rfl,hx,c,q2 c]
def zHE {xs:List V}{i:Nat}(h:i<=xs.length):ZL7 xs (some (i:Int)) none=xs.drop i:=by
 have e1:HT.sIx xs.length 0 (some (i:Int))=i:=by
  unfold HT.sIx
  simp
  rw [yAT oz];lia
 have e2:HT.sIx xs.length xs.length none=xs.length:=rfl;unfold ZL7;rw [e1,e2];exact yAs (by rw [yCK];lia)
def zYL {K:Frag}{H:Hp}{a:Addr}{xs:List V}{i:Nat}{Q:VK}(sq:SqT K H a xs)(h:i<=xs.length)(q:∀ p H',Same H H'->SqT K H' p (xs.drop i)->Q (.ref p) H'):UA3 K (.ref a) (some (i:Int)) none H Q:=by
 have e1:HT.sIx xs.length 0 (some (i:Int))=i:=by
  unfold HT.sIx
  simp
  rw [yAT oz];lia
 refine#[a,xs,rfl,sq,λc=>?_,λc p hp=>?_]
 ·rw [e1] at c
  exact q a H (λ_ _ h=>h) (by rw [c.1];exact sq)
 ·rw [zHE h]
  exact q p _ (zJQ hp _) (SqT.of zA0)
inductive UA9 (K:Frag)(x:V)(lo:Option Int)(hi:Option Int)(H:Hp)(Q:VK):Prop
 | mk:∀ (a:Addr) (xs:List V) (i:Nat),x=.ref a->(lo=some (i:Int))->hi=none->Sq K H a xs->i<=xs.length->(∀ p H',Same H H'->Sq K H' p (xs.drop i)->Q (.ref p) H')->UA9 K x lo hi H Q
def zUD {X:Cx}:SlR X (UA9 X.K):=by
 intro pins s σ H x v vl vu lo hi sl Q I rx hs pl pu h;obtain ⟨a,xs,i,rfl,rfl,rfl,sq,hi,q⟩:=h
 rcases sq with sq|sq
 ·exact zH8 pins s σ H _ v vl vu _ _ sl Q I rx hs pl pu #[a,xs,rfl,sq,λp hp=>by rw [zHE hi];exact q p _ (zJQ hp _) (.inl (SqL.of zA0))]
 ·exact zY8 pins s σ H _ v vl vu _ _ sl Q I rx hs pl pu (zYL sq hi λp H' g s'=>q p H' g (.inr s'))
def zND {K:Frag}{g:TG}{tb:TS}{D:Ends}{σ:St}{H1:Hp}{a:Addr}{ys:List V}(sq:Sq K H1 a ys)(Pv:Nat->St->Hp->Prop)(h0:Pv 0 σ H1)(hk:∀ i σ H',Pv i σ H'->At1 a H1 H')
  (hs:∀ i σ H' x r,i<ys.length->ys[i]?=some x->Pv i σ H'->H' r=none->g (.ref r) σ (upd H' r (.tup [.int (i:Nat),x])) λσ2 H2=>tb { D with nx:=Pv (i+1),ct:=Pv (i+1),bk:=D.nx } σ2 H2) (hd:∀ σ H',Pv ys.length σ H'->D.nx σ H') :
  (∃ xs,SqL K H1 a xs)/\(∃ W:Nat->Nat->St->Hp->Prop,(∃ m,W 0 m σ H1)/\∀ i m σ H,W i m σ H ->
   ((Ite K a).stop i H/\D.nx σ H) \/ ((Ite K a).go i H/\∃ N:St->Hp->Prop,(∀ σ' H',N σ' H'->∃ m',m'<m/\W (i+1) m' σ' H')/\∀ x H',(Ite K a).yld i H x H'->g x σ H' λσ2 H2=>tb { D with nx:=N,ct:=N,bk:=D.nx } σ2 H2)) \/
  (∃ xs,SqT K H1 a xs)/\(∃ W:Nat->Nat->St->Hp->Prop,(∃ m,W 0 m σ H1)/\∀ i m σ H,W i m σ H ->
   ((ZZM K a).stop i H/\D.nx σ H) \/ ((ZZM K a).go i H/\∃ N:St->Hp->Prop,(∀ σ' H',N σ' H'->∃ m',m'<m/\W (i+1) m' σ' H')/\∀ x H',(ZZM K a).yld i H x H'->g x σ H' λσ2 H2=>tb { D with nx:=N,ct:=N,bk:=D.nx } σ2 H2)):=by
 rcases sq with sq|sq
 ·refine .inl #[#[_,sq],zHT ys.length Pv h0 (λi σ H' hi hP=>#[ys,ys[i],SqL.at1 (hk _ _ _ hP) sq,by simp [hi]]) (λσ H' hP=>#[ys,SqL.at1 (hk _ _ _ hP) sq,rfl]) (λi σ H' x H2 hi hP y=>?_) hd]
  obtain ⟨r,x,hr,rfl,hx,rfl⟩:=y;exact hs i σ _ x r hi (hx ys (SqL.at1 (hk _ _ _ hP) sq)) hP hr
 ·refine .inr #[#[_,sq],zHT ys.length Pv h0 (λi σ H' hi hP=>#[ys,ys[i],SqT.at1 (hk _ _ _ hP) sq,by simp [hi]]) (λσ H' hP=>#[ys,SqT.at1 (hk _ _ _ hP) sq,rfl]) (λi σ H' x H2 hi hP y=>?_) hd]
  obtain ⟨r,x,hr,rfl,hx,rfl⟩:=y;exact hs i σ _ x r hi (hx ys (SqT.at1 (hk _ _ _ hP) sq)) hP hr
section
variable {X:Cx}
def zSF (bs:List Bool):((eAJ bs.length).any λi=>bs.getD i true)=bs.any id:=by
 have:=zHW bs true
 conv=>rhs;rw [<- this]
 rw [List.any_map];rfl
def NB9 (K:Frag):=∀ (p:Addr) (bs:List Bool),xs=[.ref p]->SqL K H p (bs.map V.bl)->Q (.bl (bs.any id)) H->NB9 K xs H Q
def zVF (hc:X.calm=true):ZDK X (.builtin "any") (NB9 X.K):=by
 intro pins s σ H xs us Q I r h;obtain ⟨p,bs,rfl,hq,q⟩:=h;obtain ⟨u,rfl,ru⟩:=zEP r
 cases ru
 obtain ⟨its,rv,pl,hz⟩:=I.list hq;have hl:=rv.length;rw [yAA] at hl;have hh:X.A.in1.handled=none:=I.ok.hd hc;have hlt:p<(kZ s):=by obtain ⟨o,n,e,_⟩:=pl;exact yAP e
 refine call_any_walk (yCr pl.isList ?_);refine#[(kZ s),_,_,_,_,_,λi=>bs.getD i true,rfl,Walks.list hh (kZ s) p (yAo hlt) its.toArray,#[#[_,yAc _ rfl,rfl,rfl],pl.isList.push _],λi v s' Q' E' hP hq'=>?_,λh' tk hk=>?_]
 ·have:v=.bool (bs.getD i true):=zMT rv i v (by simpa using hP)
  subst this;exact yBb hq'
 ·rw [yAM,<- hl,zSF]
  refine#[.bl (bs.any id),H,I.kept (t':=tk) λb o e=>?_,rfl,q];exact hk b o (λzz=>by have e2:=yAP e;rw [yAE.mp zz] at e2;exact yBk _ e2) (yAD _ e)
def MB3 (K:Frag):=∀ (l:Addr) (xs:List V) (v:V) (j:Nat),x=.ref l->vs=[v]->SqL K H l xs->xs.length<=1000000->xs.all ZEN=true->ZEN v=true->(∃ y,xs[j]?=some y/\eqV y v=true)->(∀ (i:Nat) y,i<j->xs[i]?=some y->eqV y v=false)->(Q (.int (j:Nat)) H)->MB3 K x vs H Q
end
structure CompOkC (scope:Scope)(xs:List Str)(fv:List (Str×Nat)):Prop where
 kind:scope.kind=.function
 own:∀ y∈scope.names,y.2=.cell->True/\scope.names.lookup y.1=some .cell
 names:∀ y∈scope.names,y.2=.local->scope.names.lookup y.1=some .local
 fr:∀ y∈scope.names,y.2=.free->y.1∈fv.map (·.1)
 nd:(xs++fv.map (·.1)).Nodup
def clC (scope:Scope)(env:Env)(C:Addr):List (Str×Addr):=cellsFrom (C+1) scope.names (ZYV scope env)
section
variable {X:Cx}{pins:kA}{σ:St}{scope:Scope}{xs:List Str}{fv:List (Str×Nat)}{e tg iter:Expr}{ifs:List Expr}{pos:Pos}{tt:TT}{tb:TB}{g:TG}{o0:HO}{body:Addr->Env->Sem Unit}{newAcc:Sem Value}
end
section
variable {X:Cx}{pins:kA}{σ:St}{H:Hp}{s:Shared}{scope:Scope}{xs:List Str}{fv:List (Str×Nat)}{elt kx vx tg iter:Expr}{ifs:List Expr}{pos:Pos}{tt:TT}{te tk tv:TE}{g:TG}
end
section
variable {X:Cx}{scope:Scope}{xs:List Str}{fv:List (Str×Nat)}{elt tg iter:Expr}{ifs:List Expr}{pos spos py:Pos}{tt:TT}{te:TE}{g:TG}{y:Str}{i:Nat}
end
section
variable {X:Cx}
def NC0 (K:Frag):=∀ x t Ck b,xs=[x,.ref Ck]->TyOf K H x t->eAC K t (.ref Ck)=some b->Q (.bl b) H->NC0 K xs H Q
end
def zPN:∀ {xs:List V} {us:List Value},xs.length=us.length->(∀ (i:Nat) x u,xs[i]?=some x->us[i]?=some u->RelV x u)->Vals xs us
 | [],[],_,_=>.nil
 | [],_::_,h,_=>by cases h
 | _::_,[],h,_=>by cases h
 | x::xs,u::us,h,f=>.cons (f 0 x u rfl rfl) (zPN (by simpa using h) λi y v a b=>f (i+1) y v a b)
section
variable {X:Cx}
def NC1:=∀ j:Int,xs=[.int j]->(∀ p,H p=none->Q (.ref p) (upd H p (.rng 0 j)))->NC1 xs H Q
def zQI:ZDK X (.type "range") NC1:=by
 intro pins s σ H xs us Q I r h;obtain ⟨j,rfl,q⟩:=h;obtain ⟨u,rfl,ru⟩:=zEP r;obtain ⟨t,rfl⟩:=ru;refine call_range_1 ?_;refine#[.ref (kZ s),_,I.laid (a:=(kZ s)) (o:=.rng 0 j) (λb o e=>yAD _ e) (yAF _) #[_,_,_,yAc _ rfl],rfl,q _ (I.hok.fresh (yAF _))]
def NC2:=∀ (p:Addr) (n:Nat),xs=[.ref p]->(H p=some (.rng 0 (n:Int)))->n<=1000000->(∀ l,H l=none->Q (.ref l) (upd H l (.lst ((eAJ n).map λ(k:Nat)=>V.int (k:Int)))))->NC2 xs H Q
def zKV (hc:X.calm=true):ZDK X (.type "list") NC2:=by
 intro pins s σ H xs us Q I r h;obtain ⟨p,n,rfl,hp,hn,q⟩:=h;obtain ⟨u,rfl,ru⟩:=zEP r
 cases ru
 obtain ⟨t,u,v,e⟩:∃ t u v,s.heap.get? p=some { cls:=.type "range",data:=.fields (List.toArray [.int 0 t,.int (n:Int) u,.int 1 v]) }:=I.hok p _ hp;have hs:1000000<=eA5:=by decide
 refine call_list_range (n:=n) (I.ok.hd hc) (a:=0) (b:=(n:Int)) (c:=1) (t:=t) (u:=u) (v:=v) e (small_one oz oz oz oz) (by rw [rangeSize_one];split<;>lia) oz λh' tk acc c hk hS hacc=>?_
 have hv:Vals ((eAJ n).map λ(k:Nat)=>V.int (k:Int)) acc.toList:=by
  refine zPN (by rw [yAA,yBc,yBJ,hacc.1]) λi x u hx hu=>?_
  have hi:i<n:=by
   have:=(yAH.mp hx).1
   rw [yAA,yBc] at this;exact this
  rw [yAa,List.getElem?_range hi] at hx
  cases hx
  obtain ⟨tk,rfl⟩:=hacc.2 i u (by rw [<- yBH];exact hu);exact#[tk,by rw [yEY,Int.mul_one]]
 refine#[.ref (kZ s),_,I.laid (a:=(kZ s)) (o:=.lst ((eAJ n).map λ(k:Nat)=>V.int (k:Int))) (t':=tk) hk (yAF _) #[by rw [yAA,yBc];lia,acc.toList,c,hv,by rw [Array.toArray_toList];exact hS],rfl,q _ (I.hok.fresh (yAF _))]
end
def ZaK:Key->PyData
 | .inl i=>.int i
 | .inr x=>.str x
mutual
inductive DW (K:Frag)(H:Hp):V->PyData->Prop
 | non:DW K H .non .none
 | bl (b:Bool):DW K H (.bl b) (.bool b)
 | int (i:Int):DW K H (.int i) (.int i)
 | str (x:Str):DW K H (.str x) (.str x)
 | lst {a:Addr} {xs:List V} {ds:List PyData}:SqL K H a xs->a≠eAI->DWs K H xs ds->DW K H (.ref a) (.list ds)
 | tup {a:Addr} {xs:List V} {ds:List PyData}:SqT K H a xs->DWs K H xs ds->DW K H (.ref a) (.tuple ds)
 | dct {a:Addr} {kvs:List (Key×V)} {ds:List PyData}:H a=some (.dK kvs)->DWs K H (kvs.map (·.2)) ds->DW K H (.ref a) (.dict ((kvs.map λp=>ZaK p.1).zip ds))
inductive DWs (K:Frag)(H:Hp):List V->List PyData->Prop
 | nil:DWs K H [] []
 | cons {x:V} {xs:List V} {d:PyData} {ds:List PyData}:DW K H x d->DWs K H xs ds->DWs K H (x::xs) (d::ds)
end
theorem DWs.len {K:Frag}{H:Hp}:∀ {xs:List V} {ds:List PyData},DWs K H xs ds->xs.length=ds.length
 | _,_,.nil=>rfl
 | _,_,.cons _ t=>congrArg (·+1) t.len
section
variable {X:Cx}{pins:kA}{σ:St}{H:Hp}{s:Shared}
def zSC:∀ {kvs:List (Key×V)} {vs:List (Key×Value)},KV kvs vs->Vals (kvs.map (·.2)) (vs.map (·.2))
 | _,_,.nil=>.nil
 | _,_,.cons r t=>.cons r.2 (zSC t)
def zI3 {P:eAD}{w:World}:∀ {es:List DictEntry} {vs:List (Key×Value)},Pairs (ZAF P w) es vs->es.map (·.val)=vs.map (·.2)
 | _,_,.nil=>rfl
 | _,_,.cons _ e t=>by rw [yAq,yAq,e,zI3 t]
def zT3 {P:eAD}{w:World}{h:Heap}{k:Key}{v:Value}(e:(ZAF P w).is k v=true):Reads h v (ZaK k) []:=by
 rw [zO4] at e
 rcases zB0 e with ⟨i,t,rfl,rfl⟩|⟨x,t,rfl,rfl⟩
 ·exact .int i t
 ·exact .str x t
def zHZ {P:eAD}{w:World}{h:Heap}:∀ {es:List DictEntry} {kvs:List (Key×V)} {vs:List (Key×Value)},Pairs (ZAF P w) es vs->KV kvs vs->ReadsAll h (es.map (·.key)) (kvs.map λp=>ZaK p.1) []
 | _,_,_,.nil,.nil=>.nil
 | _,_,_,.cons a _ t,.cons r u=>by
  have q:=zT3 (h:=h) a;rw [<- r.1] at q;exact .cons q (zHZ t u)
mutual
theorem DW.reads (I:Inv X pins σ H s):∀ {v:V} {d:PyData} {u:Value},DW X.K H v d->RelV v u->∃ as,Reads s.heap u d as/\eAI∉as
 | _,_,_,.non,r=>by cases r;exact#[_,.none,by simp]
 | _,_,_,.bl b,r=>by cases r;exact#[_,.bool b,by simp]
 | _,_,_,.int i,r=>by obtain ⟨t,rfl⟩:=r;exact#[_,.int i t,by simp]
 | _,_,_,.str x,r=>by obtain ⟨t,rfl⟩:=r;exact#[_,.str x t,by simp]
 | _,_,_,.lst hq ne hs,r=>by
  cases r
  obtain ⟨its,rv,⟨o,n,e,c,_,d⟩,_⟩:=I.list hq;obtain ⟨as,q,z⟩:=DWs.reads I hs rv
  exact#[_,.list e c d (by simpa using q),λm=>by
   rcases yAf.mp m with m|m
   ·exact ne m.symm
   ·exact z m]
 | _,_,_,.tup hq hs,r=>by
  cases r
  obtain ⟨its,rv,p,_⟩:=I.tuple hq;obtain ⟨as,q,z⟩:=DWs.reads I hs rv;obtain ⟨o,e,c,n,d⟩:=p;exact#[_,.tuple e c d (by simpa using q),z]
 | _,_,_,@DW.dct _ _ a kvs ds hq hs,r=>by
  cases r
  obtain ⟨_,ne,vs,kv,o,es,ep,e,ex,dd,_,ps,_⟩:=I.hok _ _ hq;obtain ⟨as,q,z⟩:=DWs.reads I hs (zSC kv);have hl:ds.length=kvs.length:=by have:=hs.len;rw [yAA] at this;exact this.symm
  rw [<- zI3 ps] at q;have e1:((kvs.map λp=>ZaK p.1).zip ds).map (·.1)=kvs.map λp=>ZaK p.1:=List.map_fst_zip (by rw [yAA];lia);have e2:((kvs.map λp=>ZaK p.1).zip ds).map (·.2)=ds:=List.map_snd_zip (by rw [yAA];lia);refine#[_,.dict e ex.1 dd (by rw [e1];exact zHZ ps kv) (by rw [e2];exact q),λm=>?_]
  rcases yAb.mp m with m|m
  ·rcases yAf.mp m with m|m
   ·rw [<- m] at ne;simp at ne
   ·cases m
  ·exact z m
theorem DWs.reads (I:Inv X pins σ H s):∀ {vs:List V} {ds:List PyData} {us:List Value},DWs X.K H vs ds->Vals vs us->∃ as,ReadsAll s.heap us ds as/\eAI∉as
 | _,_,_,.nil,.nil=>#[_,.nil,by simp]
 | _,_,_,.cons h t,.cons r rs=>by
  obtain ⟨as,q,z⟩:=DW.reads I h r;obtain ⟨bs,q',z'⟩:=DWs.reads I t rs;exact#[_,.cons q q',λm=>(yAb.mp m).elim z z']
end
end
section
variable {X:Cx}{k:Nat}
def NC3 (K:Frag):=∀ x d,xs=[x]->DW K H x d->d.showable=true->d.depth<=100->d.shown.length<=eA5->Q (.str d.shown) H->NC3 K xs H Q
def zOL (hr:Room k X.A):ZDK X (.builtin "repr") (NC3 X.K):=by
 intro pins s σ H xs us Q I r h;obtain ⟨x,d,rfl,hd,h1,h3,h4,q⟩:=h;obtain ⟨u,rfl,ru⟩:=zEP r;obtain ⟨as,rd,z⟩:=hd.reads I ru;have fin:∀ t:Tok,∀ tk,EP X pins σ Q (.str d.shown t) { s with toks:=tk }:=λt tk=>#[.str d.shown,H,I.tok _,#[_,rfl],q]
 cases hd with
 | non=>cases ru;exact PySem.P.repr_of_none (fin _ _)
 | bl b=>
  cases ru
  refine PySem.P.repr_of_bool ?_;have e:(eAg b).shown=(if b then "True" else "False":Str):=PyData.shown_bool b;rw [e] at fin
  cases b<;>exact fin _ _
 | int i=>obtain ⟨t,rfl⟩:=ru;exact PySem.P.repr_of_int (by simpa [PyData.showable] using h1) (by have:=fin s.toks (s.toks+1);rw [PyData.shown_int] at this;exact this)
 | str y=>obtain ⟨t,rfl⟩:=ru;exact PySem.P.repr_of_str (by have:=fin s.toks (s.toks+1);rw [yEK] at this;exact this) (by rw [yEK] at h4;exact h4)
 | @lst a xs ds hq _ hs=>
  cases ru
  exact yDr rd h1 (λ_=>z) hr.gd (by have:=hr.un;lia) (λ_ _ e=>e) (λh' u tk hk=>#[.str _,H,I.kept (t':=tk) hk,#[_,rfl],q]) h4
 | @tup a xs ds hq hs=>
  cases ru
  exact yDr rd h1 (λ_=>z) hr.gd (by have:=hr.un;lia) (λ_ _ e=>e) (λh' u tk hk=>#[.str _,H,I.kept (t':=tk) hk,#[_,rfl],q]) h4
 | @dct a kvs ds hq hs=>
  cases ru
  exact yDr rd h1 (λ_=>z) hr.gd (by have:=hr.un;lia) (λ_ _ e=>e) (λh' u tk hk=>#[.str _,H,I.kept (t':=tk) hk,#[_,rfl],q]) h4
end
def ZeV (xs:List V)(k:Nat)(y:V):List V:=xs.take k++y::xs.drop k
section
variable {X:Cx}{k:Nat}
def MB4:=∀ l xs i y,x=.ref l->vs=[.int i,y]->H l=some (.lst xs)->0<=i->(i<=(xs.length:Int))->xs.length<=1000->Q .non (upd H l (.lst (ZeV xs i.toNat y)))->MB4 x vs H Q
def NC4 (K:Frag):=∀ (p:Addr) (ns:List Int),xs=[.ref p]->SqL K H p (ns.map V.int)->Q (.int ns.sum) H->NC4 K xs H Q
inductive RX (K:Frag)(xs:List V)(H:Hp)(Q:VK):Prop
 | mk (h:NB4 K xs H Q \/ NC3 K xs H Q)
def zI7 (hr:Room k X.A):ZDK X (.builtin "repr") (RX X.K):=by
 intro pins s σ H xs us Q I r h
 cases h with
 | mk h=>
  rcases h with h|h
  ·exact zQX hr pins s σ H xs us Q I r h
  ·exact zOL hr pins s σ H xs us Q I r h
inductive RN (K:Frag)(x y:V)(H:Hp)(Q:VK):Prop
 | flat (h:KB8 K true x y H Q)
 | big (p:Addr) (zs:List Str) (d:PyData) (ey:y=.ref p) (hq:SqL K H p (zs.map V.str)) (hz:∀ z∈zs,eAq z=true) (hd:DV K H x d \/ DW K H x d) (hl:d.canLay0=true) (hn:∀ z,eAh (.str z) d=false) (q:Q (.bl true) H)
 | dct (p a:Addr) (zs:List Str) (kvs:List (Key×V)) (ey:y=.ref p) (ex:x=.ref a) (hq:SqL K H p (zs.map V.str)) (hd:H a=some (.dK kvs)) (q:Q (.bl true) H)
end
end L2
namespace L2E
open PySem
section
variable {h:Heap}{g:Array GenState}{d:Drawn}{t:Nat}{os:eAr}{prog:eAD}{w:World}{A:eAK}{E:kW}
variable {nm q:Str}{C N:Addr}{bs bm bmN:List Value}{hdct:Bool}{sn:List Str}{sub:List Value}{ab:Bool}{col:Option Bool}{dd:Option Addr}{k0 k1 k2 k3 k5:Option Value}{Bn newId inN:String}
structure Tail (bm:List Value)(Bn:String):Prop where
 base:bm.contains (.type Bn)=true
 attr:bm.contains (.type "AttributeError")=false
 name:bm.contains (.type "NameError")=false
theorem Tail.has {bm:List Value}{Bn:String}(T:Tail bm Bn)(C:Addr):(eAF C::bm).contains (.type Bn)=true:=by rw [yBI,T.base,yDp]
theorem Tail.noA {bm:List Value}{Bn:String}(T:Tail bm Bn)(C:Addr):(eAF C::bm).contains (.type "AttributeError")=false:=by rw [yBI,T.attr];rfl
theorem Tail.noN {bm:List Value}{Bn:String}(T:Tail bm Bn)(C:Addr):(eAF C::bm).contains (.type "NameError")=false:=by rw [yBI,T.name];rfl
def zOZ (Fn:ExcBaseFacts Bn newId inN bmN)(T:Tail bm Bn){M:Model}{us:List Value}{Q:Unit->Shared->Prop}(at_:h.get? C=some (eAs nm q C N bs bm hdct sn sub ab col dd k0 k1 k2 k3 k5 newId))
  (z:Q () #[h,g,d,t,os]):wpAny M A (eAt newId #[.ref C::us,[]]) Q E #[h,g,d,t,os]:=by
 have c1:=T.has C;have c2:=Fn.noStar;simp only [Fn.newKind,Fn.newSplit,Fn.newRow,eAt]
 repeat (first|refine yAl at_ ?_|(refine yCH at_ ?_;rw [c1])|refine wpAny_staticBase_exc at_ ?_|refine wpAny_madeBy_exc at_ ?_|simp only [bne_self_eq_false,yBP,yCR]|wp_step)
 exact z
def zb5 (Fn:ExcBaseFacts Bn newId inN bmN)(T:Tail bm Bn){R:Result->Shared->Prop}{us:List Value}(at_:h.get? C=some (eAs nm q C N bs bm hdct sn sub ab col dd k0 k1 k2 k3 k5 newId))
  (z:R (.ok (.ret (.ref (h.objs.size+1)))) #[(h.push { cls:=.type "tuple",data:=.seq us.toArray }).push { cls:=.ref C,data:=.fields (List.toArray [.ref h.objs.size,.none,.none,.none,.bool false,.none]) },g,d,t,os]) (few:us.length<=eA5) :
  codeAny (model prog w) A (.builtin newId #[.ref C::us,[]]) R #[h,g,d,t,os]:=by
 have c0:=Fn.ends;have c1:=T.has C;have c2:=T.noA C;have c3:=T.noN C;refine codeAny_builtinAt Fn.entry ?_;unfold Builtin.«BaseException.__new__»;refine wpAt_bind ?_;show wpAt _ _ _ (stack >>= _) _ _ _;refine wpAt_bind (wpAt_stack λ_ _=>wpAt_of_wpAny ?_)
 wp_walk
 refine wpAt_of_wpAny ?_;rw [Fn.owner]
 repeat (first|with_reducible refine wpAny_madeHere_exc Fn.canon at_ ?_|with_reducible refine yAl at_ ?_|(with_reducible refine yCH at_ ?_;first|rw [c1]|rw [c2]|rw [c3])|wp_step)
 show R _ _;rw [yCg];exact z
def Finds (h:Heap)(C:Addr)(x:Str)(v:Option Value):Prop:=∀ (M:Model) (A:eAK) (E:kW) (Q:Option Value->Shared->Prop) (g:Array GenState) (d:Drawn) (t:Nat) (os:eAr),Q v #[h,g,d,t,os]->wpAny M A (typeLookup (.ref C) x) Q E #[h,g,d,t,os]
def laid (h:Heap)(C:Addr)(us:List Value):Heap:=(h.push { cls:=.type "tuple",data:=.seq us.toArray }).push { cls:=.ref C,data:=.fields (List.toArray [.ref h.objs.size,.none,.none,.none,.bool false,.none]) }
theorem laid_old {h:Heap}{C:Addr}{us:List Value}{b:Addr}{o:Obj}(e:h.get? b=some o):(laid h C us).get? b=some o:=yAD _ (yAD _ e)
theorem laid_new {h:Heap}{C:Addr}{us:List Value}:(laid h C us).get? (h.objs.size+1)=some { cls:=.ref C,data:=.fields (List.toArray [.ref h.objs.size,.none,.none,.none,.bool false,.none]) }:=by unfold laid;heap_get
def zU9 (Fn:ExcBaseFacts Bn newId inN bmN)(T:Tail bm Bn){us:List Value}{f:Addr}{of:Obj}{Q:Fin->Shared->Prop}(at_:h.get? C=some (eAs nm q C N bs bm hdct sn sub ab col dd k0 k1 k2 k3 k5 newId))
  (hi:Finds (laid h C us) C "__init__" (some (.ref f))) (hf:h.get? f=some of) (hc:of.cls=.type "function") (few:us.length<=eA5)
  (z:wpAny (model prog w) A (call (.ref f) (.ref (h.objs.size+1)::us)) (λr s'=>r=.none/\Q (.done (.ret (.ref (h.objs.size+1)))) s') E #[laid h C us,g,d,t,os]) :
  wpAny (model prog w) A (Builtin.«type.__call__» #[.ref C::us,[]]) Q E #[h,g,d,t,os]:=by
 repeat (first|with_reducible refine yAl at_ ?_|with_reducible refine wpAny_madeBy_exc at_ ?_|wp_step)
 refine codeAny_call_builtin_code (yDJ _ Fn.quiet) (zOZ Fn T at_ ?_);refine zb5 Fn T at_ ?_ few;show wpAny _ _ _ _ _ #[laid h C us,g,d,t,os];have a1:=laid_old (C:=C) (us:=us) at_;have a2:=laid_new (h:=h) (C:=C) (us:=us);have self:(eAF C::bm).contains (.ref C)=true:=by simp
 unfold isInstance
 repeat (first|with_reducible refine yAl a2 ?_|(with_reducible refine yCH a1 ?_;rw [self])|wp_step)
 refine (show wpAny _ _ (typeLookup (.ref C) _) _ _ _ from hi _ _ _ _ _ _ _ _ ?_);refine yBa (yAC ?_);unfold bindSpecial;refine yAC (yEP (T:="function") #[_,laid_old hf,hc] ?_);rw [yAS dQ];refine yAO (yAC (yBW z (λr s' hr=>?_) λ_ _ x=>x));obtain ⟨rfl,y⟩:=hr
 wp_walk
 exact y
theorem callErr (Fn:ExcBaseFacts Bn newId inN bmN)(T:Tail bm Bn){us:List Value}{f:Addr}{of:Obj}{Q:kW}(at_:h.get? C=some (eAs nm q C N bs bm hdct sn sub ab col dd k0 k1 k2 k3 k5 newId))
  (hi:Finds (laid h C us) C "__init__" (some (.ref f))) (hf:h.get? f=some of) (hc:of.cls=.type "function") (few:us.length<=eA5)
  (z:wpAny (model prog w) (A.under (.builtin "type.__call__" #[.ref C::us,[]])) (call (.ref f) (.ref (h.objs.size+1)::us)) (λr s'=>r=.none/\Q (.ref (h.objs.size+1)) s') E #[laid h C us,g,d,t,os]) :
  wpAny (model prog w) A (call (.ref C) us) Q E #[h,g,d,t,os]:=by
 have b1:=tc_lookup;have b2:=tc_bind (.ref C);have b3:(#[h,g,d,t,os]:Shared).TypeIs (.ref C) "type":=#[_,at_,rfl];refine yDc (codeAny_of_tree ?_);show wpAny _ _ (callAny (.ref C) _) _ _ _
 repeat (any_goals (first|assumption|with_reducible refine yAl at_ ?_|wp_step))
 refine#[rfl,?_];exact codeAny_call_builtin_at (yDJ _ dk) entry_typeCall (wpAny_check_type_call_sub at_ (zU9 Fn T at_ hi hf hc few z))
end
end L2E
namespace L2E
open PySem
section
variable {h:Heap}{g:Array GenState}{d:Drawn}{t:Nat}{os:eAr}{prog:eAD}{w:World}{A:eAK}{E:kW}
variable {nm q:Str}{C N:Addr}{bs bm bmB:List Value}{hdct:Bool}{sn:List Str}{sub:List Value}{ab:Bool}{col:Option Bool}{dd:Option Addr}{k0 k1 k2 k3 k5:Option Value}{B nid newId initId:String}
def zLF (F:ExcBaseFacts B nid initId bmB)(hB:bm.contains (.type B)=true){M:Model}{e:Addr}{oe:Obj}{us:List Value}{Q:Unit->Shared->Prop}
  (at_:h.get? C=some (eAs nm q C N bs bm hdct sn sub ab col dd k0 k1 k2 k3 k5 newId)) (he:h.get? e=some oe) (hc:oe.cls=.ref C) (z:Q () #[h,g,d,t,os]) :
  wpAny M A (eAt initId #[.ref e::us,[]]) Q E #[h,g,d,t,os]:=by
 have c1:(eAF C::bm).contains (.type B)=true:=by rw [yBI,hB,yDp]
 have c2:=F.noStar;simp only [F.initKind,F.initSplit,F.initRow,eAt]
 repeat (first|(with_reducible refine yAl he ?_;rw [hc])|with_reducible refine yAl at_ ?_|(with_reducible refine yCH at_ ?_;rw [c1])|wp_step)
 refine wpAny_onRaise ?_;have same:∀ (a b:String) (n:Nat),Bind.check #[.positional,"*",B,.self,[#["args",.varPos,false]]] a b n (List.map (λx=>x.fst) ({ pos:=eAF e::us }:Args).kw)=pure ():=λa b n=>check_star_args _ _ _ _ _ _;rw [same];exact yAO z
theorem initErr (F:ExcBaseFacts B nid initId bmB)(hB:bm.contains (.type B)=true){e t0:Addr}{de:Option Addr}{us:List Value}{Q:kW}
  (at_:h.get? C=some (eAs nm q C N bs bm hdct sn sub ab col dd k0 k1 k2 k3 k5 newId)) (he:h.get? e=some { cls:=.ref C,dict:=de,data:=.fields (List.toArray [.ref t0,.none,.none,.none,.bool false,.none]) }) (few:us.length<=eA5)
  (z:∀ h',(∀ b o,b≠e->h.get? b=some o->h'.get? b=some o)->h'.get? e=some { cls:=.ref C,dict:=de,data:=.fields (List.toArray [.ref h.objs.size,.none,.none,.none,.bool false,.none]) }->h'.get? h.objs.size=some { cls:=.type "tuple",data:=.seq us.toArray }->Q .none #[h',g,d,t,os]) :
  wpAny (model prog w) A (call (.builtin initId) (.ref e::us)) Q E #[h,g,d,t,os]:=by
 refine yDc (yCt F.init.plain F.initEntry (zLF F hB at_ he rfl ?_))
 wp_walk
 have le:e<h.objs.size:=yAP he;have he2:=yAD { cls:=.type "tuple",data:=.seq us.toArray } he;refine z _ (λb o n hb=>?_) ?_ ?_
 ·rw [yBL _ _ n.symm]
  exact yAD _ hb
 ·rw [yCQ _ he2 rfl]
  rfl
 ·rw [yBL _ _ (yAo le)]
  exact Heap.get?_push_at rfl rfl
end
end L2E
namespace L2E
open PySem PySem.Builtin.ObjectAttr
section
variable {h:Heap}{g:Array GenState}{d:Drawn}{t:Nat}{os:eAr}{prog:eAD}{w:World}{A:eAK}{E:kW}
variable {nm q:Str}{C N x:Addr}{bs bm bmB:List Value}{sn:List Str}{sub:List Value}{ab:Bool}{col:Option Bool}{dd:Option Addr}{k0 k1 k2 k3 k5:Option Value}{B newId sa owner:String}{name:Str}{v:Value}
def zRD {M:Model}{o:Obj}{nameV:Value}{Q:Unit->Shared->Prop}(SF:StoreFacts B bmB sa owner)(own:bm.contains (.type owner)=true)
  (at_:h.get? C=some (eAs nm q C N bs bm true sn sub ab col dd k0 k1 k2 k3 k5 newId)) (hx:h.get? x=some o) (hc:o.cls=.ref C) (z:Q () #[h,g,d,t,os]):wpAny M A (eAt sa #[[.ref x,nameV,v],[]]) Q E #[h,g,d,t,os]:=by
 have c1:(eAF C::bm).contains (.type owner)=true:=by rw [yBI,own,yDp]
 have c2:=SF.args (.ref x) nameV v;simp only [SF.kind,SF.split,eAt];refine yAC ?_;unfold isInstance
 repeat (first|(with_reducible refine yAl hx ?_;rw [hc])|(with_reducible refine yCH at_ ?_;rw [c1])|wp_step)
 cases sg:Manifest.signature? sa with
 | none=>exact yAO z
 | some s0=>
  simp only [argsOk,sg] at c2;have c3:Bind.checkArgs sa s0 #[[.ref x,nameV,v],[]]=pure ():=c2;refine (show wpAny M A (Bind.checkArgs sa s0 #[[.ref x,nameV,v],[]]) Q E _ from ?_);rw [c3];exact yAO z
def ZKK (o:Obj)(a:Addr):Obj:={ cls:=o.cls,dict:=some a,data:=o.data,slots:=o.slots }
def zW2 {tk:Tok}{Q:Fin->Shared->Prop}{o:Obj}(at_:h.get? C=some (eAs nm q C N bs bm true sn sub ab col dd k0 k1 k2 k3 k5 newId))(pass:refuseLoop (.ref x) "__setattr__" bm=pure ())(fn:Finds h C name none)
  (hx:h.get? x=some o) (hc:o.cls=.ref C) (hd:o.dict=none) (hnc:∀ c,o.data≠.cls c)
  (z:∀ h' tk',h'.get? x=some (ZKK o h.objs.size)->h'.Ns1 h.objs.size (λy=>if y=name then some v else none)->(∀ b o,b≠x->h.get? b=some o->h'.get? b=some o)->Q (.done (.ret .none)) #[h',g,d,tk',os]) :
  wpAny (model prog w) A (Builtin.«object.__setattr__» #[[.ref x,.str name tk,v],[]]) Q E #[h,g,d,t,os]:=by
 unfold Builtin.«object.__setattr__»
 repeat (first|rw [refuse_eq]|(rw [refuseLoop_ref,pass])|(with_reducible refine yAl hx ?_;rw [hc])|with_reducible refine wpAny_mroOf_exc at_ ?_|wp_step)
 refine fn _ _ _ _ _ _ _ _ ?_
 repeat (first|(with_reducible refine yAl hx ?_;rw [hc])|with_reducible refine yAl hx ?_|wp_step)
 rw [hd,yAT (by simp [typeHasDict])]
 split
 ·rename_i y;cases y
 split
 ·rename_i c y;exact absurd y (hnc c)
 have x1:(h.push { cls:=.type "dict",data:=.dict #[] }).get? x=some o:=yAD _ hx;have ne:x≠h.objs.size:=yAo (yAP hx);refine yAC (wpAny_alloc' (yAC (wpAny_update' x1 (yAO ?_))));have y1:((h.push { cls:=.type "dict",data:=.dict #[] }).update x λo=>ZKK o h.objs.size).get? h.objs.size=some { cls:=.type "dict",data:=.dict #[] }:=(yBj _ _ _ _ ne.symm).trans (Heap.get?_push_at rfl rfl);have y2:((h.push { cls:=.type "dict",data:=.dict #[] }).update x λo=>ZKK o h.objs.size).Ns h.objs.size (λ_=>none):=#[_,#[],_,y1,rfl,λe he=>absurd he (by simp),λ_=>rfl];refine (show wpAny _ _ (storeInDict h.objs.size (.str name tk) name v) _ _ #[(h.push { cls:=.type "dict",data:=.dict #[] }).update x λo=>ZKK o h.objs.size,_,_,_,_] from ?_);unfold storeInDict newKeyGuard;refine yAC (yAO (yAC (wpAny_nsSet1 (Heap.Ns1.of_empty y2) λh2 n2 s2=>?_)));obtain ⟨o3,e3,p3,a3,b3,c3⟩:=n2.count (Within.cons name v Within.nil);refine yAC (wpAny_lookBehind a3 (by rw [b3];exact pastItsLine_dict (yAp c3 (by rw [yBK,yCp,sizeLine_eq];lia))) ?_)
 wp_walk
 refine z h2 _ ?_ n2 λb ob n hb=>?_
 ·refine (s2.2 x ne).trans (yCQ _ x1 ?_)
  have fr:=(Heap.get?_some_iff.mp hx).2;obtain ⟨oc,od,odt,osl⟩:=o
  cases odt<;>first|rfl|exact fr
 ·exact (s2.2 b (yAo (yAP hb))).trans ((yBj _ _ _ _ n).trans (yAD _ hb))
theorem setErr {Q:Unit->Shared->Prop}{o:Obj}(SF:StoreFacts B bmB sa owner)(own:bm.contains (.type owner)=true)(at_:h.get? C=some (eAs nm q C N bs bm true sn sub ab col dd k0 k1 k2 k3 k5 newId))(pass:refuseLoop (.ref x) "__setattr__" bm=pure ())
  (fs:Finds h C "__setattr__" (some (.builtin sa))) (fn:Finds h C name none) (hx:h.get? x=some o) (hc:o.cls=.ref C) (hd:o.dict=none) (hnc:∀ c,o.data≠.cls c)
  (z:∀ h' tk',h'.get? x=some (ZKK o h.objs.size)->h'.Ns1 h.objs.size (λy=>if y=name then some v else none)->(∀ b o,b≠x->h.get? b=some o->h'.get? b=some o)->Q () #[h',g,d,tk',os]) :
  wpAny (model prog w) A (setAttr (.ref x) name v) Q E #[h,g,d,t,os]:=by
 have b1:=SF.slot.bind (.ref x);unfold setAttr callSpecial? specialOf
 repeat (any_goals (first|assumption|(with_reducible refine yAl hx ?_;rw [hc])|wp_step))
 refine fs _ _ _ _ _ _ _ _ ?_
 repeat (any_goals (first|assumption|(with_reducible refine yAl hx ?_;rw [hc])|wp_step))
 refine yCt SF.slot.plain SF.entry (zRD SF own at_ hx hc (zW2 at_ pass fn hx hc hd hnc λh' tk' y1 y2 y3=>?_))
 repeat (any_goals (first|assumption|wp_step))
 exact z h' tk' y1 y2 y3
end
end L2E
namespace L2E
open PySem
section
variable {A:eAK}{E:kW}{env:Env}{M:Model}
variable {nm q:Str}{C N:Addr}{bs bm:List Value}{hdct:Bool}{sn:List Str}{sub:List Value}{ab:Bool}{col:Option Bool}{dd:Option Addr}{k0 k1 k2 k3 k5:Option Value}{newId:String}
theorem raiseErr {s:Shared}{x:Sem Value}{Q:Flow->Shared->Prop}(base:bm.contains (.type "BaseException")=true)(calm:A.handled=none)
  (h:wpAny M A x (λv s1=>∃ e dx ta sl,v=.ref e/\s1.heap.get? C=some (eAs nm q C N bs bm hdct sn sub ab col dd k0 k1 k2 k3 k5 newId)/\s1.heap.get? e=some { cls:=.ref C,dict:=dx,data:=.fields (List.toArray [.ref ta,.none,.none,.none,.bool false,.none]),slots:=sl }/\E (.ref e) s1) E s) :
  wpAny M A (raiseStmt env (some x) none) Q E s:=by
 have c1:(eAF C::bm).contains (.type "BaseException")=true:=by rw [yBI,base,yDp]
 unfold raiseStmt;refine yAC (yBW h (λv s1 h1=>?_) λ_ _ y=>y);obtain ⟨e,dx,ta,sl,rfl,at_,he,z⟩:=h1;obtain ⟨hp,g,d,tk,os⟩:=s1
 repeat (first|with_reducible refine yAl he ?_|with_reducible refine yAl at_ ?_|(with_reducible refine yCH at_ ?_;rw [c1])|wp_step)
 exact wpAny_raiseNew_none calm z
end
end L2E
namespace L2E
open PySem
section
variable {M:Model}{A:eAK}{E:kW}{s:Shared}
structure Off (h h':Heap)(e:Addr)(oe:Obj)(vs:Array Value)(l:List Env)(T:Addr):Prop where
 fresh:h.objs.size<=T
 err:h'.get? e=some { oe with data:=.fields (vs.setIfInBounds 1 (.ref T)) }
 tb:∃ oT ts,h'.get? T=some oT/\oT.data=.fields ts/\ts[3]?=some .none
 keep:∀ b o,b≠e->vs[1]?≠some (.ref b)->b∉L2.frs l->h.get? b=some o->h'.get? b=some o
 slot:∀ b o,b∈L2.frs l->h.get? b=some o->∃ sl,h'.get? b=some { o with slots:=sl }
def zKM {o:Obj}{vs:Array Value}(hd:o.data=.fields vs)(f:Array Value->Array Value):o.mapFields f={ o with data:=.fields (f vs) }:=by
 obtain ⟨c,d,dt,sl⟩:=o;simp only at hd;subst hd;rfl
def zN7 {base:Heap}{env:Env}{outer:List Env}{L e:Addr}{oe:Obj}{vs:Array Value}{head:Value}{hadNext:Bool}{Q:Unit->Shared->Prop}
  (hfr:A.frames=some (env::outer)) (hl:s.heap.FunFrames base (env::outer)) (hf:env.frame=some L)
  (he:s.heap.get? e=some oe) (hd:oe.data=.fields vs) (hsz:1<vs.size)
  (h:∀ h' T,(kZ s)<=T->h'.get? e=some { oe with data:=.fields (vs.setIfInBounds 1 (.ref T)) }->(∃ oT ts,h'.get? T=some oT/\oT.data=.fields ts/\ts[3]?=some .none) ->
   (∀ b o,b≠e->b∉L2.frs (env::outer)->s.heap.get? b=some o->h'.get? b=some o)->(∀ b o,b∈L2.frs (env::outer)->s.heap.get? b=some o->∃ sl,h'.get? b=some { o with slots:=sl })->Q () { s with heap:=h' }) :
  wpAny M A (do let a <- frameOf env;let pl <- entryPlaceOf L hadNext;let b <- EntryCells.newEntry head a .none (rawInt L) .none pl;setField (.ref e) 1 b) (λ_ s'=>wpAny M A (setFlight (.ref e) none) Q E s') E s:=by
 have hene:e∉(env::outer).filterMap (·.frame):=λhm=>by
  obtain ⟨_,o,ho,hnf⟩:=hl.mem hm;rw [he] at ho;injection ho with ho;subst ho;exact hnf vs hd
 refine yAC (wpAny_frameOf_fun hfr hl hf λh₁ hs₁=>?_);refine yAC (wpAny_entryPlaceOf λpl hpl=>?_);unfold EntryCells.newEntry newFields;refine yAC (yBs ?_ (hpl.sizeOk5 _ _ _ _ _));have he₁:h₁.get? e=some oe:=(hs₁.2.1 e hene).trans he;have he₂:=yAD (h:=h₁) { cls:=.type "traceback",dict:=none,data:=.fields ([head,.ref L,.none,rawInt L,.none]++(if pl.isEmpty then eAZ 6 eAE else pl)).toArray } he₁;refine yDq he₂ hd hsz ?_;have hTe:h₁.objs.size≠e:=yBf (yAP he₁);have hd₃:=yDG hd (·.setIfInBounds 1 (eAF h₁.objs.size));have he₃:=yCQ (eAu (·.setIfInBounds 1 (eAF h₁.objs.size))) he₂ (yER hd₃)
 have hT₃:=(yBL (h₁.push { cls:=.type "traceback",dict:=none,data:=.fields ([head,.ref L,.none,rawInt L,.none]++(if pl.isEmpty then eAZ 6 eAE else pl)).toArray })
  (eAu (·.setIfInBounds 1 (eAF h₁.objs.size))) (eAL hTe)).trans (yAc h₁ rfl)
 unfold setFlight;refine yAC (yCY he₃ hd₃ (x:=.ref h₁.objs.size) (by simp [hsz]) ?_);rw [yAS (show (eAF h₁.objs.size != eAE)=true from by simp)];have hsz1:(kZ s)<=h₁.objs.size:=Nat.le_of_eq hs₁.1.symm
 have keep:∀ b o,b≠e->h₁.get? b=some o ->
   (((h₁.push { cls:=.type "traceback",dict:=none,data:=.fields ([head,.ref L,.none,rawInt L,.none]++(if pl.isEmpty then eAZ 6 eAE else pl)).toArray }).update e (eAu (·.setIfInBounds 1 (eAF h₁.objs.size)))).update h₁.objs.size
    (eAu (·.setIfInBounds 3 ((none:Option Addr).elim eAE λf=>rawInt f)))).get? b=some o:=λb o hbe hb=>by
  have hbT:h₁.objs.size≠b:=yBf (yAP hb);rw [yBL _ _ hbT,yBL _ _ (eAL hbe)];exact yAD _ hb
 refine yDq hT₃ rfl (by simp only [yAM,yAV,yBK,yCp]<;>lia) (h _ h₁.objs.size hsz1 ?_ ?_ (λb o hb hn q=>?_) λb o hb q=>?_)
 ·rw [yBL _ _ hTe,he₃,zKM hd]
 ·exact#[_,_,yCQ _ hT₃ (yER (yDG rfl _)),yDG rfl _,by first|(simp;done)|(rcases hpl with rfl|⟨_,_,_,_,_,_,_,rfl⟩<;>simp)]
 ·exact keep b o hb ((hs₁.2.1 b hn).trans q)
 ·obtain ⟨sl,hs⟩:=hs₁.2.2 b o q
  exact#[sl,keep b _ (λz=>hene (z ▸ hb)) hs]
theorem noteOff {base:Heap}{env:Env}{outer:List Env}{L e:Addr}{oe:Obj}{vs:Array Value}{Q:Unit->Shared->Prop}
  (hfr:A.frames=some (env::outer)) (hl:s.heap.FunFrames base (env::outer)) (hf:env.frame=some L)
  (he:s.heap.get? e=some oe) (hd:oe.data=.fields vs)
  (hv:vs[1]?=some .none \/ ∃ T oT ts,vs[1]?=some (.ref T)/\T≠e/\s.heap.get? T=some oT/\oT.data=.fields ts/\ts[3]?=some .none)
  (h:∀ h' T,Off s.heap h' e oe vs (env::outer) T->Q () { s with heap:=h' }) :
  wpAny M A (noteFrame (.ref e) env) (λ_ s'=>wpAny M A (setFlight (.ref e) none) Q E s') E s:=by
 unfold noteFrame;simp only [hf]
 rcases hv with h1|⟨T,oT,ts,h1,hTe,hT,hdT,h3⟩
 ·refine yAC (yCY he hd h1 ?_)
  rw [yAT dQ];exact zN7 hfr hl hf he hd (yBD.mp h1).1 λh' T a1 a2 a3 a4 a5=>h h' T #[a1,a2,a3,λb o hb _ hn q=>a4 b o hb hn q,a5]
 ·refine yAC (yCY he hd h1 ?_)
  rw [yAS (show (eAF T != eAE)=true from by simp)];refine yAC (yCY hT hdT h3 ?_);rw [yAT (show ¬((eAE==rawInt L)=true) from by simp [rawInt])];refine yAC (yDq hT hdT (yBD.mp h3).1 ?_);have other:∀ b,b≠T->(s.heap.update T (eAu (·.setIfInBounds 3 eAE))).get? b=s.heap.get? b:=λb hb=>yBL _ _ (eAL hb)
  have noRecord:∀ b o,s.heap.get? b=some o->(∀ vs,o.data≠.fields vs)->b≠T:=λb o hb hnf q=>by
   rw [q,hT] at hb;injection hb with hb;subst hb;exact hnf ts hdT
  have frT:∀ b,b∈L2.frs (env::outer)->b≠T:=λb hb=>by
   obtain ⟨_,o,ho,hnf⟩:=hl.mem hb;exact noRecord b o ho hnf
  refine zN7 (s:={ s with heap:=s.heap.update T (eAu (·.setIfInBounds 3 eAE)) }) hfr (hl.of_keeps λb o hb hnf=>#[o,(other b (noRecord b o hb hnf)).trans hb,rfl]) hf ((other e (eAL hTe)).trans he) hd (yBD.mp h1).1
   λh' T' a1 a2 a3 a4 a5=>h h' T' #[by rw [Heap.size_update] at a1;exact a1,a2,a3,λb o hb hbT hn q=>a4 b o hb hn ((other b λz=>hbT (by rw [h1,z])).trans q),λb o hb q=>a5 b o hb ((other b (frT b hb)).trans q)]
theorem leaveOff {base:Heap}{env:Env}{outer:List Env}{L e:Addr}{oe:Obj}{vs:Array Value}{Q:Unit->Shared->Prop}
  (hfr:A.frames=some (env::outer)) (hl:s.heap.FunFrames base (env::outer)) (hf:env.frame=some L)
  (he:s.heap.get? e=some oe) (hd:oe.data=.fields vs)
  (hv:vs[1]?=some .none \/ ∃ T oT ts,vs[1]?=some (.ref T)/\T≠e/\s.heap.get? T=some oT/\oT.data=.fields ts/\ts[3]?=some .none)
  (h:∀ h' T,Off s.heap h' e oe vs (env::outer) T->Q () { s with heap:=h' }):wpAny M A (leaving env (.ref e)) Q E s:=by
 unfold leaving;exact yAC (noteOff hfr hl hf he hd hv h)
end
end L2E
namespace L2
open PySem PySem.Spec PyProof.Rows
structure Fly (h:Heap)(e C dx T:Addr):Prop where
 ex:∃ vs sl,h.get? e=some { cls:=.ref C,dict:=some dx,data:=.fields vs,slots:=sl }/\vs[1]?=some (.ref T)
 ne:T≠e
 tb:∃ oT ts,h.get? T=some oT/\oT.data=.fields ts/\ts[3]?=some .none
def CXE (P:eAD)(w:World):CXT:=λouter H s E ev s'=>∃ (e C dx T:Addr) (H':Hp),ev=.ref e/\s'.os=s.os/\AllBare s'.gens/\Un (frs outer) [] H H' s.heap s'.heap/\HOk P w H' s'.heap /\
 Fly s'.heap e C dx T/\(kZ s)<=e/\(kZ s)<=T/\H' e=none/\H' T=none/\E (.ref C) (some dx) H'
section
variable {X:Cx}{pins:kA}{σ:St}{H:Hp}{s:Shared}{h':Heap}
structure Own (X:Cx)(pins:kA)(H:Hp)(h:Heap)(b:Addr):Prop where
 new:X.s₀.heap.objs.size<=b
 free:H b=none
 recd:∃ o vs,h.get? b=some o/\o.data=.fields vs
 pin:∀ p∈X.pn++pins,p.1≠b
theorem Inv.off {e T':Addr}{oe:Obj}{vs:Array Value}(I:Inv X pins σ H s)(hst:X.stack=X.env::X.outer)(hfr:X.env.frame=some X.env.locals)
  (O:L2E.Off s.heap h' e oe vs X.stack T') (oe':Own X pins H s.heap e) (oT:∀ T,vs[1]?=some (.ref T)->Own X pins H s.heap T):Inv X pins σ H { s with heap:=h' }:=by
 let ch:List Addr:=e::(match (vs[1]?:Option Value) with|some (eAF T)=>[T]|_=>[])
 have hch:∀ b∈ch,Own X pins H s.heap b:=λb hb=>by
  rcases yAf.mp hb with rfl|hb
  ·exact oe'
  ·split at hb
   ·rename_i T hT
    rw [yAE.mp hb];exact oT T hT
   ·cases hb
 have nch:∀ b,b∉ch->b≠e/\vs[1]?≠some (.ref b):=λb hb=>#[λz=>hb (z ▸ yAU ..),λz=>hb (by
  refine yAL _ ?_;rw [z];exact yAE.mpr rfl)]
 have frL:frs X.stack=X.env.locals::X.fs:=by
  rw [hst];unfold frs;rw [yDh,hfr];rfl
 have neL:∀ b,Own X pins H s.heap b->b≠X.env.locals:=λb ob z=>by
  obtain ⟨m,⟨o,es,ep,ho,hd,_⟩,_⟩:=I.loc;obtain ⟨o',vs',ho',hd'⟩:=ob.recd;rw [z,ho] at ho';cases ho';rw [hd] at hd';cases hd'
 have neC:∀ b,Own X pins H s.heap b->∀ x c,X.env.cells.lookup x=some c->c≠b:=λb ob x c hc z=>by
  obtain ⟨v,o,ho,hd⟩:=I.cell x c hc;obtain ⟨o',vs',ho',hd'⟩:=ob.recd;rw [z,ho'] at ho;cases ho;rw [hd'] at hd;cases hd
 refine I.step (g':=s.gens) (d':=s.drawn) (t':=s.toks) (ch:=ch) (λb hb=>#[.inr (hch b hb).new,neL b (hch b hb),neC b (hch b hb),(hch b hb).pin])
  (λb o hL hb hc q _=>O.keep b o (nch b hc).1 (nch b hc).2 (by rw [frL];exact λz=>(yAf.mp z).elim hL hb) q)
  (λb o hL hb hc q _=>O.slot b o (by rw [frL];exact yAL _ hb) q) (λ_ _ _ _ n=>n) (λb o hc q=>?_) (λ_ _ q=>q) (λ_ _ _ q=>q) (λb ps q=>#[#[],by rw [q];simp]) (λm hm=>?_) (λb u q=>?_) I.bare
 ·by_cases hb:b∈frs X.stack
  ·obtain ⟨sl,z⟩:=O.slot b o hb q
   exact#[_,z]
  ·exact#[o,O.keep b o (nch b hc).1 (nch b hc).2 hb q]
 ·obtain ⟨o,es,ep,ho,r⟩:=hm
  obtain ⟨sl,z⟩:=O.slot _ o (by rw [frL];exact yAU ..) ho;exact#[_,es,ep,z,r]
 ·refine (I.hok b u q).stay (λc v hc z=>?_) (λ_ z=>z) λ_ _ z=>z
  have hcn:H c≠none:=by
   rcases hc with rfl|hc
   ·rw [q];simp
   ·rw [hc];simp
  refine O.keep c v (λy=>hcn (y ▸ oe'.free)) (λy=>hcn (oT c y).free) (λy=>hcn (I.stkFree c y)) z
end
def zTP {P:eAD}{w:World}{K:Frag}{mg:Str->Option Value}{base:Heap}{N:List Str}{qual:Str}{scope:Scope}{f:Addr}{cd:Value}{A:eAK}{outer:List Env}{s0:Shared}{H0:Hp}{E:XK} :
  ZDI (CXE P w) (ZT1 (CXE P w) P w K mg base N qual scope f cd A outer s0 H0 E) E:=by
 intro pins σ H s ev s' I hc;obtain ⟨e,C,dx,T,H',rfl,os,bare,un,hok,fly,e1,t1,he,hT,hE⟩:=hc;obtain ⟨hh,g,d,t,os'⟩:=s';obtain rfl:os'=s.os:=os;have I':=I.call (h':=hh) (g':=g) (d':=d) (t':=t) (ch:=[]) un hok bare (λb z=>absurd z (by simp));obtain ⟨vs,sl,hx,h1⟩:=fly.ex;obtain ⟨oT,ts,hT1,hT2,hT3⟩:=fly.tb;have sz:=I.sz
 have pl:∀ b,(kZ s)<=b->∀ p∈(ZT1 (CXE P w) P w K mg base N qual scope f cd A outer s0 H0 E).pn++pins,p.1≠b:=λb hb p hp z=>by
  have:=yAP (I.pin p hp).1
  rw [z] at this;exact absurd (yAj this hb) (yBk _)
 have le:=yAP hx;show wpAny _ _ (leaving _ (.ref e)) _ _ _;refine L2E.leaveOff (base:=base) I'.ok.frames I'.stack rfl hx rfl (.inr #[T,oT,ts,h1,fly.ne,hT1,hT2,hT3]) λh' T' O=>?_
 have J:=I'.off (h':=h') rfl rfl O #[yAp sz e1,he,#[_,vs,hx,rfl],pl e e1] λT2 hT2'=>by
  rw [h1] at hT2';cases hT2';exact#[yAp sz t1,hT,#[oT,ts,hT1,hT2],pl T t1]
 have hv1:1<vs.size:=(yBD.mp h1).1;refine#[e,C,dx,T',H',rfl,J.os,J.bare,J.base,J.hok,#[#[_,sl,O.err,by simp [hv1]],yBf (yAj le O.fresh),O.tb],yAp sz e1,yAp I'.sz O.fresh,he,hok.fresh O.fresh,hE]
end L2
namespace L2E
open PySem PySem.Builtin.ObjectAttr
section
variable {prog:eAD}{w:World}{A:eAK}{E:kW}{h:Heap}{g:Array GenState}{d:Drawn}{t:Nat}{os:eAr}{a dx:Addr}{o:Obj}{name:Str}{v:Value}{m:Str->Option Value}
 {nm q:Str} {C N:Addr} {bs bm:List Value} {hdct:Bool} {sn:List Str} {sub:List Value} {ab:Bool} {col:Option Bool} {dd:Option Addr} {k0 k1 k2 k3 k5:Option Value} {newId:String}
def zPX {M:Model}{nameV:Value}{Q:Unit->Shared->Prop}(base:bm.contains (.type "BaseException")=true)(at_:h.get? C=some (eAs nm q C N bs bm hdct sn sub ab col dd k0 k1 k2 k3 k5 newId))
  (hx:h.get? a=some o) (hc:o.cls=.ref C) (hq:Q () #[h,g,d,t,os]):wpAny M A (eAt "BaseException.__getattribute__" #[[.ref a,nameV],[]]) Q E #[h,g,d,t,os]:=by
 have hk:builtinKind "BaseException.__getattribute__"=some .slot:=by decide +kernel
 have hsplit:splitId "BaseException.__getattribute__"=some ("BaseException","__getattribute__"):=by decide +kernel
 have hcB:(eAF C::bm).contains (.type "BaseException")=true:=by rw [yBI,base,yDp]
 have ha:=F.args_bexc_ga (.ref a) nameV;simp only [eAt,hk,hsplit];refine yAC ?_
 ·unfold isInstance
  repeat (first|(with_reducible refine yAl hx ?_;rw [hc])|(with_reducible refine yCH at_ ?_;rw [hcB])|wp_step)
  exact hq
def zOJ {tk:Tok}{Q:Fin->Shared->Prop}(at_:h.get? C=some (eAs nm q C N bs bm true sn sub ab col dd k0 k1 k2 k3 k5 newId))(fn:Finds h C name none)
  (hx:h.get? a=some o) (hc:o.cls=.ref C) (hnc:∀ c,o.data≠.cls c) (hd:o.dict=some dx) (hns:h.Ns dx m) (hv:m name=some v) (hq:Q (.done (.ret v)) #[h,g,d,t,os]) :
  wpAny (model prog w) A (Builtin.«object.__getattribute__» #[[.ref a,.str name tk],[]]) Q E #[h,g,d,t,os]:=by
 unfold Builtin.«object.__getattribute__»
 repeat (any_goals (first|assumption|(with_reducible refine yAl hx ?_;rw [hc])|wp_step))
 refine fn _ _ _ _ _ _ _ _ ?_
 repeat (any_goals (first|assumption|(with_reducible refine yAl hx ?_;rw [hc])|with_reducible refine yAl at_ ?_|wp_step))
 split
 ·rename_i c hcd
  exact absurd hcd (hnc c)
 unfold instanceDict
 repeat (first|(with_reducible refine yAl hx ?_;rw [hc])|(with_reducible refine yAl hx ?_;rw [hd])|with_reducible refine yAl hx ?_|with_reducible refine yAl at_ ?_|wp_step)
 rw [hd]
 repeat (first|(with_reducible refine wpAny_nsGet hns ?_;rw [hv])|wp_step)
 exact hq
def zXP {tk:Tok}{fill expr:Bool}{Q:kW}(base:bm.contains (.type "BaseException")=true)(at_:h.get? C=some (eAs nm q C N bs bm true sn sub ab col dd k0 k1 k2 k3 k5 newId))(fn:Finds h C name none)
  (fg:Finds h C "__getattribute__" (some (.builtin "BaseException.__getattribute__"))) (fh:Finds h C "__getattr__" none) (bind:∀ x:Value,bindSpecial (.builtin "BaseException.__getattribute__") x=pure (.builtin "BaseException.__getattribute__",[x]))
  (hx:h.get? a=some o) (hc:o.cls=.ref C) (hnc:∀ c,o.data≠.cls c) (hd:o.dict=some dx) (hns:h.Ns dx m) (hv:m name=some v) (hh:handedOut v=pure v) (hq:Q v #[h,g,d,t,os]) :
  wpAny (model prog w) A (getAttrBy (.ref a) (.str name tk) fill expr) Q E #[h,g,d,t,os]:=by
 have f3:=bind (.ref a);have hx0:(expr&&onTheHeap (Value.builtin "BaseException.__getattribute__"))=false:=by cases expr<;>rfl
 have hx2:(Value.builtin "BaseException.__getattribute__"==Value.builtin "object.__getattribute__")=false:=by decide +kernel
 have hx1:(onTheHeap (eAF C)&&Value.builtin "BaseException.__getattribute__"==Value.builtin "object.__getattribute__")=false:=by rw [hx2];rfl
 unfold getAttrBy
 repeat (any_goals (first|assumption|(with_reducible refine yAl hx ?_;rw [hc])|wp_step))
 refine fg _ _ _ _ _ _ _ _ ?_
 repeat (any_goals (first|assumption|(with_reducible refine yAl hx ?_;rw [hc])|wp_step))
 refine fh _ _ _ _ _ _ _ _ ?_
 repeat (any_goals (first|assumption|(with_reducible refine yAl hx ?_;rw [hc])|wp_step))
 refine yCt dk F.entry_bexc_ga (zPX base at_ hx hc (zOJ at_ fn hx hc hnc hd hns hv ?_))
 repeat (any_goals (first|assumption|wp_step))
def zUW (x:Value):bindSpecial (.builtin "BaseException.__getattribute__") x=pure (.builtin "BaseException.__getattribute__",[x]):=by kernel_rfl
theorem getErr {expr:Bool}{Q:kW}(base:bm.contains (.type "BaseException")=true)(at_:h.get? C=some (eAs nm q C N bs bm true sn sub ab col dd k0 k1 k2 k3 k5 newId))(fn:Finds h C name none)
  (fg:Finds h C "__getattribute__" (some (.builtin "BaseException.__getattribute__"))) (fh:Finds h C "__getattr__" none)
  (hx:h.get? a=some o) (hc:o.cls=.ref C) (hnc:∀ c,o.data≠.cls c) (hd:o.dict=some dx) (hns:h.Ns dx m) (hv:m name=some v) (hh:handedOut v=pure v) (hq:Q v #[h,g,d,t+1,os]) :
  wpAny (model prog w) A (getAttr (.ref a) name expr) Q E #[h,g,d,t,os]:=by
 unfold getAttr
 repeat (any_goals (first|assumption|with_reducible apply zXP base at_ fn fg fh zUW hx hc hnc hd hns hv hh|wp_step))
end
end L2E
namespace L2
open PySem PySem.Spec PyProof.Rows
structure ErrC (K:Frag)(C f:Addr)(bm:List Value):Prop where
 obj:∃ nm q N bs sn sub ab col dd k0 k1 k2 k3 k5,K.lookup C=some (eAs nm q C N bs bm true sn sub ab col dd k0 k1 k2 k3 k5 "ValueError.__new__")
 init:kF C "__init__" f
 fn:kJ f
 kp:keepIn K (.ref C)=true
 sa:eAB K (.ref C) "__setattr__"=some (some (.builtin "object.__setattr__"))
 ga:eAB K (.ref C) "__getattribute__"=some (some (.builtin "BaseException.__getattribute__"))
 gh:eAB K (.ref C) "__getattr__"=some none
 tail:L2E.Tail bm "ValueError"
 base:bm.contains (.type "BaseException")=true
 own:bm.contains (.type "object")=true
 pass:∀ x,refuseLoop x "__setattr__" bm=pure ()
def zFU {K:Frag}{h:Heap}{C:Addr}{x:Str}{v:Option Value}(X:K.In h)(e:eAB K (.ref C) x=some v):L2E.Finds h C x v:=λ_ _ _ _ _ _ _ _ z=>(PySem.W.looks_findIn X e).here z
def zYP {K:Frag}{h:Heap}{f:Addr}(X:K.In h)(e:kJ f):∃ o,h.get? f=some o/\o.cls=.type "function":=by
 have e:(K.lookup f).map (·.cls)=some (.type "function"):=yAm.mp e
 cases q:K.lookup f with
 | none=>rw [q] at e;cases e
 | some o=>rw [q] at e;exact#[o,X _ _ q,by injection e]
def ZJJ (e C:Addr)(dx:Option Addr):HO:=.ext λh=>∃ t0,h.get? e=some { cls:=.ref C,dict:=dx,data:=.fields (List.toArray [.ref t0,.none,.none,.none,.bool false,.none]) }
def zM9 {P:eAD}{w:World}{H:Hp}{h:Heap}{e C t0:Addr}{dx:Option Addr}(he:h.get? e=some { cls:=.ref C,dict:=dx,data:=.fields (List.toArray [.ref t0,.none,.none,.none,.bool false,.none]) }):UAI P w H h e (ZJJ e C dx):=
 #[#[t0,he],#[_,he],λ_ _ ⟨t,q⟩ k=>#[t,k _ q]]
def zMH {P:eAD}{w:World}{H:Hp}{h:Heap}{e C:Addr}{dx:Option Addr}(ok:HOk P w H h)(he:H e=some (ZJJ e C dx)):∃ t0,h.get? e=some { cls:=.ref C,dict:=dx,data:=.fields (List.toArray [.ref t0,.none,.none,.none,.bool false,.none]) }:=(ok e _ he).1
def zUT {H:Hp}{a:Addr}{o:HO}(h:H a=some o):upd H a o=H:=funext λb=>by
 by_cases e:b=a
 ·subst e;rw [zA0,h]
 ·rw [zA6 e]
section
variable {X:Cx}{p ap pos:Pos}{a b:Expr}{ta:TA}
def zZZ {K:Frag}:PySem.W.findCls K (.type "ValueError") (.type "type") "__init__"=some (.val (.builtin "ValueError.__init__")):=by
 kernel_rfl
def ZcV (K:Frag)(ta:TA):TE:=λσ H Q=>ta σ H λvs H1=>∃ e C u f bm,vs=[.ref e,u]/\ErrC K C f bm/\H1 e=some (ZJJ e C none)/\Q .non H1
def zW0 {pl:Sem Bool}(hg:Gl X "ValueError")(hm:X.mg "ValueError"=none)(ha:PA X [a,b] ta)
  (ht:eval (.Call (.Attribute (.Name "ValueError" p) "__init__" ap) [a,b] [] pos) X.env=(do
   let ov <- eval (.Name "ValueError" p) X.env
   standAt ap.atName
   let (f,first) <- holding [ov] (getMethod ov "__init__" pl)
   callWith pos f first (eAN pos (eAO [a,b] X.env)) (backToKw pos (keywordEach [] X.env))):=by rfl)
  (he:eAO [a,b] X.env=(false,eval a X.env)::eAO [b] X.env:=by rfl) (hpl:(eAN pos (eAO [b] X.env)).any (·.1)=false:=by rfl) :
  PE X (.Call (.Attribute (.Name "ValueError" p) "__init__" ap) [a,b] [] pos) (ZcV X.K ta):=by
 intro pins s σ H Q I h;refine yDQ (pl:=pl) (zEV I hg hm (by decide +kernel:bootBuiltins "ValueError"=some (.type "ValueError")) ?_) ht;have L0:∀ {M:Model} {h:Heap},PySem.W.Looks M h (typeOf (.type "ValueError")) (.type "type"):=PySem.W.Looks.of_pure (PySem.W.kitMeta_of dk);have hg0:eAB X.K (.type "type") "__getattribute__"=some (some (.builtin "type.__getattribute__")):=PySem.W.type_tga;have L1:PySem.W.Looks (model X.prog X.w) s.heap (specialOf (.type "ValueError") "__getattribute__") (some (.builtin "type.__getattribute__")):=L0.andThen (PySem.W.looks_findIn I.kIn hg0);unfold getMethod;refine yAC (L1.here ?_);dsimp only;rw [yAS PySem.W.canon_tga];refine yAC (PySem.W.cls_open I.kIn (PySem.W.Looks.of_pure (by kernel_rfl)) L0 hg0 (PySem.W.looks_hook I.kIn (r:=none) (by rfl)) (by show subIn X.K _ _=_;rfl) zZZ (yAO ?_));show wpAny _ _ (handedOut _) _ _ _;rw [PySem.W.handedOut_of dk];refine yAO (yAO ?_);have I0:=I.tok (s.toks+1);refine yDR (thn (ha pos pins _ σ H _ I0 h) λus s1 hM=>?_) he hpl;obtain ⟨vs,H1,I1,r1,q1⟩:=hM;obtain ⟨e,C,u,f,bm,rfl,ec,hH,q⟩:=q1
 cases r1 with
 | cons ra rb=>
  cases rb with
  | cons rc rd=>
   cases rd
   cases ra
   rename_i u'
   obtain ⟨nm,q0,N,bs,sn,sub,ab,col,dd,k0,k1,k2,k3,k5,lk⟩:=ec.obj;have at_:=I1.kIn _ _ lk;obtain ⟨t0,hx⟩:=zMH I1.hok hH;obtain ⟨hh,g,d,t,os⟩:=s1;refine L2E.initErr PySem.F.excBase_ValueError ec.tail.base at_ hx (by show 1<=eA5;decide) λh' z1 z2 z3=>?_;have J:=I1.write (h':=h') (x:=e) (e:=e) (o:=ZJJ e C none) (t':=t) (by rw [hH];exact eAW) (.inl rfl) z1 #[_,z2] (zM9 z2);rw [zUT hH] at J;exact#[.non,H1,J,rfl,q]
structure UAt (K:Frag)(C f:Addr):Prop where
 sp:PySem.W.specialIn K (.ref C) "__getattribute__"=some (some (.builtin "type.__getattribute__"))
 rd:PySem.W.readsIn K C (.type "type")=true
 fc:PySem.W.findCls K (.ref C) (.type "type") "__init__"=some (.val (.ref f))
 kp:keepIn K (.ref f)=true
def zIT {pl:Sem Bool}{CX:CXT}{E:XK}{k:Nat}{C f:Addr}{fd:eAY}{ps:List Str}{sp:Sp}{x:Str}{es:List Expr}(cf:UAt X.K C f)(F:FnOk X.prog X.w X.K X.mg X.base CX k f fd ps sp)(hr:Room k X.A)(hb:UAD X.K fd ps [])(hx:ZDI CX X E)
  (hg:Gl X x) (hm:X.mg x=some (.ref C)) (ha:PA X (a::es) ta)
  (ht:eval (.Call (.Attribute (.Name x p) "__init__" ap) (a::es) [] pos) X.env=(do
   let ov <- eval (.Name x p) X.env
   standAt ap.atName
   let (f,first) <- holding [ov] (getMethod ov "__init__" pl)
   callWith pos f first (eAN pos (eAO (a::es) X.env)) (backToKw pos (keywordEach [] X.env))):=by rfl)
  (hdb:(x==("__debug__":Str))=false:=by decide) (he:eAO (a::es) X.env=(false,eval a X.env)::eAO es X.env:=by rfl) (hpl:(eAN pos (eAO es X.env)).any (·.1)=false:=by rfl) :
  PE X (.Call (.Attribute (.Name x p) "__init__" ap) (a::es) [] pos) (ZWG sp [] E ta):=by
 intro pins s σ H Q I h;refine yDQ (pl:=pl) (zD5 I hg hm ?_ hdb) ht;refine PySem.W.method_cls I.kIn cf.sp (PySem.W.cls_value I.kIn cf.rd cf.fc rfl ?_);have I0:=I.tok (s.toks+1);refine yDF (h₀:=X.base) I.ok.mod.kin cf.kp (thn (ha pos pins _ σ H _ I0 h) λus s1 hM=>?_) he hpl;obtain ⟨vs,H1,I1,r,q⟩:=hM;refine#[I1.kIn,?_];exact zNF F hr hb .nil hx I1 r q
end
section
variable {X:Cx}{pins:kA}{σ:St}{H:Hp}{s:Shared}{pos pos':Pos}{o value:Expr}{fld:Str}{ta tv:TE}
def Zd9 (K:Frag)(ta tv:TE)(fld:Str):TS:=λD σ H=>tv σ H λy H1=>ta σ H1 λx H2=>∃ e C f bm,x=.ref e/\ErrC K C f bm/\eAB K (.ref C) fld=some none/\H2 e=some (ZJJ e C none) /\
 ∀ dx,H2 dx=none->dx≠e->D.nx σ (upd (upd H2 e (ZJJ e C (some dx))) dx (.xd [(fld,y)]))
def zMF (ha:PE X o ta)(hv:PE X value tv)(hs:swapsWith value (some (.Attribute o fld pos')) pos.line X.env=pure false):PS X (.Assign [.Attribute o fld pos'] value pos) (Zd9 X.K ta tv fld):=by
 intro pins s σ H D I h;refine plainObj_wpAny_Assign_Attribute (thn (hv pins s σ H _ I h) λu s1 hM=>?_) hs;obtain ⟨y,H1,I1,ry,q⟩:=hM;refine thn (ha pins s1 σ H1 _ I1 q) λov s2 hM=>?_;obtain ⟨x,H2,I2,rx,e,C,f,bm,ex,ec,nf,hH,q2⟩:=hM;subst ex;obtain rfl:ov=eAF e:=rx;obtain ⟨nm,q0,N,bs,sn,sub,ab,col,dd,k0,k1,k2,k3,k5,lk⟩:=ec.obj;have at_:=I2.kIn _ _ lk;obtain ⟨t0,hx⟩:=zMH I2.hok hH;obtain ⟨hh,g,d,t,os⟩:=s2;refine L2E.setErr PySem.F.store_ValueError ec.own at_ (ec.pass _) (zFU I2.kIn ec.sa) (zFU I2.kIn nf) hx rfl rfl (λc z=>nomatch z) λh' tk' z1 z2 z3=>?_;have lt:=yAP hx;have hn:H2 hh.objs.size=none:=I2.hok.fresh (yAF _);have J:=I2.write (h':=h') (x:=e) (e:=e) (o:=ZJJ e C (some hh.objs.size)) (t':=tk') (by rw [hH];exact eAW) (.inl rfl) z3 #[_,z1] (zM9 z1);have ne:hh.objs.size≠e:=yBf lt;have hn':upd H2 e (ZJJ e C (some hh.objs.size)) hh.objs.size=none:=by rw [zA6 ne];exact hn
 have J2:=J.take (D:=hh.objs.size) (o:=.xd [(fld,y)]) (I2.fpOk (yAF _) hn') I2.sz #[_,z2,λn=>?_]
 ·exact#[σ,_,J2,q2 _ hn ne]
 ·show RelO (eAV n [(fld,y)]) _
  rw [yCD]
  by_cases c:n=fld
  ·subst c
   simp only [beq_self_eq_true,yDs];exact ry
  ·have:(n==fld)=false:=by simpa using c
   rw [this,yAT c];exact eAW
def del (H:Hp)(e:Addr):Hp:=λb=>if b=e then none else H b
def zCZ {H:Hp}{e:Addr}:del H e e=none:=yAS rfl
def zG1 {H:Hp}{e b:Addr}(n:b≠e):del H e b=H b:=yAT n
def zQ5 {H:Hp}{e:Addr}{o:HO}:del (upd H e o) e=del H e:=funext λb=>by
 by_cases c:b=e
 ·subst c;rw [zCZ,zCZ]
 ·rw [zG1 c,zG1 c,zA6 c]
def zVN {H:Hp}{e a:Addr}{o:HO}(n:a≠e):del (upd H a o) e=upd (del H e) a o:=funext λb=>by
 by_cases c:b=e
 ·subst c;rw [zCZ,zA6 n.symm,zCZ]
 ·rw [zG1 c]
  by_cases d:b=a
  ·subst d;rw [zA0,zA0]
  ·rw [zA6 d,zA6 d,zG1 c]
def zU4 {H:Hp}{e:Addr}(h:H e=none):del H e=H:=funext λb=>by
 by_cases c:b=e
 ·subst c;rw [zCZ,h]
 ·rw [zG1 c]
theorem Inv.drop {e C:Addr}{dx:Option Addr}(I:Inv X pins σ H s)(he:H e=some (ZJJ e C dx)):Inv X pins σ (del H e) s:=by
 have nt:∀ b u,H b=some u->(∀ φ,u≠.ext φ)->del H e b=some u:=λb u q n=>by
  rw [zG1]
  ·exact q
  ·rintro rfl
   rw [he] at q;cases q;exact n _ rfl
 have nn:∀ b,H b=none->del H e b=none:=λb q=>by
  by_cases c:b=e
  ·subst c;exact zCZ
  ·rw [zG1 c];exact q
 refine#[I.ok,I.os,I.bare,#[I.base.keep,I.base.slot,λb o q n hx=>nn b (I.base.free b o q n hx),I.base.there,λb xs q=>nt b _ (I.base.tups b xs q) (λ_ z=>nomatch z),λb o u q=>nt b _ (I.base.frzs b o u q) (λ_ z=>nomatch z),λb ps q=>?_],I.loc,I.cell,nn _ I.free,λx c q=>nn c (I.freeC x c q),λp hp=>?_,λb u q=>?_,I.len]
 ·obtain ⟨m,z⟩:=I.base.tbls b ps q
  exact#[m,nt b _ z (λ_ y=>nomatch y)]
 ·obtain ⟨z1,z2,z3⟩:=I.pin p hp
  exact#[z1,nn _ z2,z3]
 ·have c:b≠e:=by rintro rfl;rw [zCZ] at q;cases q
  rw [zG1 c] at q;exact (I.hok b u q).stay (λ_ _ _ z=>z) (λa z=>nt a _ z (λ_ y=>nomatch y)) λa xs z=>nt a _ z (λ_ y=>nomatch y)
def zYZ {CX:CXT}{E:XK}{k:Nat}{C f:Addr}{bm:List Value}{fd:eAY}{ps:List Str}{sp:Sp}{Q:kW}{us:List Value}{vs:List V}(M:ErrC X.K C f bm)(F:FnOk X.prog X.w X.K X.mg X.base CX k f fd ps sp)(hr:Room (k+1) X.A)(hb:UAD X.K fd ps [])
  (hx:ZDI CX X E) (I:Inv X pins σ H s) (r:Vals vs us) (few:us.length<=eA5)
  (h:∀ e,(kZ s)<=e->H e=none->sp (.ref e::vs) (upd H e (ZJJ e C none)) (λv H2=>v=.non/\∀ s',Inv X pins σ H2 s'->Q (.ref e) s') E) :
  kM (call (.ref C) us) Q X.xe s:=by
 obtain ⟨nm,q0,N,bs,sn,sub,ab,col,dd,k0,k1,k2,k3,k5,lk⟩:=M.obj;have at_:=I.kIn _ _ lk;obtain ⟨of,hf,hc⟩:=zYP I.kIn M.fn;obtain ⟨hh,g,d,t,os⟩:=s;have hq:=h (hh.objs.size+1) (yDe _) (I.hok.fresh (yDe _));have kl:PySem.W.Frag.In X.K (L2E.laid hh C us):=I.kIn.keeps λ_ _ z=>L2E.laid_old z;have I2:Inv X pins σ (upd H (hh.objs.size+1) (ZJJ (hh.objs.size+1) C none)) #[L2E.laid hh C us,g,d,t,os]:=I.laid (h':=L2E.laid hh C us) (a:=hh.objs.size+1) (o:=ZJJ (hh.objs.size+1) C none) (t':=t) (λ_ _ z=>L2E.laid_old z) (yDe _) (zM9 L2E.laid_new);have r2:Vals (V.ref (hh.objs.size+1)::vs) (eAF (hh.objs.size+1)::us):=.cons rfl r
 have hl:(eAF (hh.objs.size+1)::us++[]).length=ps.length:=by
  rw [yBh,<- r2.length];exact F.len _ _ _ _ hq
 refine L2E.callErr PySem.F.excBase_ValueError M.tail at_ (zFU kl M.init) hf hc few ?_;refine yDc (yCX (F.run _ X.stack _ _ #[eAF (hh.objs.size+1)::us,[]] (eAF (hh.objs.size+1)::us) _ _ E (hr.make C us []) (I2.env0.make C us []) (by have:=hb _ (eAF (hh.objs.size+1)::us) I2.kIn hl;rw [yBh] at this;exact this) r2 hq) λr s' hq'=>?_)
 cases r with
 | error e=>exact hx pins σ _ _ e s' I2 hq'
 | ok fl=>
  cases fl with
  | ret u=>
   obtain ⟨v,H',I3,rv,ev,q3⟩:=I2.after hq';subst ev;exact#[rv,q3 _ I3]
  | next=>exact eAQ hq'
  | brk=>exact eAQ hq'
  | cont=>exact eAQ hq'
def ZX4 (X:Cx)(E:XK):Prop:=∀ (pins:kA) (σ:St) (H:Hp) (s:Shared) (e C dx:Addr) (vs:Array Value),Inv X pins σ H s->s.heap.get? e=some { cls:=.ref C,dict:=some dx,data:=.fields vs }->vs[1]?=some .none->Own X pins H s.heap e->E (.ref C) (some dx) H->X.xe (.ref e) s
end
def zSB {P:eAD}{w:World}{K:Frag}{mg:Str->Option Value}{base:Heap}{N:List Str}{qual:Str}{scope:Scope}{f:Addr}{cd:Value}{A:eAK}{outer:List Env}{s0:Shared}{H0:Hp}{E:XK} :
  ZX4 (ZT1 (CXE P w) P w K mg base N qual scope f cd A outer s0 H0 E) E:=by
 intro pins σ H s e C dx vs I hx h1 ow hE;have le:=yAP hx;show wpAny _ _ (leaving _ (.ref e)) _ _ _;refine L2E.leaveOff (base:=base) I.ok.frames I.stack rfl hx rfl (.inl h1) λh' T' O=>?_;have J:=I.off (h':=h') rfl rfl O ow λT2 hT2'=>by rw [h1] at hT2';cases hT2'
 have hv1:1<vs.size:=(yBD.mp h1).1;exact#[e,C,dx,T',H,rfl,J.os,J.bare,J.base,J.hok,#[#[_,#[],O.err,by simp [hv1]],yBf (yAj le O.fresh),O.tb],ow.new,yAp I.sz O.fresh,ow.free,I.hok.fresh O.fresh,hE]
inductive UAj (K:Frag)(vs:List V)(H:Hp)(Q:VK)(x_3:XK):Prop
 | mk:∀ e C u f bm,vs=[.ref e,u]->ErrC K C f bm->H e=some (ZJJ e C none)->Q .non H->UAj K vs H Q x_3
inductive UAi (C:Addr)(fld:Str)(vs:List V)(H:Hp)(Q:VK)(x_3:XK):Prop
 | mk:∀ e v,vs=[.ref e,v]->H e=some (ZJJ e C none)->(∀ dx,H dx=none->dx≠e->Q .non (upd (upd H e (ZJJ e C (some dx))) dx (.xd [(fld,v)])))->UAi C fld vs H Q x_3
section
variable {X:Cx}{a:Expr}{t:TA}{E:XK}{k:Nat}{C f:Addr}{bm:List Value}{fd:eAY}{ps:List Str}{x fld:Str}{p cpos pos:Pos}
def ZbP (C:Addr)(fld:Str)(E:XK)(t:TA):TS:=λ_ σ H=>t σ H λvs H1=>∃ v,vs=[v]/\∀ dx,H1 dx=none->E (.ref C) (some dx) (upd H1 dx (.xd [(fld,v)]))
def zH7 (hc:X.calm=true)(M:ErrC X.K C f bm)(F:FnOk X.prog X.w X.K X.mg X.base CX0 k f fd ps (UAi C fld))(hr:Room (k+1) X.A)(hb:UAD X.K fd ps [])(hg:Gl X x)(hm:X.mg x=some (.ref C))(ht:ZX4 X E)(ha:PA X [a] t)
  (hdb:(x==("__debug__":Str))=false:=by decide) (he:eAO [a] X.env=(false,eval a X.env)::eAO [] X.env:=by rfl) (hpl:(eAN cpos (eAO [] X.env)).any (·.1)=false:=by rfl) :
  PS X (.Raise (some (.Call (.Name x p) [a] [] cpos)) none pos) (ZbP C fld E t):=by
 intro pins s σ H D I h;obtain ⟨nm,q0,N,bs,sn,sub,ab,col,dd,k0,k1,k2,k3,k5,lk⟩:=M.obj
 have go:kM (eval (.Call (.Name x p) [a] [] cpos) X.env) (λv s1=>∃ e dx ta sl,v=.ref e/\s1.heap.get? C=some (eAs nm q0 C N bs bm true sn sub ab col dd k0 k1 k2 k3 k5 "ValueError.__new__")/\s1.heap.get? e=some { cls:=.ref C,dict:=dx,data:=.fields (List.toArray [.ref ta,.none,.none,.none,.bool false,.none]),slots:=sl }/\X.xe (.ref e) s1) X.xe s:=by
  refine yCB (zD5 I hg hm ?_ hdb);refine yDF (h₀:=X.base) I.ok.mod.kin M.kp (thn (ha cpos pins s σ H _ I h) λus s1 hM=>?_) he hpl;obtain ⟨vs,H1,I1,r,q⟩:=hM;refine#[I1.kIn,?_];obtain ⟨v,rfl,q⟩:=q;obtain ⟨u,rfl,ru⟩:=zEP r;refine zYZ M F hr hb zAT I1 r (by show 1<=eA5;decide) λe le hn=>#[e,v,rfl,zA0,λdx hdx ne=>#[rfl,λs' I'=>?_]];rw [zA6 ne] at hdx;have hE:=q dx hdx;have heq:(upd (upd (upd H1 e (ZJJ e C none)) e (ZJJ e C (some dx))) dx (.xd [(fld,v)])) e=some (ZJJ e C (some dx)):=by rw [zA6 ne.symm,zA0]
  obtain ⟨t0,hx⟩:=zMH I'.hok heq;have I'':=I'.drop heq;rw [zVN ne,zQ5,zQ5,zU4 hn] at I'';refine#[e,some dx,t0,#[],rfl,I'.kIn _ _ lk,hx,ht pins σ _ s' e C dx _ I'' hx rfl #[yAp I1.sz le,by rw [zA6 ne.symm];exact hn,#[_,_,hx,rfl],λp hp z=>?_] hE]
  have:=yAP (I1.pin p hp).1
  rw [z] at this;exact absurd (yAj this le) (yBk _)
 rw [arm_exec_Raise]
 first
  | exact yAC (yCF (L2E.raiseErr M.base (I.ok.hd hc) (yAC (yBW go (λv s₁ h₁=>yAC (yCF (yAO h₁))) λ_ _ x=>x))))
  | (simp only [evalOpt,Option.map];exact yAC (yCF (L2E.raiseErr M.base (I.ok.hd hc) (yAC (yBW go (λv s₁ h₁=>yAC (yCF (yAO h₁))) λ_ _ x=>x)))))
  | (show wpAny _ _ (do standAt pos;raiseStmt X.env (some (do let v <- eval (.Call (.Name x p) [a] [] cpos) X.env;standAt pos;pure v)) none) _ _ s;exact yAC (yCF (L2E.raiseErr M.base (I.ok.hd hc) (yAC (yBW go (λv s₁ h₁=>yAC (yCF (yAO h₁))) λ_ _ x=>x)))))
end
theorem Fun.okE {P:eAD}{w:World}{K:Frag}{mg:Str->Option Value}{base:Heap}{x qual:Str}{st:Stmt}{f:Addr}{fd:eAY}{N ps:List Str}{k:Nat}{sp:Sp}(F:Fun K x qual st f fd)(S:UAC N ps (ZA4 st))(len:∀ vs H Q E,sp vs H Q E->vs.length=ps.length)
  (hbody:∀ (cdv:Value) (A:eAK) (outer:List Env) (s:Shared) (H:Hp) (vs:List V) (Q:VK) (E:XK),Room k (A.deeper (envOfC qual (ZA4 st) (kZ s) f cdv))->sp vs H Q E ->
   ∃ t,PSs (ZT1 (CXE P w) P w K mg base N qual (ZA4 st) f cdv A outer s H E) (ZD3 st) t/\t { nx:=λ_ H'=>Q .non H',rt:=Q } (UAf N vs) H):FnOk P w K mg base (CXE P w) (k+1) f fd ps sp:=by
 obtain ⟨oc,od,kV,doc,pm,an,cdv,ct,osl,rfl,lk,hcd⟩:=F.ex;exact zaT lk hcd S len λA outer s H vs Q E hr hsp=>hbody cdv A outer s H vs Q E hr hsp
abbrev Cx.pinned (X:Cx)(pn:kA):Cx:={ X with pn:=pn }
abbrev Cx.suite (X:Cx)(e:Value):Cx:={ X with A:=X.A.mark (some e),calm:=false,xe:=λ_ _=>False }
section
variable {X:Cx}{pins:kA}{σ:St}{H:Hp}{s:Shared}{E:XK}{xe:kW}{ev:Value}
theorem Inv.pinT (I:Inv X pins σ H s):Inv (X.pinned (X.pn++pins)) [] σ H s:=
 #[#[I.ok.mod,I.ok.kind,I.ok.glob,I.ok.blt,I.ok.above,I.ok.inj,I.ok.has,I.ok.cab,I.ok.hd,I.ok.frames,I.ok.stk,I.ok.exf,I.ok.bs,I.ok.bsz,I.ok.noex,I.ok.exfs,I.ok.funs,I.ok.frf],I.os,I.bare,I.base,I.loc,I.cell,I.free,I.freeC,λp hp=>I.pin p (by simpa using hp),I.hok,I.len]
theorem Inv.unpinT {ps:kA}(I:Inv (X.pinned (X.pn++pins)) ps σ H s):Inv X pins σ H s:=
 #[#[I.ok.mod,I.ok.kind,I.ok.glob,I.ok.blt,I.ok.above,I.ok.inj,I.ok.has,I.ok.cab,I.ok.hd,I.ok.frames,I.ok.stk,I.ok.exf,I.ok.bs,I.ok.bsz,I.ok.noex,I.ok.exfs,I.ok.funs,I.ok.frf],I.os,I.bare,I.base,I.loc,I.cell,I.free,I.freeC,λp hp=>I.pin p (yBy _ hp),I.hok,I.len]
theorem Inv.suite (I:Inv X pins σ H s)(e:Value):Inv (X.suite e) pins σ H s:=
 #[#[I.ok.mod,I.ok.kind,I.ok.glob,I.ok.blt,I.ok.above,I.ok.inj,I.ok.has,I.ok.cab,(λz=>absurd z (by simp)),I.ok.frames,I.ok.stk,I.ok.exf,I.ok.bs,I.ok.bsz,I.ok.noex,I.ok.exfs,I.ok.funs,I.ok.frf],I.os,I.bare,I.base,I.loc,I.cell,I.free,I.freeC,I.pin,I.hok,I.len]
theorem Inv.unsuite (ok:X.Ok)(I:Inv (X.suite ev) pins σ H s):Inv X pins σ H s:=#[ok,I.os,I.bare,I.base,I.loc,I.cell,I.free,I.freeC,I.pin,I.hok,I.len]
theorem SP.unpinned {D:Ends}{f:Flow}(h:SP ((X.pinned (X.pn++pins)).wish xe) [] D f s):SP X pins D f s:=by
 cases f with
 | next=>obtain ⟨σ',H',I,q⟩:=h;exact#[σ',H',I.unwish.unpinT,q]
 | brk=>obtain ⟨σ',H',I,q⟩:=h;exact#[σ',H',I.unwish.unpinT,q]
 | cont=>obtain ⟨σ',H',I,q⟩:=h;exact#[σ',H',I.unwish.unpinT,q]
 | ret u=>obtain ⟨v,σ',H',I,r,q⟩:=h;exact#[v,σ',H',I.unwish.unpinT,r,q]
end
def XE (X:Cx)(E:XK):Value->Shared->Prop:=λev s'=>∃ (e C dx:Addr) (vs:Array Value) (sl:Array (Option Value)) (σ':St) (H':Hp),ev=.ref e/\Inv X [] σ' H' s'/\s'.heap.get? e=some { cls:=.ref C,dict:=some dx,data:=.fields vs,slots:=sl }/\Own X [] H' s'.heap e /\
 (vs[1]?=some .none \/ ∃ T oT ts,vs[1]?=some (.ref T)/\T≠e/\s'.heap.get? T=some oT/\oT.data=.fields ts/\ts[3]?=some .none/\Own X [] H' s'.heap T)/\E (.ref C) (some dx) H'
theorem Inv.nopins {X:Cx}{pins:kA}{σ:St}{H:Hp}{s:Shared}(I:Inv X pins σ H s):Inv X [] σ H s:=I.pins_of λp hp=>nomatch hp
def zX9 {Y:Cx}{E:XK}:ZDI (CXE Y.prog Y.w) (Y.wish (XE Y E)) E:=by
 intro pins σ H s ev s' I hc;obtain ⟨e,C,dx,T,H',rfl,os,bare,un,hok,fly,e1,t1,he,hT,hE⟩:=hc;obtain ⟨hh,g,d,t,os'⟩:=s';obtain rfl:os'=s.os:=os;have I':=I.call (h':=hh) (g':=g) (d':=d) (t':=t) (ch:=[]) un hok bare (λb z=>absurd z (by simp));obtain ⟨vs,sl,hx,h1⟩:=fly.ex;obtain ⟨oT,ts,hT1,hT2,hT3⟩:=fly.tb
 have pl:∀ b,(kZ s)<=b->∀ p∈(Y.wish (XE Y E)).pn++pins,p.1≠b:=λb hb p hp z=>by
  have:=yAP (I.pin p hp).1
  rw [z] at this;exact absurd (yAj this hb) (yBk _)
 have own:∀ b,(kZ s)<=b->H' b=none->(∃ o vs,hh.get? b=some o/\o.data=.fields vs)->Own Y [] H' hh b:=λb hb hn hr=>#[yAp I.sz hb,hn,hr,λp hp=>pl b hb p (yBy _ (by simpa using hp))];exact#[e,C,dx,vs,sl,σ,H',rfl,I'.unwish.nopins,hx,own e e1 he #[_,vs,hx,rfl],.inr #[T,oT,ts,h1,fly.ne,hT1,hT2,hT3,own T t1 hT #[oT,ts,hT1,hT2]],hE]
def PH (X:Cx)(hs:List ExceptHandler)(t:Addr->Addr->TS):Prop:=∀ (pins:kA) (s:Shared) (σ:St) (H:Hp) (D:Ends) (e C dx T:Addr),Inv X pins σ H s->Fly s.heap e C dx T->Own X pins H s.heap e->Own X pins H s.heap T->t C dx D σ H ->
 kM (handleBy (.ref e) X.env hs) (SP X pins D) X.xe s
def Zf8 (tb:XK->TS)(th:Addr->Addr->TS):TS:=λD σ H=>∃ E:XK,tb E D σ H/\∀ C dx σ' H',E (.ref C) (some dx) H'->σ'.length=σ.length->th C dx D σ' H'
def zSI {X:Cx}{body:List Stmt}{h₀:ExceptHandler}{hs:List ExceptHandler}{pos:Pos}{tb:XK->TS}{th:Addr->Addr->TS}(hst:X.stack=X.env::X.outer)(hfr:X.env.frame=some X.env.locals)
  (hb:∀ (pn:kA) (E:XK),PSs ((X.pinned pn).wish (XE (X.pinned pn) E)) body (tb E)) (hh:PH X (h₀ :: hs) th):PS X (.Try body (h₀ :: hs) [] [] pos) (Zf8 tb th):=by
 intro pins s σ H D I #[E,ht,hx];refine wpAny_Try_except (yBW (hb (X.pn++pins) E [] s σ H D (I.pinT.wish _) ht) (λf s1 hs=>?_) (λev s1 hx1=>?_))
 ·have q:=SP.unpinned hs
  cases f with
  | next=>exact yDd q
  | brk=>exact q
  | cont=>exact q
  | ret u=>exact q
 ·obtain ⟨e,C,dx,vs,sl,σ',H',rfl,I',hx',oe,fl,hE⟩:=hx1
  have le:=yAP hx';refine L2E.noteOff (base:=X.base) (env:=X.env) (outer:=X.outer) (L:=X.env.locals) (by rw [<- hst];exact I'.ok.frames) (by rw [<- hst];exact I'.stack) hfr hx' rfl (fl.elim .inl λ⟨T,oT,ts,a1,a2,a3,a4,a5,_⟩=>.inr #[T,oT,ts,a1,a2,a3,a4,a5]) λh' T' O=>?_;rw [<- hst] at O
  have J:=I'.off (h':=h') hst hfr O oe λT hT=>by
   rcases fl with fl|⟨T2,oT,ts,a1,a2,a3,a4,a5,a6⟩
   ·rw [fl] at hT;cases hT
   ·rw [a1] at hT;cases hT;exact a6
  have hv1:1<vs.size:=by
   rcases fl with fl|⟨T2,oT,ts,a1,_⟩
   ·exact (yBD.mp fl).1
   ·exact (yBD.mp a1).1
  have fly:Fly h' e C dx T':=#[#[_,sl,O.err,by simp [hv1]],yBf (yAj le O.fresh),O.tb];have oe2:Own X pins H' h' e:=#[oe.new,oe.free,#[_,_,O.err,rfl],λp hp=>oe.pin p (by simpa using hp)];obtain ⟨oT,ts,t1,t2,t3⟩:=O.tb
  have oT2:Own X pins H' h' T':=#[yAp I'.sz O.fresh,I'.hok.fresh O.fresh,#[oT,ts,t1,t2],λp hp z=>by
   have:=yAP (I'.pin p (by simpa using hp)).1
   rw [z] at this;exact absurd (yAj this O.fresh) (yBk _)]
  exact hh pins _ σ' H' D e C dx T' J.unpinT fly oe2 oT2 (hx C dx σ' H' hE (I'.len.trans I.len.symm))
def ZcZ (e C dx:Addr):HO:=.ext λh=>∃ vs sl,h.get? e=some { cls:=.ref C,dict:=some dx,data:=.fields vs,slots:=sl }
def zXB {P:eAD}{w:World}{H:Hp}{h:Heap}{e C dx:Addr}{vs:Array Value}{sl:Array (Option Value)}(he:h.get? e=some { cls:=.ref C,dict:=some dx,data:=.fields vs,slots:=sl }):UAI P w H h e (ZcZ e C dx):=
 #[#[vs,sl,he],#[_,he],λ_ _ ⟨v,s,q⟩ k=>#[v,s,k _ q]]
section
variable {X:Cx}{pins:kA}{σ:St}{H:Hp}{s:Shared}
theorem Own.fp {b:Addr}(I:Inv X pins σ H s)(o:Own X pins H s.heap b):ZHO X pins H b:=by
 obtain ⟨ob,vs,h1,h2⟩:=o.recd;refine#[o.free,?_,?_,.inr o.new,?_,o.pin]
 ·rintro rfl
  obtain ⟨m,⟨o',es,ep,ho,hd,_⟩,_⟩:=I.loc;rw [h1] at ho;cases ho;rw [h2] at hd;cases hd
 ·intro hb
  obtain ⟨_,o',ho,hd⟩:=I.funs.mem hb;rw [h1] at ho;cases ho;exact hd vs h2
 ·rintro x c hc rfl
  obtain ⟨v,o',ho,hd⟩:=I.cell x c hc;rw [h1] at ho;cases ho;rw [h2] at hd;cases hd
theorem Inv.goes {i:Nat}{n:Str}{m:Str->Option Value}{v:Option Value}{h':Heap}{t':Nat}(I:Inv X pins σ H s)(hN:X.N.Nodup)(hi:X.N[i]?=some n)(hm:s.heap.Ns X.env.locals m)
  (hl:∀ (i:Nat) (x:Str) (v:V),X.N[i]?=some x->σ[i]?=some (some v)->Vis X.env.scope x->∃ u,RelV v u/\ZeE X.env s.heap m x u)
  (hn:h'.Ns X.env.locals (λx=>if x=n then v else m x)) (hs:eAM X.env.locals s.heap h'):Inv X pins (σ.set i none) H { s with heap:=h',toks:=t' }:=by
 have hiσ:i<σ.length:=by rw [I.len];exact (yAH.mp hi).1
 have cne:=I.cne;have neL:∀ b o,X.s₀.heap.get? b=some o->b≠X.env.locals:=λb o e=>yAo (yAj (yAP e) I.ok.above);refine#[I.ok,I.os,I.bare,#[λb o e n hb hx=>?_,λb o e n hb hx=>?_,I.base.free,λb o e hx=>?_,I.base.tups,I.base.frzs,I.base.tbls],#[_,hn,λj y v' e1 e2 e3=>?_],λy c e=>?_,I.free,I.freeC,λp hp=>?_,λb ob e=>?_,by simpa using I.len]
 ·exact (hs.2 b (neL b o e)).trans (I.base.keep b o e n hb hx)
 ·obtain ⟨sl,e1⟩:=I.base.slot b o e n hb hx
  exact#[sl,(hs.2 b (neL b o e)).trans e1]
 ·obtain ⟨o',e1⟩:=I.base.there b o e hx
  exact#[o',(hs.2 b (neL b o e)).trans e1]
 ·by_cases hj:j=i
  ·subst hj
   rw [yDK hiσ] at e2
   cases e2
  ·rw [List.getElem?_set_ne (eAL hj)] at e2
   obtain ⟨u',r',q⟩:=hl j y v' e1 e2 e3;refine#[u',r',?_]
   rcases q with ⟨k,e⟩|⟨k,c,e,z⟩
   ·refine .inl #[k,?_]
    have:y≠n:=λe=>hj (zIE hN e1 (e ▸ hi))
    simp [this,e]
   ·exact .inr #[k,c,e,z.sameBut hs (cne y c e)]
 ·obtain ⟨w',z⟩:=I.cell y c e
  exact#[w',z.sameBut hs (cne y c e)]
 ·obtain ⟨e,n,ne,nf,d⟩:=I.pin p hp
  exact#[(hs.2 p.1 ne).trans e,n,ne,nf,d]
 ·refine (I.hok b ob e).stay (λc w' hc q=>(hs.2 c ?_).trans q) (λ_ q=>q) λ_ _ q=>q
  rintro rfl
  rcases hc with rfl|hc
  ·rw [I.free] at e;cases e
  ·rw [I.free] at hc;cases hc
def zG9 {i:Nat}{n:Str}{pos:Pos}{Q:Unit->Shared->Prop}{E:kW}{A:eAK}(I:Inv X pins σ H s)(hN:X.N.Nodup)(hi:X.N[i]?=some n)(hx:X.env.scope.names.lookup n=some .local)
  (h:∀ s',Inv X pins (σ.set i none) H s'->Q () s'):wpAny (model X.prog X.w) A (do bindName X.env n .none;unbindBehindTheSuite X.env n pos) Q E s:=by
 have hk:X.env.kindOf n=some .local:=hx;have hp:(X.env.scope.kind==.class||(X.env.scope.kind==.module&&X.env.locals != X.env.globals))=false:=by rw [I.ok.kind];rfl
 refine yAC (wpAny_bindName (zF6 (v:=.non) I hN hi (.inl hx) rfl (λs1 I1=>?_) (.inr hx)));obtain ⟨m,hm,hl⟩:=I1.loc;have hiσ:i<σ.length:=by rw [I.len];exact (yAH.mp hi).1
 have hsome:(m n).isSome=true:=by
  obtain ⟨u,r,q⟩:=hl i n .non hi (by rw [yDK hiσ]) (.inl hx)
  rcases q with ⟨_,e⟩|⟨k,_⟩
  ·rw [e];rfl
  ·rw [hk] at k;rcases k with k|k<;>cases k
 unfold unbindBehindTheSuite;refine wpAny_onRaise ?_;unfold unbindName;refine yAC (wpAny_point (yAC ?_));unfold deleteName;simp only [hk,hp];rw [yAT dQ];refine yAC (wpAny_nsDel_keeps hm λh₂ v hn₂ hs₂=>?_);rw [hsome];simp only [yDs,Bool.not_true,yBP,yCR];refine yAO (wpAny_point (h _ ?_));have J:=I1.goes (t':=s1.toks) hN hi hm hl hn₂ hs₂;rw [List.set_set] at J;exact J
end
section
variable {X:Cx}{i:Nat}{n k fld:Str}{kp hp pos ap:Pos}{b₀:Stmt}{suite:List Stmt}{rest:List ExceptHandler}{Ck:Addr}{ts:TS}{tr:Addr->Addr->TS}
def hAs (K:Frag)(Ck:Addr)(i:Nat)(ts:TS)(tr:Addr->Addr->TS):Addr->Addr->TS:=λC dx D σ H=>∃ b,exmOne K (.ref C) (.ref Ck)=some b /\
 if b=true then (∀ e,H e=none->ts { nx:=λσ2 H2=>D.nx (σ2.set i none) H2,rt:=D.rt,bk:=λσ2 H2=>D.bk (σ2.set i none) H2,ct:=λσ2 H2=>D.ct (σ2.set i none) H2 } (σ.set i (some (.ref e))) (upd H e (ZcZ e C dx))) else tr C dx D σ H
def zY5 (hN:X.N.Nodup)(hi:X.N[i]?=some n)(hx:X.env.scope.names.lookup n=some .local)(hg:Gl X k)(hm:X.mg k=some (.ref Ck))(hs:∀ e,PSs (X.suite (.ref e)) (b₀ :: suite) ts)(hr:PH X rest tr)(hdb:(k==("__debug__":Str))=false:=by decide) :
  PH X (.ExceptHandler (some (.Name k kp)) (some n) (b₀ :: suite) hp::rest) (hAs X.K Ck i ts tr):=by
 intro pins s σ H D e C dx T I fly oe oT #[b,hb,h];obtain ⟨vs,sl,hx',h1⟩:=fly.ex;have LT:PySem.W.Looks (model X.prog X.w) s.heap (typeOf (.ref e)) (.ref C):=(PySem.W.Looks.ld hx').andThen .now;refine wpAny_handleBy_cons (codeAny_handlers_test (zD5 (X:=X.suite (.ref e)) (I.suite (.ref e)) hg hm ?_ hdb)) (by intro q;cases q);refine (PySem.W.exm_one I.kIn LT hb).here ?_
 cases b with
 | false=>exact hr pins s σ H D e C dx T I fly oe oT h
 | true=>
  obtain ⟨oT',tsv,t1,t2,t3⟩:=fly.tb;refine codeAny_handlers_suite_as ?_;have fT:=oT.fp I;refine wpAny_setFlight_none hx' rfl h1 t1 t2 (yBD.mp t3).1 ?_;have I1:Inv X pins σ H { s with heap:=s.heap.update T (eAu (·.setIfInBounds 3 .none)) }:=I.turned (t':=s.toks) (it:=T) (λb o hb q=>by rw [yBL _ _ hb.symm];exact q) oT.free fT.2.1 (.inr oT.new) fT.2.2.2.2.1 oT.pin;have hx1:(s.heap.update T (eAu (·.setIfInBounds 3 .none))).get? e=some { cls:=.ref C,dict:=some dx,data:=.fields vs,slots:=sl }:=by rw [yBL _ _ fly.ne];exact hx'
  have oe1:Own X pins H (s.heap.update T (eAu (·.setIfInBounds 3 .none))) e:=#[oe.new,oe.free,#[_,_,hx1,rfl],oe.pin];have I2:=I1.take (D:=e) (o:=ZcZ e C dx) (oe1.fp I1) oe.new (zXB hx1);refine zF6 (v:=.ref e) I2 hN hi (.inl hx) rfl (λs3 I3=>?_) (.inr hx);refine yBW (hs e pins s3 _ _ _ (I3.suite (.ref e)) (h e oe.free)) (λf s4 h4=>?_) λx s4 z=>eAQ z;show wpAny _ _ _ _ _ _
  cases f with
  | next=>obtain ⟨σ',H',I4,q⟩:=h4;exact zG9 (I4.unsuite I.ok) hN hi hx λs5 I5=>#[_,_,I5,q]
  | brk=>obtain ⟨σ',H',I4,q⟩:=h4;exact zG9 (I4.unsuite I.ok) hN hi hx λs5 I5=>#[_,_,I5,q]
  | cont=>obtain ⟨σ',H',I4,q⟩:=h4;exact zG9 (I4.unsuite I.ok) hN hi hx λs5 I5=>#[_,_,I5,q]
  | ret u=>obtain ⟨v,σ',H',I4,r,q⟩:=h4;exact zG9 (I4.unsuite I.ok) hN hi hx λs5 I5=>#[v,_,_,I5,r,q]
def zbR:PH X [] (λ_ _ _ _ _=>False):=λ_ _ _ _ _ _ _ _ _ _ _ _ _ h=>eAQ h
def ZcA (K:Frag)(ta:TE)(fld:Str):TE:=λσ H Q=>ta σ H λx H1=>∃ e C dx f bm fs v,x=.ref e/\H1 e=some (ZcZ e C dx)/\ErrC K C f bm/\eAB K (.ref C) fld=some none/\H1 dx=some (.xd fs)/\fs.lookup fld=some v/\Q v H1
def zYX {e:Expr}{ta:TE}(he:PE X e ta)(hb:eAX e fld X.env (eval e X.env)=eval e X.env):PE X (.Attribute e fld pos) (ZcA X.K ta fld):=by
 intro pins s σ H Q I h;refine zQC hb (thn (he pins s σ H _ I h) λu s1 hM=>?_);obtain ⟨x,H1,I1,rx,a,C,dx,f,bm,fs,v,ex,ea,ec,nf,hd,l,q⟩:=hM;subst ex;obtain rfl:u=eAF a:=rx;obtain ⟨nm,q0,N,bs,sn,sub,ab,col,dd,k0,k1,k2,k3,k5,lk⟩:=ec.obj;have at_:=I1.kIn _ _ lk;obtain ⟨vs,sl,hx⟩:=(I1.hok a _ ea).1;obtain ⟨mA,hn,hr⟩:=I1.hok dx _ hd;have rv:=hr fld;rw [l] at rv
 cases hv:mA fld with
 | none=>rw [hv] at rv;exact eAQ rv
 | some u'=>
  rw [hv] at rv;obtain ⟨hh,g,d,t,os⟩:=s1;exact L2E.getErr ec.base at_ (zFU I1.kIn nf) (zFU I1.kIn ec.ga) (zFU I1.kIn ec.gh) hx rfl (λc z=>nomatch z) rfl hn.ns hv (PySem.W.handedOut_of (zJW rv)) #[v,H1,I1.tok (t+1),rv,q]
end
section
variable {X:Cx}
def MB5:=∀ z y,x=.str z->vs=[.str y]->(y.length==0)=false->z.length<=eA5->(∀ p,H p=none->Q (.ref p) (upd H p (.tup [.str (Txt.partition z y).1,.str (Txt.partition z y).2.1,.str (Txt.partition z y).2.2])))->MB5 x vs H Q
def MB6:=∀ z y,x=.str z->vs=[.str y]->(y.length==0)=false->z.length<=100000->(∀ D,H D=none->Q (.ref D) (upd H D (.lst ((Txt.split z y).map V.str))))->MB6 x vs H Q
end
section
variable {X:Cx}{k1 k2:Str}{p1 p2 tp hp:Pos}{kk:Nat}{b₀:Stmt}{suite:List Stmt}{rest:List ExceptHandler}{C1 C2:Addr}{ts:TS}{tr:Addr->Addr->TS}
theorem Fly.push {h:Heap}{e C dx T:Addr}(f:Fly h e C dx T)(o:Obj):Fly (h.push o) e C dx T:=by
 obtain ⟨⟨vs,sl,hx,h1⟩,ne,oT,tsv,t1,t2,t3⟩:=f;exact#[#[vs,sl,yAD _ hx,h1],ne,oT,tsv,yAD _ t1,t2,t3]
theorem Own.push {pins:kA}{H:Hp}{h:Heap}{b:Addr}(o:Own X pins H h b)(u:Obj):Own X pins H (h.push u) b:=by
 obtain ⟨n,f,⟨x,vs,hx,hd⟩,p⟩:=o;exact#[n,f,#[x,vs,yAD _ hx,hd],p]
def Ze4 (K:Frag)(C1 C2:Addr)(ts:TS)(tr:Addr->Addr->TS):Addr->Addr->TS:=λC dx D σ H=>∃ b,exmAny K (.ref C) [.ref C1,.ref C2]=some b/\if b=true then ts D σ H else tr C dx D σ H
def zZ9 (hg1:Gl X k1)(hm1:X.mg k1=some (.ref C1))(hg2:Gl X k2)(hm2:X.mg k2=some (.ref C2))(hs:∀ e,PSs (X.suite (.ref e)) (b₀ :: suite) ts)(hr:PH X rest tr)
  (hd1:(k1==("__debug__":Str))=false:=by decide) (hd2:(k2==("__debug__":Str))=false:=by decide) :
  PH X (.ExceptHandler (some (.Tuple [.Name k1 p1,.Name k2 p2] kk tp)) none (b₀ :: suite) hp::rest) (Ze4 X.K C1 C2 ts tr):=by
 intro pins s σ H D e C dx T I fly oe oT #[b,hb,h];refine wpAny_handleBy_cons (codeAny_handlers_test ?_) (by intro q;cases q);refine Tuple_ (spliced_more (zD5 (X:=X.suite (.ref e)) (I.suite (.ref e)) hg1 hm1 (spliced_more (zD5 (X:=X.suite (.ref e)) (I.suite (.ref e)) hg2 hm2 (spliced_none ?_) hd2)) hd1));refine yBs ?_
 let o:Obj:={ cls:=.type "tuple",dict:=none,data:=.seq [eAF C1,eAF C2].toArray }
 have I0:Inv X pins σ H { s with heap:=s.heap.push o }:=I.kept (t':=s.toks) λb u h=>yAD _ h;have fly:=fly.push o;have oe:=oe.push o;have oT:=oT.push o;obtain ⟨vs,sl,hx',h1⟩:=fly.ex;have LT:PySem.W.Looks (model X.prog X.w) (s.heap.push o) (typeOf (.ref e)) (.ref C):=(PySem.W.Looks.ld hx').andThen .now;refine (PySem.W.exm_tup2 I0.kIn LT (yAc _ rfl) hb).here ?_
 cases b with
 | false=>exact hr pins _ σ H D e C dx T I0 fly oe oT h
 | true=>
  obtain ⟨oT',tsv,t1,t2,t3⟩:=fly.tb;refine codeAny_handlers_suite ?_;have fT:=oT.fp I0;refine wpAny_setFlight_none hx' rfl h1 t1 t2 (yBD.mp t3).1 ?_;have I1:=I0.turned (h':=(s.heap.push o).update T (eAu (·.setIfInBounds 3 .none))) (t':=s.toks) (it:=T) (λb o hb q=>by rw [yBL _ _ hb.symm];exact q) oT.free fT.2.1 (.inr oT.new) fT.2.2.2.2.1 oT.pin;refine yBW (hs e pins _ _ _ _ (I1.suite (.ref e)) h) (λf s4 h4=>?_) λx s4 z=>eAQ z
  cases f with
  | next=>obtain ⟨σ',H',I4,q⟩:=h4;exact#[_,_,I4.unsuite I.ok,q]
  | brk=>obtain ⟨σ',H',I4,q⟩:=h4;exact#[_,_,I4.unsuite I.ok,q]
  | cont=>obtain ⟨σ',H',I4,q⟩:=h4;exact#[_,_,I4.unsuite I.ok,q]
  | ret u=>obtain ⟨v,σ',H',I4,r,q⟩:=h4;exact#[v,_,_,I4.unsuite I.ok,r,q]
end
section
variable {prog:eAD}{w:World}{A:eAK}{E:kW}{s:Shared}
def zK1 {it t:Addr}{items:Array Value}(hne:t≠it):∀ (n i:Nat) (s:Shared) (Q:List Value->Shared->Prop),s.heap.IsListIter it t i->s.heap.IsList t items->i+n<=items.size ->
  (∀ h',h'.IsListIter it t (i+n)->eAM it s.heap h'->Q ((items.toList.drop i).take n) { s with heap:=h' })->wpAny (model prog w) A (draw (.ref it) n) Q E s
 | 0,i,s,Q,hit,_,_,hQ=>by
  show wpAny _ _ (pure []) Q E s;exact yAO (by simpa using hQ s.heap hit (Heap.SameBut.refl ..))
 | n+1,i,s,Q,hit,ht,hle,hQ=>by
  have hlt:i<items.size:=by lia
  show wpAny _ _ (pyNext (.ref it) >>= _) Q E s;refine yAC (wpAny_pyNext_list_item hit ht (x:=items[i]) (by simp [hlt]) λh₁ hit₁ hs₁=>?_);refine yAC (yBa (zK1 hne n (i+1) _ _ hit₁ (ht.extBut hs₁.extBut hne) oz λh₂ hit₂ hs₂=>yAO ?_));have hd:items.toList.drop i=items[i]::items.toList.drop (i+1):=by simp [yAz,hlt]
  have:=hQ h₂ (by rw [show i+(n+1)=i+1+n by lia];exact hit₂) (hs₁.trans hs₂)
  rw [hd,List.take_succ_cons] at this;exact this
def zG4 {t:Addr}{items:Array Value}{Q:List Value->Shared->Prop}(hh:A.handled=none)(ht:s.heap.IsList t items)
  (hQ:∀ h',Heap.ExtBut (kZ s) s.heap h'->Q items.toList { s with heap:=h' }):wpAny (model prog w) A (unpackItems (.ref t) items.size none) Q E s:=by
 have hlt:t≠(kZ s):=by obtain ⟨o,ho,_⟩:=ht;exact yAo (yAP ho)
 unfold unpackItems;refine yAC ?_
 ·unfold notIterableAtAll
  refine yAC (wpAny_specialOf ht.typeIs slot_list_iter.lookup ?_);refine yAO ?_;simp only [yBP,yCR];refine yAC (yBa (yCr ht ?_));refine yAC (yBa (zK1 hlt items.size 0 _ _ #[_,yAc _ rfl,rfl,rfl] (ht.push _) oz λh₁ hit₁ hs₁=>?_))
  have hall:List.take items.size (List.drop 0 items.toList)=items.toList:=by
   rw [List.drop_zero];exact yAs (by simp)
  rw [hall];rw [yAT (by simp)];have ht₁:h₁.IsList t items:=(ht.push _).extBut hs₁.extBut hlt;refine yAC (yBa (wpAny_pyNext_list_end hh hit₁ ht₁ (by simp) λh₂ he₂=>?_));simp only [Option.isSome_none,yBP,yCR];refine yAO (hQ h₂ λb o hb e=>he₂ b o hb (hs₁.extBut b o hb (yAD _ e)))
def zLD {t:Addr}{items:Array Value}{targets:List (Bool×(Value->Sem Unit))}{Q:Unit->Shared->Prop}(hh:A.handled=none)(ht:s.heap.IsList t items)
  (hn:targets.length=items.size) (hstar:targets.findIdx? (·.1)=none)
  (h:∀ h',Heap.ExtBut (kZ s) s.heap h'->wpAny (model prog w) A (assignInOrder (targets.map (·.2)) items.toList) Q E { s with heap:=h' }) :
  wpAny (model prog w) A (unpack (.ref t) targets) Q E s:=by
 unfold unpack;rw [hn,hstar];exact yAC (yBa (zG4 hh ht h))
end
inductive UBB (K:Frag)(n:Nat)(t:TGs)(v:V)(σ:St)(H:Hp)(Q:(St->Hp->Prop)):Prop
 | mk:∀ a xs,v=.ref a->SqL K H a xs->xs.length=n->t xs σ H Q->UBB K n t v σ H Q
def zYH {X:Cx}{pos:Pos}{es:List Expr}{k:Nat}{t:TGs}{n:Nat}(hc:X.calm=true)(h:PGs X es t)
  (hn:(eAR es X.env).length=n:=by rfl) (hst:(eAR es X.env).findIdx? (·.1)=none:=by rfl):PG X (.Tuple es k pos) (UBB X.K n t):=by
 intro pins s σ H v u Q I r hw;obtain ⟨a,xs,e1,hq,hl,hw⟩:=hw;subst e1
 cases r
 obtain ⟨its,rv,ht,hz⟩:=I.list hq;rw [assign_Tuple];refine yAC (yCF (zLD (I.ok.hd hc) ht.isList (by simp [hn,<- hl,rv.length]) hst λh' hx=>?_));have I1:Inv X pins σ H { s with heap:=h' }:=I.kept (t':=s.toks) λb o e=>hx b o (yAo (yAP e)) e;exact h pins _ σ H xs _ Q I1 (by simpa using rv) hw
end L2
namespace HT
open PySem PySem.W PySem.Calls PyProof.Rows
def ZFG (tb:String->Option Builtin)(p:eAD)(w:World)(m:Nat)(ann:Option Value):Nat->SharedT->Thread->Option SharedT
 | 0,_,_=>none
 | n+1,s,t=>match through t with
  | true=>some s
  | false=>match stepOk m ann t with
   | false=>none
   | true=>match stepT (denote tb) p w s t with
    | some (s',t')=>ZFG tb p w m ann n s' t'
    | none=>none
def zI1 {tb:String->Option Builtin}{p:eAD}{w:World}{m:Nat}{ann:Option Value}:∀ {n:Nat} {s s':SharedT} {t:Thread},ZFG tb p w m ann n s t=some s'->topRun tb p w m ann n s.abs t=some s'.abs
 | 0,_,_,_,h=>by cases h
 | n+1,s,s',t,h=>by
  unfold ZFG at h;unfold topRun
  cases he:through t with
  | true=>rw [he] at h;cases h;rfl
  | false=>
   rw [he] at h
   cases hk:stepOk m ann t with
   | false=>rw [hk] at h;cases h
   | true=>
    rw [hk] at h
    cases hs:stepT (denote tb) p w s t with
    | none=>rw [hs] at h;cases h
    | some r=>obtain ⟨a,b⟩:=r;rw [hs] at h;rw [stepT_spec hs];exact zI1 h
def bt (l:List Obj):Nat->Nat->Nat->BT
 | 0,_,_=>.nil
 | n+1,a,b=>match l[b]? with
  | some o=>.node o (bt l n (2*a) (a+b)) (bt l n (2*a) (2*a+b))
  | none=>.nil
def Zc8 (P:Params):BT:=bt (eAv P).objs.toList 10 1 0
def ZOC:Nat:=11
def zW4 (P:Params):absHeap (Zc8 P) ZOC (eAv P).life=eAv P:=by
 kernel_rfl
def zWE (P:Params):(eAv P).nsMap eAA "__annotations__"=some (eAF 6):=by kernel_rfl
def zXU (P:Params):(eAv P).isNs eAA=true:=by kernel_rfl
def zQ3 (P:Params):(eAv P).objs.size=ZOC:=by kernel_rfl
def ZJR (P:Params)(os:eAr):SharedT:=#[Zc8 P,ZOC,(eAv P).life,Array.mk [],boot_drawn,boot_toks,os]
def zOX (P:Params)(os:eAr):(ZJR P os).abs=#[eAv P,Array.mk [],boot_drawn,boot_toks,os]:=by
 unfold ZJR SharedT.abs;dsimp only;rw [zW4]
def ran (p q:eAD)(loose:List Str)(Xt:Shared->Bool){α:Type}(Yf:Shared->α)(N:Nat)(w:World)(os:eAr):=
 (ZFG treeTable p w ZOC (some (eAF 6)) N (ZJR w.params os) (topStub p)).map λs=>
  (staticsOk (importedModules p.main.body) (eAv w.params) s.abs.heap&&namesBound p s.abs.heap&&gensDone s.abs&&laidKept (eAv w.params) s.abs.heap,
   openSeen q loose (importedModules p.main.body) Xt true s.abs,Yf s.abs)
def zXW {p q:eAD}{loose:List Str}{Xt:Shared->Bool}{α:Type}{Yf:Shared->α}{Ya:World->α}{N:Nat}
  (e:opening p=plainProg p.main.scope.names) (hN:Nat.ble 600 N=true) (f:∀ s,fenceModules? p s=some s)
  (h:∀ w os,ran p q loose Xt Yf N w os=some (true,openGood q loose,Ya w)):LeftO p q loose Xt Yf Ya N:=λw=>by
 obtain ⟨⟨hp,gs,d,k,os⟩,e1,e2⟩:=yCh.mp (boot_open e hN f w);obtain ⟨rfl,rfl,rfl,rfl⟩:hp=eAv w.params/\gs=Array.mk []/\d=boot_drawn/\k=boot_toks:=by simpa using e2
 obtain ⟨s,r1,r2⟩:=yCh.mp (h w os);have r3:=zI1 r1;rw [zOX] at r3;obtain ⟨l1,l2,l3⟩:_/\_/\_:=by simpa only [Prod.mk.injEq] using r2
 have t:topFrom treeTable p w N #[eAv w.params,Array.mk [],boot_drawn,boot_toks,os]=some s.abs:=by
  unfold topFrom;dsimp only;rw [zWE,zXU,zQ3,r3];show (match staticsOk (importedModules p.main.body) (eAv w.params) s.abs.heap&&namesBound p s.abs.heap&&gensDone s.abs&&laidKept (eAv w.params) s.abs.heap with|true=>_|false=>_)=_;rw [l1]
 unfold openEnds;rw [e1];show (topFrom treeTable p w N _).map _=_;rw [t];exact congrArg some (Prod.ext l2 l3)
def only (p:eAD)(l:List Stmt):eAD:={ p with main:={ p.main with body:=l } }
end HT
namespace HT
open PySem PySem.W PySem.Calls PyProof.Rows
def chk (p q:eAD)(loose:List Str)(Xt:Shared->Bool)(N:Nat)(w:World)(os:eAr):=
 (ZFG treeTable p w ZOC (some (eAF 6)) N (ZJR w.params os) (topStub p)).map λs=>
  (staticsOk (importedModules p.main.body) (eAv w.params) s.abs.heap&&namesBound p s.abs.heap&&gensDone s.abs&&laidKept (eAv w.params) s.abs.heap,
   openSeen q loose (importedModules p.main.body) Xt true s.abs)
def obs (p:eAD){α:Type}(Yf:Shared->α)(N:Nat)(w:World)(os:eAr):=
 (ZFG treeTable p w ZOC (some (eAF 6)) N (ZJR w.params os) (topStub p)).map λs=>Yf s.abs
theorem left_of2 {p q:eAD}{loose:List Str}{Xt:Shared->Bool}{α:Type}{Yf:Shared->α}{Ya:World->α}{N:Nat}
  (e:opening p=plainProg p.main.scope.names) (hN:Nat.ble 600 N=true) (f:∀ s,fenceModules? p s=some s)
  (h1:∀ w os,chk p q loose Xt N w os=some (true,openGood q loose)) (h2:∀ w os,obs p Yf N w os=some (Ya w)):LeftO p q loose Xt Yf Ya N:=zXW e hN f λw os=>by
 have a:=h1 w os;have b:=h2 w os;unfold chk at a;unfold obs at b;unfold ran;obtain ⟨s,h,ea⟩:=yCh.mp a;rw [h] at b ⊢;have eb:Yf s.abs=Ya w:=eAH b;rw [yCm]
 congr 1
 injection ea with e1 e2
 rw [e1,e2,eb]
theorem obs_app {p:eAD}{N:Nat}{w:World}{os:eAr}{as bs:List Addr}{r q:List (Option Obj)}(h1:obs p (λs=>as.map s.heap.get?) N w os=some r)(h2:obs p (λs=>bs.map s.heap.get?) N w os=some q):obs p (λs=>(as++bs).map s.heap.get?) N w os=some (r++q):=by
 unfold obs at h1 h2 ⊢;obtain ⟨s,h,ea⟩:=yCh.mp h1;rw [h] at h2 ⊢;have eb:bs.map s.abs.heap.get?=q:=eAH h2;rw [yCm]
 congr 1
 show (as++bs).map s.abs.heap.get?=r++q;rw [yAQ,eb]
 congr 1
end HT
namespace S
open PySem L2
def top (i:Nat):Stmt:=PySem.Challenge.pw_alwaysmeet_k27_falls_settled.main.body.getD i (.Pass #[0,0,0,0])
def ZJ0 (c i:Nat):Stmt:=match top c with
 | .ClassDef _ _ _ b ..=>b.getD i (.Pass #[0,0,0,0])
 | _=>.Pass #[0,0,0,0]
abbrev zRN:Stmt:=top 14
abbrev zL5:Stmt:=top 15
abbrev zXE:Stmt:=top 16
abbrev zY6:Stmt:=top 17
abbrev zdW:Stmt:=top 20
abbrev zSZ:Stmt:=top 23
abbrev ze9:Stmt:=top 25
abbrev ze7:Stmt:=top 26
abbrev zdG:Stmt:=top 27
abbrev zXQ:Stmt:=top 30
abbrev zJ3:Stmt:=top 31
abbrev zL4:Stmt:=top 32
abbrev zJ5:Stmt:=top 34
abbrev zLI:Stmt:=top 36
abbrev zSS:Stmt:=top 37
abbrev ze1:Stmt:=top 38
abbrev zG7:Stmt:=top 39
abbrev zJA:Stmt:=top 40
abbrev zT0:Stmt:=top 45
abbrev zIO:Stmt:=top 42
abbrev zJH:Stmt:=top 44
abbrev zSN:Stmt:=top 43
abbrev zIQ:Stmt:=top 47
abbrev zGV:Stmt:=top 46
abbrev zHF:Stmt:=top 24
abbrev za8:Stmt:=top 49
abbrev zdD:Stmt:=top 50
abbrev zYK:Stmt:=top 51
abbrev zMD:Stmt:=top 53
abbrev zQF:Stmt:=top 54
abbrev zZS:Stmt:=top 58
abbrev zdP:Stmt:=top 56
abbrev zM7:Stmt:=top 57
abbrev zUJ:Stmt:=top 72
abbrev zZY:Stmt:=ZJ0 21 0
abbrev zQA:Stmt:=ZJ0 21 1
abbrev za6:Stmt:=ZJ0 21 2
abbrev zIW:Stmt:=ZJ0 21 3
abbrev zTO:Stmt:=ZJ0 21 4
abbrev zQ4:Stmt:=ZJ0 21 5
abbrev zS7:Stmt:=ZJ0 33 0
abbrev zIH:Stmt:=ZJ0 33 1
abbrev zQU:Stmt:=ZJ0 33 2
abbrev zQP:Stmt:=ZJ0 33 4
abbrev zJ9:Stmt:=ZJ0 33 6
abbrev zSJ:Stmt:=ZJ0 33 7
abbrev zSX:Stmt:=ZJ0 33 8
abbrev zF8:Stmt:=ZJ0 33 11
abbrev zPQ:Stmt:=ZJ0 33 13
abbrev zCR:Stmt:=ZJ0 2 0
abbrev zDS:Stmt:=ZJ0 4 0
abbrev zFT:Stmt:=ZJ0 5 0
abbrev zFH:Stmt:=ZJ0 6 0
abbrev zET:Stmt:=top 52
abbrev zFM:Stmt:=top 55
abbrev zEF:Stmt:=top 59
abbrev zDE:Stmt:=top 60
abbrev zEE:Stmt:=top 61
abbrev zEG:Stmt:=top 62
abbrev zER:Stmt:=top 63
abbrev zFR:Stmt:=top 64
abbrev zEI:Stmt:=top 65
abbrev zGT:Stmt:=top 66
abbrev zD0:Stmt:=top 67
abbrev zD7:Stmt:=top 68
abbrev zCK:Stmt:=top 69
abbrev zCG:Stmt:=top 70
abbrev zDL:Stmt:=top 71
end S
namespace L2
open PySem PySem.Spec PyProof.Rows
def zJB {o0:HO}{xs:List Str}{fv:List (Str×Nat)}{g:TG}{tt:TT}{tb:TB}{σ:St}{H1:Hp}{Q:VK}{z:Str}(Pv:Nat->Addr->Hp->Prop)(h0:∀ D,H1 D=none->Pv 0 D (upd H1 D o0))
  (hs:∀ i D H' c,H1 D=none->z.cps[i]?=some c->Pv i D H'->g (.str ⟨#[c]⟩) (ρT xs fv σ) H' λσ2 H2=>ZIK xs (ρT xs fv σ) σ2/\tt σ2 H2 λb H3=>if b=true then tb D σ2 H3 (Pv (i+1) D) else Pv (i+1) D H3)
  (hd:∀ D H',H1 D=none->Pv z.cps.size D H'->Q (.ref D) H'):ZCY o0 xs fv g tt tb σ (Its z) H1 Q:=by
 refine zC7 z.cps.size Pv h0 (λi D H' hD hi hP=>hi) (λD H' hD hP=>yAF _) (λi D H' x H2 hD hi hP y=>?_) hd;obtain ⟨rfl,c,hc,rfl⟩:=y;exact hs i D _ c hD hc hP
theorem UAB {H:Hp}{p:Addr}(h:H p=none)(o:HO):Same H (upd H p o):=λb u q=>by rw [zA6 (zA3 q h)];exact q
def zCM {H:Hp}{p:Addr}(h:H p=none)(o:HO):∃ H2,Same H H2∧H2 p=some o∧upd H p o=H2:=#[_,UAB h o,zA0,rfl]
end L2
namespace S
open PySem L2
def LET:Str:="abcdefghijklmnopqrstuvwxyz"
def OWN:List Str:=["lots","many","weights","grid","wall","tree","put","reads","writes","none","stands","falls","all"]
def ZGX (z signs:Str):Bool:=z.cps.toList.all λc=>decide (c∈signs.cps.toList)
def ZDA (z:Str)(most:Int):Bool:=decide (1<=(z.length:Int))&&decide ((z.length:Int)<=most)
def ZQ1 (x:V)(signs:Str)(most:Int):Bool:=match x with
 | .str z=>ZDA z most&&ZGX z signs
 | _=>false
def Zf3 (x:V):Bool:=match x with
 | .int _=>true
 | .bl _=>true
 | _=>false
def ZbB (x:V):Bool:=match x with
 | .bl _=>true
 | _=>false
def ZcR (x:V):Bool:=match x with
 | .str _=>true
 | _=>false
def ZPI (x:V):Bool:=match x with
 | .int _=>true
 | _=>false
def ZL6 (x:V)(lo hi:Int):Bool:=match x with
 | .int i=>decide (lo<=i)&&decide (i<=hi)
 | _=>false
def ZfC (x:V):Bool:=inV x (OWN.map V.str)
def ZC1 (x:V):Bool:=ZQ1 x LET 6 && !ZfC x
def Th (H:Hp)(x:V):Prop:=match x with
 | .non=>True
 | .bl _=>True
 | .int _=>True
 | .str z=>z.length<=100000
 | .ref a=>(∃ xs,H a=some (.lst xs)) \/ (∃ xs,H a=some (.tup xs)) \/ ∃ kvs,H a=some (.dK kvs)
 | _=>False
theorem Th.mono {H H':Hp}{x:V}(g:Same H H')(h:Th H x):Th H' x:=by
 cases x with
 | ref a=>
  rcases h with ⟨xs,h⟩|⟨xs,h⟩|⟨kvs,h⟩
  ·exact .inl #[xs,g _ _ h]
  ·exact .inr (.inl #[xs,g _ _ h])
  ·exact .inr (.inr #[kvs,g _ _ h])
 | _=>exact h
structure Kit (K:Frag):Prop where
 i_non:eAC K (.type "NoneType") (.type "int")=some false
 i_bool:eAC K (.type "bool") (.type "int")=some true
 i_str:eAC K (.type "str") (.type "int")=some false
 i_list:eAC K (.type "list") (.type "int")=some false
 i_tup:eAC K (.type "tuple") (.type "int")=some false
 i_dict:eAC K (.type "dict") (.type "int")=some false
 b_non:eAC K (.type "NoneType") (.type "bool")=some false
 b_int:eAC K (.type "int") (.type "bool")=some false
 b_str:eAC K (.type "str") (.type "bool")=some false
 b_list:eAC K (.type "list") (.type "bool")=some false
 b_tup:eAC K (.type "tuple") (.type "bool")=some false
 b_dict:eAC K (.type "dict") (.type "bool")=some false
 s_non:eAC K (.type "NoneType") (.type "str")=some false
 s_int:eAC K (.type "int") (.type "str")=some false
 s_bool:eAC K (.type "bool") (.type "str")=some false
 s_list:eAC K (.type "list") (.type "str")=some false
 s_tup:eAC K (.type "tuple") (.type "str")=some false
 s_dict:eAC K (.type "dict") (.type "str")=some false
def zXT {K:Frag}(k:Kit K){H:Hp}{x:V}(h:Th H x):∃ t,TyOf K H x t/\eAC K t (.type "int")=some (Zf3 x):=by
 cases x with
 | non=>exact#[_,.non,k.i_non]
 | bl b=>exact#[_,.bl b,k.i_bool]
 | int i=>exact#[_,.int i,rfl]
 | str z=>exact#[_,.str z,k.i_str]
 | ref a=>
  rcases h with ⟨xs,h⟩|⟨xs,h⟩|⟨kvs,h⟩
  ·exact#[_,.lst h,k.i_list]
  ·exact#[_,.tup h,k.i_tup]
  ·exact#[_,.dK h,k.i_dict]
 | _=>exact h.elim
def zV0 {K:Frag}(k:Kit K){H:Hp}{x:V}(h:Th H x):∃ t,TyOf K H x t/\eAC K t (.type "bool")=some (ZbB x):=by
 cases x with
 | non=>exact#[_,.non,k.b_non]
 | bl b=>exact#[_,.bl b,rfl]
 | int i=>exact#[_,.int i,k.b_int]
 | str z=>exact#[_,.str z,k.b_str]
 | ref a=>
  rcases h with ⟨xs,h⟩|⟨xs,h⟩|⟨kvs,h⟩
  ·exact#[_,.lst h,k.b_list]
  ·exact#[_,.tup h,k.b_tup]
  ·exact#[_,.dK h,k.b_dict]
 | _=>exact h.elim
def zL8 {K:Frag}(k:Kit K){H:Hp}{x:V}(h:Th H x):∃ t,TyOf K H x t/\eAC K t (.type "str")=some (ZcR x):=by
 cases x with
 | non=>exact#[_,.non,k.s_non]
 | bl b=>exact#[_,.bl b,k.s_bool]
 | int i=>exact#[_,.int i,k.s_int]
 | str z=>exact#[_,.str z,rfl]
 | ref a=>
  rcases h with ⟨xs,h⟩|⟨xs,h⟩|⟨kvs,h⟩
  ·exact#[_,.lst h,k.s_list]
  ·exact#[_,.tup h,k.s_tup]
  ·exact#[_,.dK h,k.s_dict]
 | _=>exact h.elim
def JA0:=∀ x,vs=[x]->Th H x->Q (.bl (ZPI x)) H->JA0 vs H Q E
def JA1:=∀ x lo hi,vs=[x,.int lo,.int hi]->Th H x->Q (.bl (ZL6 x lo hi)) H->JA1 vs H Q E
def JA2:=∀ x signs most,vs=[x,.str signs,.int most]->Th H x->(∀ H',Same H H'->Q (.bl (ZQ1 x signs most)) H')->JA2 vs H Q E
def JA3:=∀ x,vs=[x]->Th H x->(∀ H',Same H H'->Q (.bl (ZC1 x)) H')->JA3 vs H Q E
structure Txt (mg:Str->Option Value):Prop where
 inst:mg "isinstance"=none
 int:mg "int"=none
 bool:mg "bool"=none
 str:mg "str"=none
 len:mg "len"=none
 all:mg "all"=none
 list:mg "list"=none
 range:mg "range"=none
 repr:mg "repr"=none
structure Def (P:eAD)(w:World)(K:Frag)(mg:Str->Option Value)(base:Heap)(k:Nat)(x:Str)(ps:List Str)(sp:Sp)(g:Addr)(gd:eAY):Prop where
 ok:Fk k g gd ps sp
 b:UAD K gd ps []
 k:keepIn K (.ref g)=true
 m:mg x=some (.ref g)
section
variable {P:eAD}{w:World}{K:Frag}{mg:Str->Option Value}{base:Heap}
def zaB:UAC ["thing"] ["thing"] (ZA4 zRN):=by trivial
def zTU (F:Fun K "is_whole" "is_whole" zRN f fd)(T:Txt mg)(k:Kit K):Fk 1 f fd ["thing"] JA0:=by
 refine fk F.ok zaB;obtain ⟨x,rfl,hx,q⟩:=h;obtain ⟨t,ty,e⟩:=zXT k hx;obtain ⟨t2,ty2,e2⟩:=zV0 k hx
 refine#[_,zA2 (zA7 (zDH (zAD zBM rfl T.inst yAn #v[(pv 0),(zB3 (v:=.ty "int") rfl T.int PyProof.Rows.boot_int rfl)])
  (zEA (zNK (zAD zBM rfl T.inst yAn #v[(pv 0),(zB3 (v:=.ty "bool") rfl T.bool PyProof.Rows.boot_bool rfl)]))))),?_]
 refine#[_,rfl,x,t,"int",_,rfl,ty,e,_,rfl,?_];refine zD2 (λc=>?_) (λc=>?_)
 ·refine#[_,rfl,x,t2,"bool",_,rfl,ty2,e2,_,rfl,?_]
  have:(!ZbB x)=ZPI x:=by cases x<;>first|rfl|cases c
  rw [this];exact q
 ·have:false=ZPI x:=by cases x<;>first|rfl|exact absurd rfl c
  rw [<- this] at q;exact q
def zV5:UAC ["thing","low","high"] ["thing","low","high"] (ZA4 zL5):=by trivial
def zRG (F:Fun K "is_within" "is_within" zL5 f fd)(D1:Df 1 "is_whole" ["thing"] JA0 a1 d1):Fk 2 f fd ["thing","low","high"] JA1:=by
 refine fk F.ok zV5;obtain ⟨x,lo,hi,rfl,hx,q⟩:=h;refine#[_,zA2 (zA7 (zDH (kq D1 hr #v[(pv 0)]) (zEA (zUG zP2 zP2 (pv 1) (pv 0) (pv 2))))),?_];refine#[_,rfl,x,rfl,hx,_,rfl,?_];refine zD2 (λc=>?_) (λc=>?_)
 ·cases x with
  | int i=>
   refine#[_,rfl,_,rfl,_,_,rfl,rfl,_,rfl,?_];have e:ZL6 (.int i) lo hi=(decide (lo<=i)&&decide (i<=hi)):=rfl;rw [e] at q
   by_cases h1:lo<=i
   ·rw [yAJ h1] at q ⊢
    exact zCQ #[_,rfl,_,_,rfl,rfl,q]
   ·rw [yAG h1] at q ⊢
    exact zAY q
  | _=>cases c
 ·cases x with
  | int i=>exact absurd rfl c
  | _=>exact q
def zaY:UAC ["thing","signs","most"] ["thing","signs","most"] (ZA4 zXE):=by trivial
def ZXK (z signs:Str)(i:Nat):List Bool:=(z.cps.toList.take i).map λc=>decide (c∈signs.cps.toList)
def zSU {z signs:Str}{i c:Nat}(h:z.cps[i]?=some c):ZXK z signs (i+1)=ZXK z signs i++[decide (c∈signs.cps.toList)]:=by
 unfold ZXK;have h':z.cps.toList[i]?=some c:=by rw [yBH];exact h
 rw [yBG,h',yAQ];rfl
def zW5 (z signs:Str):(ZXK z signs z.cps.size).all id=ZGX z signs:=by
 unfold ZXK ZGX;rw [yAs (by simp),List.all_map];rfl
def zZ0 (F:Fun K "is_made_of" "is_made_of" zXE f fd)(T:Txt mg)(k:Kit K):Fk 1 f fd ["thing","signs","most"] JA2:=by
 refine fk F.ok zaY;obtain ⟨x,signs,most,rfl,hx,q⟩:=h;obtain ⟨t,ty,e⟩:=zL8 k hx;have s1:100000<=eA5:=by decide
 refine#[_,zA1 (zAK (PW.pt (zGR (zBH (zB4 (zAD zBM rfl T.inst yAn #v[(pv 0),(zB3 (v:=.ty "str") rfl T.str yDS rfl)])))
   (zE9 (zBH (zMU zP2 zP2 zA5 (zAD zG2 rfl T.len yCv #v[(pv 0)]) (pv 2)))))) (zA2 (zA7 zC0)) zA8)
  (zA2 (zA7 (zAD (zGI rfl) rfl T.all yDT #v[(zAQ (xs:=["sign"]) (fv:=[("signs",1)]) rfl dk #[#[rfl,Or.inl rfl,rfl],trivial] (zRP (pv 0)) (λ_ _ _ _ _=>zAG (i:=0) (ndT dk) rfl (Or.inl rfl)) (λ_ _ _ _ _=>zBD) (λ_ _ _ _ _=>zAW zSK (pv 0) (pv 1) (by with_unfolding_all rfl)))]))),?_]
 refine#[_,rfl,x,t,"str",_,rfl,ty,e,_,rfl,?_]
 cases x with
 | str z=>
  have hz:z.length<=100000:=hx;refine zAY ?_;have e0:ZQ1 (.str z) signs most=(ZDA z most&&ZGX z signs):=rfl;rw [e0] at q;unfold ZDA at q;refine#[_,rfl,z,rfl,oz,_,_,rfl,rfl,_,rfl,?_]
  by_cases h1:1<=(z.length:Int)
  ·rw [yAJ h1,yBx] at q
   rw [yAJ h1];refine zCQ #[_,rfl,_,_,rfl,rfl,_,rfl,?_]
   by_cases h2:(z.length:Int)<=most
   ·rw [yAJ h2,yBx] at q
    rw [yAJ h2];refine zAY ?_;refine#[_,rfl,z,rfl,zJB (λi D H'=>Same H H'/\H' D=some (.lst ((ZXK z signs i).map V.bl))) (λD hD=>#[UAB hD _,zA0]) (λi D H' c hD hc hP=>?_) (λD H' hD hP=>?_)]
    ·obtain ⟨g,hl⟩:=hP
     have hi:i<z.cps.size:=(yBD.mp hc).1;have hzs:z.cps.size<=100000:=hz;refine#[rfl,?_];unfold ZHP
     (try dsimp only)
     rw [yAS rfl];refine#[_,rfl,_,rfl,_,_,rfl,rfl,_,hl,?_,λb o e=>?_,?_]
     ·rw [yAA];unfold ZXK;rw [yAA,yAe]
      have:100000<eA5:=by decide
      lia
     ·rw [zA6 (zA3 e hD)];exact g _ _ e
     ·rw [zA0,zSU hc,yAQ,StrLaws.found_one];rfl
    ·refine#[D,_,rfl,SqL.of hP.2,?_]
     rw [zW5];exact q H' hP.1
   ·rw [yAG h2,yBu] at q
    rw [yAG h2];exact zCQ (q H (Same.refl H))
  ·rw [yAG h1,yBu,yBu] at q
   rw [yAG h1];exact zAY #[_,rfl,zCQ (q H (Same.refl H))]
 | _=>exact zCQ (q H (Same.refl H))
structure Glb (K:Frag)(mg:Str->Option Value):Prop where
 lett:∃ t,mg "LETTERS"=some (.str LET t)
 mostL:∃ t,mg "MOST_LETTERS"=some (.int 6 t)
 own:∃ a,mg "OWN_WORDS"=some (.ref a)/\∀ H:Hp,SqT K H a (OWN.map V.str)
def zbK:UAC ["thing"] ["thing"] (ZA4 zY6):=by trivial
def zaD (F:Fun K "is_name" "is_name" zY6 f fd)(G:Glb K mg)(D1:Df 1 "is_made_of" ["thing","signs","most"] JA2 a1 d1):Fk 2 f fd ["thing"] JA3:=by
 refine fk F.ok zbK;obtain ⟨x,rfl,hx,q⟩:=h;obtain ⟨t1,g1⟩:=G.lett;obtain ⟨t2,g2⟩:=G.mostL;obtain ⟨a,g3,g4⟩:=G.own
 refine#[_,zA2 (zA7 (zDH (kq D1 hr #v[(pv 0),(zHG (v:=.str LET) rfl g1 #[_,rfl]),(zHG (v:=.int 6) rfl g2 #[_,rfl])])
  (zEA (zAW zCN (pv 0) (zHG (v:=.ref a) rfl g3 rfl) (by with_unfolding_all rfl))))),?_]
 refine#[_,rfl,x,LET,6,rfl,hx,λH' g=>#[_,rfl,?_]];have q':=q H' g;unfold ZC1 at q'
 by_cases c:ZQ1 x LET 6=true
 ·rw [c,yBx] at q'
  rw [c];refine zCQ #[_,rfl,a,_,rfl,.inr (g4 H'),?_,dk,q']
  cases x with
  | str z=>rfl
  | _=>cases c
 ·have c':ZQ1 x LET 6=false:=by simpa using c
  rw [c',yBu] at q';rw [c'];exact zAY q'
inductive Row (H:Hp):V->Option (List V)->Prop
 | lst {a:Addr} {xs:List V} (h:H a=some (.lst xs)):Row H (.ref a) (some xs)
 | tup {a:Addr} {xs:List V} (h:H a=some (.tup xs)):Row H (.ref a) (some xs)
 | dK {a:Addr} {kvs:List (Key×V)} (h:H a=some (.dK kvs)):Row H (.ref a) none
 | non:Row H .non none
 | bl (b:Bool):Row H (.bl b) none
 | int (i:Int):Row H (.int i) none
 | str (z:Str):Row H (.str z) none
def ZAM:V->Str
 | .str z=>z
 | _=>""
def ZFY:Option (List V)->Bool
 | none=>false
 | some xs=>decide (1<=(xs.length:Int))&&decide ((xs.length:Int)<=12)&&(xs.all ZC1&&decide ((ZBW (xs.map λv=>.inr (ZAM v))).length=xs.length))
def JA4:=∀ x r,vs=[x]->Row H x r->(∀ xs,r=some xs->∀ v∈xs,Th H v)->(∀ xs,r=some xs->xs.length<=1000)->(∀ H',Same H H'->Q (.bl (ZFY r)) H')->JA4 vs H Q E
structure Kit2 (K:Frag):Prop where
 l_non:eAC K (.type "NoneType") (.type "list")=some false
 l_bool:eAC K (.type "bool") (.type "list")=some false
 l_int:eAC K (.type "int") (.type "list")=some false
 l_str:eAC K (.type "str") (.type "list")=some false
 l_tup:eAC K (.type "tuple") (.type "list")=some false
 l_dict:eAC K (.type "dict") (.type "list")=some false
 t_non:eAC K (.type "NoneType") (.type "tuple")=some false
 t_bool:eAC K (.type "bool") (.type "tuple")=some false
 t_int:eAC K (.type "int") (.type "tuple")=some false
 t_str:eAC K (.type "str") (.type "tuple")=some false
 t_list:eAC K (.type "list") (.type "tuple")=some false
 t_dict:eAC K (.type "dict") (.type "tuple")=some false
def zHB {K:Frag}(k:Kit2 K){H:Hp}{x:V}{r:Option (List V)}(h:Row H x r):∃ t,TyOf K H x t/\eAe K t [.type "list",.type "tuple"]=some r.isSome:=by
 cases h with
 | lst h=>exact#[_,.lst h,zEJ (a:=true) rfl k.t_list]
 | tup h=>exact#[_,.tup h,zEJ (b:=true) k.l_tup rfl]
 | dK h=>exact#[_,.dK h,zEJ k.l_dict k.t_dict]
 | non=>exact#[_,.non,zEJ k.l_non k.t_non]
 | bl b=>exact#[_,.bl b,zEJ k.l_bool k.t_bool]
 | int i=>exact#[_,.int i,zEJ k.l_int k.t_int]
 | str z=>exact#[_,.str z,zEJ k.l_str k.t_str]
theorem TyOf.same {K:Frag}{H H':Hp}{x:V}{t:Value}(g:Same H H')(h:TyOf K H x t):TyOf K H' x t:=by
 cases h with
 | non=>exact .non
 | bl b=>exact .bl b
 | int i=>exact .int i
 | str z=>exact .str z
 | flt z=>exact .flt z
 | lst e=>exact .lst (g _ _ e)
 | frz e=>exact .frz (g _ _ e)
 | tup e=>exact .tup (g _ _ e)
 | dK e=>exact .dK (g _ _ e)
 | dT e=>exact .dT (g _ _ e)
 | ins e cl ha hn htk hm=>exact .ins (g _ _ e) cl ha hn htk hm
def zd7:UAC ["thing"] ["thing"] (ZA4 zdW):=by trivial
def zN5:∀ {xs:List V},xs.all ZC1=true->xs=(xs.map λv=>(.inr (ZAM v):Key)).map kV
 | [],_=>rfl
 | v::xs,h=>by
  rw [List.all_cons,yAN] at h;rw [yAq,yAq,<- zN5 h.2]
  cases v with
  | str z=>rfl
  | _=>cases h.1
def zcG {tH:Tok}(F:Fun K "are_houses" "are_houses" zdW f fd)(T:Txt mg)(mt:mg "tuple"=none)(ms:mg "set"=none)(gH:mg "MOST_HOUSES"=some (.int 12 tH))(k:Kit2 K)
  (D1:Df 2 "is_name" ["thing"] JA3 a1 d1):Fk 3 f fd ["thing"] JA4:=by
 refine fk F.ok zd7;obtain ⟨x,r,rfl,hR,hT,hL,q⟩:=h;obtain ⟨t,ty,e⟩:=zHB k hR
 refine#[_,zA1 (zAK (PW.pt (zGR (zBH (zB4 (zAD zCW rfl T.inst yAn #v[(pv 0),(zB9 #v[(zB3 (v:=.ty "list") rfl T.list yBQ rfl),(zB3 (v:=.ty "tuple") rfl mt yAx rfl)])])))
   (zE9 (zBH (zMU zP2 zP2 zA5 (kL9 (pv 0)) (zHG (v:=.int 12) rfl gH #[_,rfl])))))) (zA2 (zA7 zC0)) zA8)
  (zA2 (zA7 (zDH (zAD (zGI rfl) rfl T.all yDT (zBP (zAQ (xs:=["name"]) (fv:=[]) rfl dk trivial (zB2 (pv 0)) (λ_ _ _ _ _=>zAG (i:=0) (ndT dk) rfl (Or.inl rfl)) (λ_ _ _ _ _=>zBD)
    (λ_ _ _ _ _=>zEK D1.ok hr rfl D1.m D1.k D1.b .nil zAT #v[(pv 0)])) zB5))
   (zEA (zAW zC3 (zR9 rfl rfl T.len rfl ms #v[(pv 0)]) (kL9 (pv 0)) (zAB _)))))),?_]
 refine#[_,rfl,(by show 2<=eA5;decide),λp hp=>?_];have g1:=UAB hp (.tup [.ty "list",.ty "tuple"]);have c1:(upd H p (.tup [.ty "list",.ty "tuple"])) p=_:=zA0;generalize upd H p (.tup [.ty "list",.ty "tuple"])=H1 at g1 c1 ⊢;refine#[_,t,p,["list","tuple"],_,rfl,TyOf.same g1 ty,c1,e,_,rfl,?_]
 cases r with
 | none=>exact zCQ (q H1 g1)
 | some xs=>
  refine zAY ?_
  have hsq:∀ {H':Hp},Same H H'->∃ a,x=.ref a/\(SqL K H' a xs \/ SqT K H' a xs):=λg=>by
   cases hR with
   | lst h=>exact#[_,rfl,.inl (SqL.of (g _ _ h))]
   | tup h=>exact#[_,rfl,.inr (SqT.of (g _ _ h))]
  obtain ⟨a,rfl,sq1⟩:=hsq g1;have e0:ZFY (some xs)=(decide (1<=(xs.length:Int))&&decide ((xs.length:Int)<=12)&&(xs.all ZC1&&decide ((ZBW (xs.map λv=>.inr (ZAM v))).length=xs.length))):=rfl;rw [e0] at q;have hl:=hL xs rfl;refine#[_,rfl,a,xs,rfl,sq1,_,_,rfl,rfl,_,rfl,?_]
  by_cases h1:1<=(xs.length:Int)
  ·rw [yAJ h1,yBx] at q
   rw [yAJ h1];refine zCQ #[_,_,rfl,rfl,_,rfl,?_]
   by_cases h2:(xs.length:Int)<=12
   ·rw [yAJ h2,yBx] at q
    rw [yAJ h2];refine zAY ?_
    have body:∀ (J:It),(∀ i H',Same H1 H'->i<xs.length->J.go i H')->(∀ H',Same H1 H'->J.stop xs.length H')->(∀ i H' x H2,Same H1 H'->i<xs.length->J.yld i H' x H2->H2=H'/\xs[i]?=some x) ->
      ∀ Q':VK,(∀ D H',Same H1 H'->H' D=some (.lst ((xs.map ZC1).map V.bl))->Q' (.ref D) H') ->
      ZCY (.lst []) ["name"] [] (ZFS 0) ZHP (tbL (ZWG JA3 [] E0 (ZOR (OA0 0) ZWP))) [some (.ref a)] J H1 Q':=λJ hgo hst hy Q' hQ'=>by
     refine zC7 xs.length (λi D H'=>Same H1 H'/\H' D=some (.lst (((xs.take i).map ZC1).map V.bl))) (λD hD=>#[UAB hD _,zA0]) (λi D H' _ hi hP=>hgo i H' hP.1 hi) (λD H' _ hP=>hst H' hP.1) (λi D H' x H2 hD hi hP y=>?_) (λD H' _ hP=>?_)
     ·obtain ⟨rfl,hx⟩:=hy i H' x H2 hP.1 hi y
      refine#[rfl,?_];unfold ZHP
      (try dsimp only)
      rw [yAS rfl];refine#[_,rfl,x,rfl,(hT xs rfl x (yAk hx)).mono (g1.trans hP.1),λH3 g3=>#[_,g3 _ _ hP.2,?_,λb o q'=>?_,?_]]
      ·rw [yAA,yAA,yAe]
       have:1000<eA5:=by decide
       lia
      ·rw [zA6 (zA3 q' hD)];exact g3 _ _ (hP.1 _ _ q')
      ·rw [zA0,yBG,hx,yAQ,yAQ];rfl
     ·refine hQ' D H' hP.1 ?_
      have:=hP.2
      rw [yAs (yAF _)] at this;exact this
    have after:∀ D H',Same H1 H'->H' D=some (.lst ((xs.map ZC1).map V.bl))->NB6 K [.ref D] H' λv H2=>∃ c,v=.bl c/\if c=true then tOp rEq (ZQQ K (ZOR (OA0 0) ZWP)) (tCB (NA9 K) (ZOR (OA0 0) ZWP)) [some (.ref a)] H2 Q else Q (.bl false) H2:=λD H' g' hD=>by
     refine#[D,_,rfl,SqL.of hD,_,rfl,?_];have ea:((xs.map ZC1).all id)=xs.all ZC1:=by rw [List.all_map];rfl
     rw [ea];have q':=q H' (g1.trans g')
     by_cases hall:xs.all ZC1=true
     ·rw [hall,yBx] at q'
      rw [hall];obtain ⟨a',ea',sq'⟩:=hsq (g1.trans g')
      cases ea'
      refine zCQ #[_,rfl,a,xs.map (λv=>.inr (ZAM v)),rfl,?_,by rw [yAA];lia,_,rfl,a,xs,rfl,sq',rfl,?_]
      ·rw [<- zN5 hall];exact sq'
      ·have ed:decide (V.int ((ZBW (xs.map λv=>.inr (ZAM v))).length:Nat)=V.int (xs.length:Nat))=decide ((ZBW (xs.map λv=>.inr (ZAM v))).length=xs.length):=by
        rw [yAd,yAI,yAI]
        constructor
        ·intro z;injection z with z;exact Int.ofNat.inj z
        ·intro z;rw [z]
       rw [ed];exact q'
     ·have hall':xs.all ZC1=false:=by simpa using hall
      rw [hall',yBu] at q';rw [hall'];exact zAY q'
    refine#[_,rfl,a,rfl,?_]
    rcases sq1 with sq1|sq1
    ·refine .inl #[#[_,sq1],body (Itl K a) (λi H' g' hi=>#[xs,xs[i],g'.seq sq1,by simp [hi]]) (λH' g'=>#[xs,g'.seq sq1,yAF _]) (λi H' x H2 g' hi y=>#[y.1,y.2 xs (g'.seq sq1)]) _ after]
    ·refine .inr #[#[_,sq1],body (Itt K a) (λi H' g' hi=>#[xs,xs[i],SqT.mono g' sq1,by simp [hi]]) (λH' g'=>#[xs,SqT.mono g' sq1,yAF _]) (λi H' x H2 g' hi y=>#[y.1,y.2 xs (SqT.mono g' sq1)]) _ after]
   ·rw [yAG h2,yBu] at q
    rw [yAG h2];exact zCQ (q H1 g1)
  ·rw [yAG h1,yBu,yBu] at q
   rw [yAG h1];exact zAY #[_,rfl,zCQ (q H1 g1)]
def zLE {X:Cx}{K:Frag}{es:List Expr}{k:Nat}{t:TGs}{n:Nat}{pos:Pos}(hK:X.K=K)(hc:X.calm=true)(h:PGs X es t)
  (hn:(eAR es X.env).length=n:=by rfl) (hst:(eAR es X.env).findIdx? (·.1)=none:=by rfl):PG X (.Tuple es k pos) (gTup K n t):=by subst hK;exact zT9 hc h hn hst
def ZBB (xs:List V)(i:Nat):List (Key×V):=(xs.take i).zipIdx.foldl (λacc p=>ZGJ acc (.inr (ZAM p.1)) (.int (p.2:Nat))) []
def zD1 {xs:List V}{i:Nat}{x:V}(h:xs[i]?=some x):ZBB xs (i+1)=ZGJ (ZBB xs i) (.inr (ZAM x)) (.int (i:Nat)):=by
 unfold ZBB;have hi:i<xs.length:=(yAH.mp h).1;rw [yBG,h,Option.toList_some,List.zipIdx_append,List.foldl_append]
 simp [yAe,Nat.min_eq_left (yDU hi)]
def zYE (kvs:List (Key×V))(k:Key)(v:V):(ZGJ kvs k v).length<=kvs.length+1:=zCI kvs k v
def zJZ {xs:List V}:∀ i,i<=xs.length->(ZBB xs i).length<=i
 | 0,_=>by simp [ZBB]
 | i+1,h=>by
  have hx:xs[i]?=some xs[i]:=by simp
  rw [zD1 hx];have h1:(ZBB xs i).length<=i:=zJZ i oz;have h2:=zYE (ZBB xs i) (.inr (ZAM xs[i])) (.int (i:Nat));lia
def UAF (C:Addr)(H:Hp)(p:Addr)(xs:List V):Prop:=∃ dx t d,H p=some (.ins C dx [("row",.ref t),("places",.ref d)])/\H t=some (.tup xs)/\H d=some (.dK (ZBB xs xs.length))
def JA5 (C:Addr):=∀ p dx x xs,vs=[.ref p,x]->H p=some (.ins C dx [])->Row H x (some xs)->(∀ v∈xs,Th H v)->xs.length<=1000->ZFY (some xs)=true->(∀ H',(∀ c o,H c=some o->c≠p->H' c=some o)->UAF C H' p xs->Q .non H')->JA5 C vs H Q E
def zc9:UAC ["self","names"] ["self","names"] (ZA4 zZY):=by trivial
def zNC {xs:List V}(h:ZFY (some xs)=true){v:V}(hv:v∈xs):v=kV (.inr (ZAM v)):=by
 have e0:ZFY (some xs)=(decide (1<=(xs.length:Int))&&decide ((xs.length:Int)<=12)&&(xs.all ZC1&&decide ((ZBW (xs.map λv=>.inr (ZAM v))).length=xs.length))):=rfl;rw [e0,yAN] at h;have h2:=h.2;rw [yAN] at h2
 have:=yBA.mp h2.1 v hv
 cases v with
 | str z=>rfl
 | _=>cases this
def zZ8 (F:Fun K "__init__" "Houses.__init__" zZY f fd)(mt:mg "tuple"=none)(me:mg "enumerate"=none)(cl:Cls K C)(n1:UAE K C "row")(n2:UAE K C "places")
  (D1:Df 3 "are_houses" ["thing"] JA4 a1 d1):Fk 4 f fd ["self","names"] (JA5 C):=by
 refine fk F.ok zc9;obtain ⟨p,dx,x,xs,rfl,hp,hR,hT,hL,hok,q⟩:=h
 refine#[_,zA1 (zAK (zBH (zB4 (kq D1 hr #v[(pv 1)]))) zC4 zA8)
  (zA1 (zN2 (pv 0) (zB6 zBA rfl mt yAx #v[(pv 1)]) rfl)
  (zA2 (zN2 (pv 0) (zV7 (xs:=["at","name"]) (fv:=[]) rfl dk trivial (zF7 rfl me #v[(pv 1)])
   (λ_ _ _ _ _=>zLE (K:=K) (n:=2) rfl rfl (zBJ (zAG (i:=0) (ndT dk) rfl (Or.inl rfl)) (zBJ (zAG (i:=1) (ndT dk) rfl (Or.inl rfl)) zFP))) (λ_ _ _ _ _=>zBD) (λ_ _ _ _ _=>pv 1) (λ_ _ _ _ _=>pv 0)) rfl))),?_]
 have hsq:∀ {H':Hp},(∀ c o,H c=some o->c≠p->H' c=some o)->∃ a,x=.ref a/\(H' a=some (.lst xs) \/ H' a=some (.tup xs)):=λg=>by
  cases hR with
  | lst h=>exact#[_,rfl,.inl (g _ _ h (λz=>by rw [z,hp] at h;cases h))]
  | tup h=>exact#[_,rfl,.inr (g _ _ h (λz=>by rw [z,hp] at h;cases h))]
 obtain ⟨a,rfl,_⟩:=hsq (H':=H) λ_ _ e _=>e;refine#[_,rfl,_,some xs,rfl,hR,λys e=>by cases e;exact hT,λys e=>by cases e;exact hL,λH1 g1=>#[_,rfl,?_]];rw [hok];refine zAY ?_;have hp1:=g1 _ _ hp;obtain ⟨_,ea,sq1⟩:=hsq (H':=H1) λc o e _=>g1 c o e
 cases ea
 have pne:∀ {Hx:Hp} {c:Addr} {o:HO},Hx p=some o->Hx c=none->p≠c:=λh1 h2=>zA3 h1 h2
 have rest:∀ (t:Addr) (H2:Hp),t≠p->H2 p=some (.ins C dx [("row",.ref t)])->H2 t=some (.tup xs)->(∀ c o,H c=some o->c≠p->H2 c=some o)->∀ (D:Ends),(∀ σ H',D.nx σ H'=Q .non H') ->
   ZeI K (OA0 0) (ZNV (.dK []) (ZX5 K (ZOR (OA0 1) ZWP)) ["at","name"] [] (gTup K 2 (UAp (ZFS 0) (UAp (ZFS 1) ZdX))) ZHP (tbD (OA0 1) (OA0 0))) "places" D [some (.ref p),some (.ref a)] H2:=λt H2 tp hp2 ht2 g2 D hD=>by
  obtain ⟨_,ea,sq2⟩:=hsq g2
  cases ea
  have body:∀ (J:It),(∀ i H',Same H2 H'->i<xs.length->J.go i H')->(∀ H',Same H2 H'->J.stop xs.length H')->(∀ i H' x H3,Same H2 H'->i<xs.length->J.yld i H' x H3->∃ r y,H' r=none/\x=.ref r/\xs[i]?=some y/\H3=upd H' r (.tup [.int (i:Nat),y])) ->
    ZCY (.dK []) ["at","name"] [] (gTup K 2 (UAp (ZFS 0) (UAp (ZFS 1) ZdX))) ZHP (tbD (OA0 1) (OA0 0)) [some (.ref p),some (.ref a)] J H2 λy H3=>(OA0 0) [some (.ref p),some (.ref a)] H3 λx H4=>∃ b C dx fs,x=.ref b/\H4 b=some (.ins C dx fs)/\Cls K C/\UAE K C "places"/\fs.length<1000 /\
     D.nx [some (.ref p),some (.ref a)] (upd H4 b (.ins C dx (putF "places" y fs))):=λJ hgo hst hy=>by
   refine zC7 xs.length (λi D H'=>Same H2 H'/\H' D=some (.dK (ZBB xs i))) (λD hD=>#[UAB hD _,by rw [zA0];rfl]) (λi D H' _ hi hP=>hgo i H' hP.1 hi) (λD H' _ hP=>hst H' hP.1) (λi D H' x H3 hD hi hP y=>?_) (λD' H' hD' hP=>?_)
   ·obtain ⟨r,v,hr',rfl,hv,rfl⟩:=hy i H' x H3 hP.1 hi y
    refine#[r,_,rfl,SqT.of zA0,rfl,_,_,rfl,_,_,rfl,rfl,rfl,?_];unfold ZHP
    (try dsimp only)
    rw [yAS rfl];have hD3:(upd H' r (.tup [.int (i:Nat),v])) D=some (.dK (ZBB xs i)):=UAB hr' _ _ _ hP.2;have ple:=zJZ (xs:=xs) i oz;refine#[_,rfl,_,rfl,ZBB xs i,.inr (ZAM v),hD3,zNC hok (yAk hv),?_,λc o e=>?_,?_]
    ·have:1000<eA5:=by decide
     lia
    ·rw [zA6 (zA3 e hD)];exact UAB hr' _ _ _ (hP.1 _ _ e)
    ·rw [zA0,zD1 hv]
   ·have hp3:=hP.1 _ _ hp2
    refine#[_,rfl,p,C,dx,_,rfl,hp3,cl,n2,(by show 1<1000;decide),?_];rw [hD];have nD:D'≠p:=λz=>by rw [z,hp2] at hD';cases hD'
    refine q _ (λc o e n=>by rw [zA6 n];exact hP.1 _ _ (g2 c o e n)) #[dx,t,D',by rw [zA0];rfl,by rw [zA6 tp];exact hP.1 _ _ ht2,by rw [zA6 nD];exact hP.2]
  refine#[_,rfl,a,rfl,?_]
  rcases sq2 with sq2|sq2
  ·have sq2:SqL K H2 a xs:=SqL.of sq2
   exact .inl #[#[_,sq2],body (Ite K a) (λi H' g' hi=>#[xs,xs[i],g'.seq sq2,by simp [hi]]) (λH' g'=>#[xs,g'.seq sq2,rfl]) λi H' x H3 g' hi y=>let ⟨r,v,h1,h2,h3,h4⟩:=y;#[r,v,h1,h2,h3 xs (g'.seq sq2),h4]]
  ·have sq2:SqT K H2 a xs:=SqT.of sq2
   exact .inr #[#[_,sq2],body (ZZM K a) (λi H' g' hi=>#[xs,xs[i],SqT.mono g' sq2,by simp [hi]]) (λH' g'=>#[xs,SqT.mono g' sq2,rfl]) λi H' x H3 g' hi y=>let ⟨r,v,h1,h2,h3,h4⟩:=y;#[r,v,h1,h2,h3 xs (SqT.mono g' sq2),h4]]
 refine#[_,rfl,a,xs,rfl,?_]
 rcases sq1 with sq1|sq1
 ·refine .inl #[SqL.of sq1,λt ht=>#[_,rfl,p,C,dx,_,rfl,UAB ht _ _ _ hp1,cl,n1,(by show 0<1000;decide),?_]]
  have tp:t≠p:=λz=>by rw [z,hp1] at ht;cases ht
  exact rest t _ tp zA0 (by rw [zA6 tp];exact zA0) (λc o e n=>by rw [zA6 n];exact UAB ht _ _ _ (g1 _ _ e)) _ λ_ _=>rfl
 ·have ht:=sq1
  have tp:a≠p:=λz=>by rw [z,hp1] at ht;cases ht
  refine .inr #[SqT.of sq1,_,rfl,p,C,dx,_,rfl,hp1,cl,n1,(by show 0<1000;decide),?_];exact rest a _ tp zA0 (by rw [zA6 tp];exact ht) (λc o e n=>by rw [zA6 n];exact g1 _ _ e) _ λ_ _=>rfl
def zFF {xs:List V}(hk:∀ v∈xs,v=kV (.inr (ZAM v)))(nd:xs.Nodup):∀ n,n<=xs.length->∀ i,i<n->∀ (h:i<xs.length),ZFE (ZBB xs n) (.inr (ZAM xs[i]))=some (.int (i:Nat))
 | 0,_,i,hi,_=>by lia
 | n+1,hn,i,hi,h=>by
  have hx:xs[n]?=some xs[n]:=by simp
  rw [zD1 hx,zNH]
  by_cases e:i=n
  ·subst e;rw [yAS rfl]
  ·rw [yAT,zFF hk nd n oz i oz h]
   intro z;have e1:=hk xs[i] (yAi _);have e2:=hk xs[n] (yAi _)
   have:xs[i]=xs[n]:=by rw [e1,e2,z]
   exact e ((yCf nd).mp this)
def JA6 (C:Addr):=∀ p xs,vs=[.ref p]->UAF C H p xs->(∀ l,H l=none->Q (.ref l) (upd H l (.lst xs)))->JA6 C vs H Q E
def JA7 (C:Addr):=∀ p xs,vs=[.ref p]->UAF C H p xs->Q (.int xs.length) H->JA7 C vs H Q E
def JA8 (C:Addr):=∀ p xs i z,vs=[.ref p,.str z]->UAF C H p xs->(∀ v∈xs,v=kV (.inr (ZAM v)))->xs.Nodup->xs[i]?=some (.str z)->(Q (.int (i:Nat)) H)->JA8 C vs H Q E
def zZX:UAC ["self"] ["self"] (ZA4 zQA):=by trivial
def zb9:UAC ["self"] ["self"] (ZA4 za6):=by trivial
def zMY:UAC ["self","name"] ["self","name"] (ZA4 zIW):=by trivial
def zVS (F:Fun K "names" "Houses.names" zQA f fd)(ml:mg "list"=none)(cl:Cls K C)(n1:UAE K C "row"):Fk 1 f fd ["self"] (JA6 C):=by
 refine fk F.ok zZX;obtain ⟨p,xs,rfl,⟨dx,t,d,hp,ht,hd⟩,q⟩:=h;refine#[_,zA2 (zA7 (zB6 zDM rfl ml yBQ #v[(zAO (pv 0) rfl)])),?_];exact#[_,rfl,p,C,dx,_,_,rfl,hp,cl,n1,rfl,t,xs,rfl,.inr (SqT.of ht),q]
def zYU (F:Fun K "size" "Houses.size" za6 f fd)(ml:mg "len"=none)(cl:Cls K C)(n1:UAE K C "row"):Fk 1 f fd ["self"] (JA7 C):=by
 refine fk F.ok zb9;obtain ⟨p,xs,rfl,⟨dx,t,d,hp,ht,hd⟩,q⟩:=h;refine#[_,zA2 (zA7 (zAD zCP rfl ml yCv #v[(zAO (pv 0) rfl)])),?_];exact#[_,rfl,p,C,dx,_,_,rfl,hp,cl,n1,rfl,t,xs,rfl,.inr (SqT.of ht),q]
def zS9 (F:Fun K "number" "Houses.number" zIW f fd)(T:Txt mg)(cl:Cls K C)(n2:UAE K C "places"):Fk 1 f fd ["self","name"] (JA8 C):=by
 refine fk F.ok zMY;obtain ⟨p,xs,i,z,rfl,⟨dx,t,d,hp,ht,hd⟩,hk,nd,hi,q⟩:=h;have hu:=zXX hr
 refine#[_,zA1 (zAK (PW.pt (zGR (zBH (zB4 (zAD zBM rfl T.inst yAn #v[(pv 1),(zB3 (v:=.ty "str") rfl T.str yDS rfl)])))
   (zE9 (zRI (zKD hu (pv 1) (zAO (pv 0) rfl)) (by with_unfolding_all rfl))))) zC4 zA8)
  (zA2 (zA7 (zST hu (zAO (pv 0) rfl) (pv 1) (λ_ _=>rfl)))),?_]
 refine#[_,rfl,_,_,_,true,rfl,.str z,rfl,true,rfl,?_];refine zAY ?_;obtain ⟨hlt,hx⟩:=yAH.mp hi;have hv:=zFF hk nd xs.length (yAF _) i hlt hlt;rw [hx] at hv;have hv:ZFE (ZBB xs xs.length) (.inr z)=some (.int (i:Nat)):=hv;have hg:DGet H d (.str z) (some (.int (i:Nat))):=by rw [<- hv];exact DGet.k (k:=.inr z) hd
 refine#[_,rfl,_,rfl,p,C,dx,_,_,rfl,hp,cl,n2,rfl,d,_,rfl,hg,_,rfl,?_];refine zAY ?_;exact#[_,rfl,p,C,dx,_,_,rfl,hp,cl,n2,rfl,_,rfl,d,_,rfl,hg,q]
def ZIG (m k:Nat):Prop:=m / 2^k % 2=0
def zRE {m k:Nat}(h:ZIG m k){j:Nat}(hj:j≠k)(hm:ZIG m j):ZIG (m+2^k) j:=by
 unfold ZIG at *
 rcases yBn j k with z|z
 ·obtain ⟨d,rfl⟩:∃ d,k=j+(d+1):=#[k-j-1,oz]
  rw [Nat.pow_add,Nat.add_mul_div_left _ _ (eAw j),yDn];lia
 ·obtain ⟨d,rfl⟩:∃ d,j=k+1+d:=#[j-k-1,oz]
  rw [Nat.pow_add,<- yEN] at hm ⊢
  have e:(m+2^k) / 2^(k+1)=m / 2^(k+1):=by
   rw [yDn,<- yEN,<- yEN,Nat.add_div_right _ (eAw k)];lia
  rw [e];exact hm
def maskN (ix:List Nat):Nat:=ix.foldl (λacc k=>acc+2^k) 0
def zE6 (ix:List Nat)(k:Nat):maskN (ix++[k])=maskN ix+2^k:=by unfold maskN;rw [List.foldl_append];rfl
def zEM:∀ (n:Nat) (ix:List Nat),ix.length=n->ix.Nodup->∀ k,k∉ix->ZIG (maskN ix) k:=by
 intro n
 induction n with
 | zero=>
  intro ix h _ k _;rw [yDI.mp h];show 0 / 2^k % 2=0
  simp
 | succ n ih=>
  intro ix h nd k hk;have hne:ix≠[]:=λe=>by rw [e] at h;cases h
  obtain ⟨ds,c,rfl⟩:∃ ds c,ix=ds++[c]:=#[_,_,(yCj hne).symm];have hl:ds.length=n:=by simpa using h
  rw [yCG] at nd;have hc:c∉ds:=λz=>nd.2.2 c z c (by simp) rfl;rw [yAb,not_or,yAE] at hk;rw [zE6];exact zRE (ih ds hl nd.1 c hc) hk.2 (ih ds hl nd.1 k hk.1)
def zK6 {m k:Nat}(h:ZIG m k):eA3 (m:Int) ((2^k:Nat):Int)=0:=by
 have e:m &&& 2^k=0:=by
  refine yBR λi=>?_;rw [yBz,yBr,yCJ]
  by_cases e:k=i
  ·subst e
   unfold ZIG at h;rw [yBe,h]
   simp
  ·simp [e]
 show ((m &&& 2^k:Nat):Int)=0;rw [e];rfl
def JA9 (C:Addr):=∀ p xs x ys ix,vs=[.ref p,x]->UAF C H p xs->(∀ v∈xs,v=kV (.inr (ZAM v)))->xs.Nodup->xs.length<=12->Row H x (some ys)->ix.Nodup->ys.length=ix.length->(∀ (j:Nat) (k:Nat),ix[j]?=some k->∃ v,xs[k]?=some v/\ys[j]?=some v)->(∀ H',Same H H'->Q (.int (maskN ix:Nat)) H')->JA9 C vs H Q E
theorem UAF.same {C p:Addr}{H H':Hp}{xs:List V}(g:Same H H')(h:UAF C H p xs):UAF C H' p xs:=let ⟨dx,t,d,h1,h2,h3⟩:=h;#[dx,t,d,g _ _ h1,g _ _ h2,g _ _ h3]
theorem UAU:UAC ["self","names","total","name","bit"] ["self","names"] (ZA4 zTO):=by trivial
def zZT (F:Fun K "mask" "Houses.mask" zTO f fd)(T:Txt mg)(mt:mg "tuple"=none)(k:Kit2 K)(cl:Cls K C)(M1:Meth K C "number" a1)(O1:Fk 1 a1 d1 ["self","name"] (JA8 C))(b1:UAD K d1 ["self","name"] []) :
  Fk 2 f fd ["self","names"] (JA9 C):=by
 refine fk F.ok UAU;obtain ⟨p,xs,x,ys,ix,rfl,hH,hk,nd,h12,hR,ndi,hl,hix,q⟩:=h;obtain ⟨t,ty,e⟩:=zHB k hR
 refine#[_,zA1 (zAK (zBH (zB4 (zAD zCW rfl T.inst yAn #v[(pv 1),(zB9 #v[(zB3 (v:=.ty "list") rfl T.list yBQ rfl),(zB3 (v:=.ty "tuple") rfl mt yAx rfl)])]))) zC4 zA8)
  (zA1 (kS9 2 UAU zA5)
  (zA1 (zBK eAx rfl (zB2 (pv 1)) (kG9 3 UAU)
   (zA1 (kS9 4 UAU (zAC zDF zA5 (zAS (pv 0) cl M1 O1 hr b1 .nil zAT #v[(pv 3)])))
   (zA1 (zAK (zGG (zAC zBU (pv 2) (pv 4)) (λ_=>rfl)) zC4 zA8)
   (zA2 (zT4 (i:=2) UAU.nd rfl (Or.inl rfl) (pv 4) zSR)))))
  (zA2 (zA7 (pv 2))))),?_]
 refine#[_,rfl,(by show 2<=eA5;decide),λu hu=>?_];have g1:=UAB hu (.tup [.ty "list",.ty "tuple"]);have c1:(upd H u (.tup [.ty "list",.ty "tuple"])) u=_:=zA0;generalize upd H u (.tup [.ty "list",.ty "tuple"])=H1 at g1 c1 ⊢;refine#[_,t,u,["list","tuple"],_,rfl,TyOf.same g1 ty,c1,e,_,rfl,?_];refine zAY ?_
 obtain ⟨a,rfl,sq⟩:∃ a,x=.ref a/\(H1 a=some (.lst ys) \/ H1 a=some (.tup ys)):=by
  cases hR with
  | lst h=>exact#[_,rfl,.inl (g1 _ _ h)]
  | tup h=>exact#[_,rfl,.inr (g1 _ _ h)]
 have hH1:=hH.same g1;refine#[_,rfl,a,rfl,?_]
 rcases sq with sq|sq
 ·refine .inl #[#[_,SqL.of sq],zHT ys.length (λi σ H'=>∃ nm bt,σ=[some (.ref p),some (.ref a),some (.int (maskN (ix.take i):Nat)),nm,bt]/\Same H1 H') #[_,_,rfl,Same.refl _] (λi σ H' hi hP=>#[ys,ys[i],SqL.of (hP.choose_spec.choose_spec.2 _ _ sq),by simp [hi]]) (λσ H' hP=>#[ys,SqL.of (hP.choose_spec.choose_spec.2 _ _ sq),yAF _]) (λi σ H' x H3 hi hP y=>?_) (λσ H' hP=>?_)]
  ·obtain ⟨rfl,hx⟩:=y
   have hx:=hx ys (SqL.of (hP.choose_spec.choose_spec.2 _ _ sq));obtain ⟨nm,bt,rfl,g⟩:=hP;obtain ⟨kx,hkx⟩:∃ kx,ix[i]?=some kx:=#[ix[i]'oz,by simp];obtain ⟨v,hv,hy2⟩:=hix i kx hkx;rw [hx] at hy2
   cases hy2
   obtain ⟨z,hz⟩:∃ z,x=.str z:=#[_,hk x (yAk hv)];subst hz;have hkl:kx<xs.length:=(yAH.mp hv).1;obtain ⟨dx,t,d,hp',_⟩:=hH1.same g;refine#[_,rfl,p,dx,_,rfl,hp',rfl,_,rfl,p,xs,kx,z,rfl,hH1.same g,hk,nd,hv,_,_,rfl,rfl,#[ oz,oz,dQ],?_];have eb:(1:Int)*2^((kx:Nat):Int).toNat=((2^kx:Nat):Int):=by rw [yAW,yCe,yBi];rfl
   have hun:=zEM _ (ix.take i) rfl (ndi.sublist (yEA i ix)) kx (λhm=>by
    obtain ⟨j,hj,ej⟩:=yBg hm;rw [yAe] at hj;rw [yEB] at ej
    have e2:ix[i]'oz=kx:=by
     have:=yAH.mp hkx
     exact this.2
    have:=(yCf ndi).mp (ej.trans e2.symm)
    lia)
   refine#[_,rfl,_,rfl,_,_,rfl,rfl,_,rfl,?_];rw [eb,zK6 hun];refine zAY ?_;refine#[_,rfl,_,rfl,_,_,rfl,rfl,some (.str z),some (.int ((2^kx:Nat):Int)),?_,g];have et:ix.take (i+1)=ix.take i++[kx]:=by rw [yBG,hkx];rfl
   have ev:((maskN (ix.take (i+1)):Nat):Int)=(maskN (ix.take i):Nat)+((2^kx:Nat):Int):=by rw [et,zE6];lia
   rw [ev];rfl
  ·have hP:=hP
   obtain ⟨nm,bt,rfl,g⟩:=hP;rw [hl,yAs (yAF _)];exact#[_,rfl,q H' (g1.trans g)]
 ·refine .inr #[#[_,SqT.of sq],zHT ys.length (λi σ H'=>∃ nm bt,σ=[some (.ref p),some (.ref a),some (.int (maskN (ix.take i):Nat)),nm,bt]/\Same H1 H') #[_,_,rfl,Same.refl _] (λi σ H' hi hP=>#[ys,ys[i],SqT.of (hP.choose_spec.choose_spec.2 _ _ sq),by simp [hi]]) (λσ H' hP=>#[ys,SqT.of (hP.choose_spec.choose_spec.2 _ _ sq),yAF _]) (λi σ H' x H3 hi hP y=>?_) (λσ H' hP=>?_)]
  ·obtain ⟨rfl,hx⟩:=y
   have hx:=hx ys (SqT.of (hP.choose_spec.choose_spec.2 _ _ sq));obtain ⟨nm,bt,rfl,g⟩:=hP;obtain ⟨kx,hkx⟩:∃ kx,ix[i]?=some kx:=#[ix[i]'oz,by simp];obtain ⟨v,hv,hy2⟩:=hix i kx hkx;rw [hx] at hy2
   cases hy2
   obtain ⟨z,hz⟩:∃ z,x=.str z:=#[_,hk x (yAk hv)];subst hz;have hkl:kx<xs.length:=(yAH.mp hv).1;obtain ⟨dx,t,d,hp',_⟩:=hH1.same g;refine#[_,rfl,p,dx,_,rfl,hp',rfl,_,rfl,p,xs,kx,z,rfl,hH1.same g,hk,nd,hv,_,_,rfl,rfl,#[ oz,oz,dQ],?_];have eb:(1:Int)*2^((kx:Nat):Int).toNat=((2^kx:Nat):Int):=by rw [yAW,yCe,yBi];rfl
   have hun:=zEM _ (ix.take i) rfl (ndi.sublist (yEA i ix)) kx (λhm=>by
    obtain ⟨j,hj,ej⟩:=yBg hm;rw [yAe] at hj;rw [yEB] at ej
    have e2:ix[i]'oz=kx:=by
     have:=yAH.mp hkx
     exact this.2
    have:=(yCf ndi).mp (ej.trans e2.symm)
    lia)
   refine#[_,rfl,_,rfl,_,_,rfl,rfl,_,rfl,?_];rw [eb,zK6 hun];refine zAY ?_;refine#[_,rfl,_,rfl,_,_,rfl,rfl,some (.str z),some (.int ((2^kx:Nat):Int)),?_,g];have et:ix.take (i+1)=ix.take i++[kx]:=by rw [yBG,hkx];rfl
   have ev:((maskN (ix.take (i+1)):Nat):Int)=(maskN (ix.take i):Nat)+((2^kx:Nat):Int):=by rw [et,zE6];lia
   rw [ev];rfl
  ·have hP:=hP
   obtain ⟨nm,bt,rfl,g⟩:=hP;rw [hl,yAs (yAF _)];exact#[_,rfl,q H' (g1.trans g)]
def bit (m:Int)(k:Nat):Bool:=decide (m / 2^k % 2=1)
def ZBZ (m:Int)(i:Nat):List Int:=((eAJ i).filter (bit m)).map λ(k:Nat)=>(k:Int)
def ZDJ (m:Int):List Int:=ZBZ m 12
def zBR (m:Int)(i:Nat):ZBZ m (i+1)=ZBZ m i++(if bit m i=true then [(i:Int)] else []):=by
 unfold ZBZ;rw [yDf,yCi,yAQ]
 cases h:bit m i<;>simp [h]
def zC9 (m:Int)(i:Nat):(ZBZ m i).length<=i:=by
 unfold ZBZ;rw [yAA];exact yAp (yCN _ _) (by simp)
def zK3 {m:Int}{i k:Nat}(h0:0<=m)(h:m / 2^i<=0)(hk:i<=k):m / 2^k=0:=by
 have p1:(0:Int)<2^i:=Int.pow_pos dQ
 have e:m / 2^i=0:=by
  have:=Int.ediv_nonneg h0 (Int.le_of_lt p1)
  lia
 have hlt:m<2^i:=by
  have:=Int.lt_ediv_add_one_mul_self m p1
  rw [e] at this;lia
 have hle:(2:Int)^i<=2^k:=by
  have:=yAu (n:=2) dQ hk
  exact_mod_cast this
 exact yDN h0 oz
def zHJ {m:Int}{i:Nat}(h0:0<=m)(h:m / 2^i<=0):∀ d:Nat,ZBZ m (i+d)=ZBZ m i
 | 0=>rfl
 | d+1=>by
  have e:bit m (i+d)=false:=by
   unfold bit;rw [zK3 h0 h (yEL i d)];rfl
  rw [<- Nat.add_assoc,zBR,e,zHJ h0 h d]
  simp
def zDW {m:Int}{i:Nat}(h0:0<=m)(h:m / 2^i<=0)(hi:i<=12):ZBZ m i=ZDJ m:=by
 have:=zHJ h0 h (12-i)
 rw [show i+(12-i)=12 by lia] at this;exact this.symm
def zTI {m:Int}(h0:0<=m)(h:m<4096):m / 2^12<=0:=by
 have:m / 2^12=0:=yDN h0 (by simpa using h)
 lia
def kOf (v:V):Int×List Int:=match v with
 | .int m=>((ZDJ m).length,ZDJ m)
 | _=>(0,[])
def OkM (m:Int):Prop:=0<=m/\m<4096
def JB0:=∀ m,vs=[.int m]->OkM m->(∀ r H',Same H H'->H r=none->H' r=some (.lst ((ZDJ m).map V.int))->Q (.ref r) H')->JB0 vs H Q E
def JB1 (K:Frag):=∀ m,vs=[.int m]->OkM m->(∀ r H',Same H H'->DV K H' (.ref r) (Zd0 (kOf (.int m)))->Q (.ref r) H')->JB1 K vs H Q E
def JB2 (K:Frag):=∀ a ms,vs=[.ref a]->(SqL K H a (List.map V.int ms) \/ SqT K H a (List.map V.int ms))->ms.length<=5000->(∀ m∈ms,OkM m)->(∀ D H' ys,H D=none->Same H H'->H' D=some (.lst (List.map V.int ys))->ys.Perm ms->ys.Pairwise (λa b=>ZBQ (kOf (.int b)) (kOf (.int a))=false)->Q (.ref D) H')->JB2 K vs H Q E
theorem UAw:UAC ["mask","numbers","number"] ["mask"] (ZA4 ze9):=by trivial
def zcB (F:Fun K "numbers_of" "numbers_of" ze9 f fd):Fk 1 f fd ["mask"] JB0:=by
 refine fk F.ok UAw;obtain ⟨m,rfl,⟨h0,h1⟩,q⟩:=h
 refine#[_,zA1 (kS9 1 UAw (zB1 zB5)) (zA1 (kS9 2 UAw zA5)
  (zA1 (zN6 eAx (zA9 zJO (zAC zNS (pv 0) (pv 2)) zA5 (zAB _))
   (zA1 (zAK (zGG (zAC zBU (zAC zNS (pv 0) (pv 2)) zA5) (λ_=>rfl))
     (zA2 (zBC (zH4 yBU yBY yBX zBN (pv 1) #v[(pv 2)]))) zA8)
    (zA2 (zT4 (i:=2) UAw.nd rfl (Or.inl rfl) zA5 zSR))))
  (zA2 (zA7 (pv 1))))),?_]
 refine#[(by show 0<=eA5;decide),λp hp=>?_];refine#[λk σ H'=>∃ i:Nat,σ=[some (.int m),some (.ref p),some (.int i)]/\i<=12/\k=13-i/\Same H H'/\H' p=some (.lst ((ZBZ m i).map V.int)),#[13,0,rfl,oz,rfl,UAB hp _,zA0],?_]
 rintro k σ H' ⟨i,rfl,hi,rfl,g,hl⟩
 refine#[_,rfl,_,rfl,_,_,rfl,rfl,(by show (0:Int)<=(i:Int);lia),_,_,rfl,rfl,_,rfl,?_];have ei:((i:Int)).toNat=i:=yAW i;rw [ei];refine zD2 (λc=>?_) (λc=>?_)
 ·have c':0<m / 2^i:=yAZ c
  have hi':i<12:=by
   rcases yBn i 12 with z|z
   ·exact z
   ·have e:i=12:=by lia
    subst e
    have:=zTI h0 h1
    lia
  refine#[λσ' H2=>σ'=[some (.int m),some (.ref p),some (.int ((i+1:Nat):Int))]/\Same H H2/\H2 p=some (.lst ((ZBZ m (i+1)).map V.int)),λσ' H2 ⟨e,g2,hl2⟩=>#[13-(i+1),oz,i+1,e,oz,rfl,g2,hl2],?_];refine#[_,rfl,_,rfl,_,_,rfl,rfl,(by show (0:Int)<=(i:Int);lia),_,_,rfl,rfl,_,rfl,?_];rw [ei,PyProof.Rows.bitAnd_m1];have hn:=zBR m i;have hz:=zC9 m i;refine zD2 (λb=>?_) (λb=>?_)
  ·have hb:bit m i=true:=by
    unfold bit
    have:m / 2^i % 2≠0:=by simpa using b
    exact yAJ oz
   rw [yAS hb] at hn;refine#[_,rfl,.inl #[rfl,_,SqL.of hl],_,rfl,p,_,_,rfl,rfl,hl,(by rw [yAA];exact zKJ oz),?_];refine#[_,rfl,_,_,rfl,rfl,rfl,λc o e=>?_,?_]
   ·rw [zA6 (zA3 e hp)];exact g _ _ e
   ·rw [zA0,hn,yAQ];rfl
  ·have hb:¬bit m i=true:=by
    unfold bit
    have:m / 2^i % 2=0:=by simpa using b
    intro z
    have:=yAZ z
    lia
   rw [yAT hb,yBh] at hn;refine#[_,rfl,_,_,rfl,rfl,rfl,g,?_];rw [hn];exact hl
 ·have c':¬0<m / 2^i:=λz=>c (yAJ z)
  refine#[_,rfl,?_];rw [zDW h0 oz hi] at hl;exact q p H' g hp hl
def zb0:UAC ["mask","numbers"] ["mask"] (ZA4 ze7):=by trivial
def zbW (F:Fun K "key_of" "key_of" ze7 f fd)(G:Fk 1 g gd ["mask"] JB0)(bG:UAD K gd ["mask"] [])(kG:keepIn K (.ref g)=true)(mG:mg "numbers_of"=some (.ref g))(ml:mg "len"=none)(mt:mg "tuple"=none) :
  Fk 2 f fd ["mask"] (JB1 K):=by
 refine fk F.ok zb0;obtain ⟨m,rfl,hm,q⟩:=h
 refine#[_,zA1 (kS9 1 zb0 (zEK G hr rfl mG kG bG .nil zAT #v[(pv 0)]))
  (zA2 (zA7 (zB9 #v[(zAD zCP rfl ml yCv #v[(pv 1)]),(zB6 zBA rfl mt yAx #v[(pv 1)])]))),?_]
 refine#[_,rfl,m,rfl,hm,λr H' g hr' hl=>?_];refine#[_,rfl,r,_,rfl,.inl (SqL.of hl),_,rfl,r,_,rfl,.inl #[SqL.of hl,λt ht=>#[(by show 2<=eA5;decide),λu hu=>?_]]]
 have ne:t≠u:=by
  intro e;subst e;rw [zA0] at hu
  cases hu
 refine q u _ (g.trans ((UAB ht _).trans (UAB hu _))) ?_;rw [yAA];refine .tup (SqT.of zA0) (.cons (.int _) (.cons (.tup (SqT.of (xs:=(ZDJ m).map V.int) (by rw [zA6 ne,zA0])) (DVs.ints _)) .nil))
def zdC:UAC ["masks"] ["masks"] (ZA4 zdG):=by trivial
def zDU {ys:List V}{ms:List Int}(h:ys.Perm (ms.map V.int)):∃ zs:List Int,ys=zs.map V.int/\zs.Perm ms:=by
 have hall:∀ y∈ys,∃ m,y=V.int m:=λy hy=>by
  obtain ⟨m,_,e⟩:=yAr.mp (h.mem_iff.mp hy);exact#[m,e.symm]
 let un:V->Int:=λv=>match v with|.int m=>m|_=>0
 have e1:(ms.map V.int).map un=ms:=by rw [yCA];exact List.map_id _
 refine#[ys.map un,?_,?_]
 ·rw [yCA]
  clear h
  induction ys with
  | nil=>rfl
  | cons y r ih=>
   obtain ⟨m,rfl⟩:=hall y (yAU ..);rw [yAq,<- ih λz hz=>hall z (yAL _ hz)];rfl
 ·have:=h.map un
  rw [e1] at this;exact this
def zcF (F:Fun K "in_order" "in_order" zdG f fd)(G:Fk 2 g gd ["mask"] (JB1 K))(bG:UAD K gd ["mask"] [])(mG:mg "key_of"=some (.ref g))(ms:mg "sorted"=none) :
  Fk 5 f fd ["masks"] (JB2 K):=by
 refine fk F.ok zdC;obtain ⟨a,ns,rfl,hS,h64,hm,q⟩:=h;refine#[_,zA2 (zA7 (zUN (kf:=kOf) G hr bG rfl ms rfl mG (pv 0))),?_];refine#[_,rfl,a,ns.map V.int,rfl,hS,by rw [yAA];lia,λy hy H2 g=>?_,λD H2 ys hD g hl hp hs=>?_]
 ·obtain ⟨m,hmm,rfl⟩:=yAr.mp hy
  exact#[m,rfl,hm m hmm,λr H' g' hd=>#[g',hd]]
 ·obtain ⟨zs,rfl,hz⟩:=zDU hp
  rw [yBl] at hs;exact q D H2 zs hD g hl hz hs
def zPM {X:Cx}{K:Frag}{e:Expr}{f:Str}{pos:Pos}{ta:TE}(hK:X.K=K)(he:PE X e ta)(hb:eAX e f X.env (eval e X.env)=eval e X.env):PE X (.Attribute e f pos) (ZeS K ta f):=by subst hK;exact zAO he hb
def zYY {X:Cx}{K:Frag}(hK:X.K=K):IxR X (KB6 K):=by subst hK;exact zF1
def JB3 (C:Addr):=∀ p xs,vs=[.ref p]->UAF C H p xs->xs.length<=12->Q (.int (2^xs.length-1)) H->JB3 C vs H Q E
def zZ1:UAC ["houses"] ["houses"] (ZA4 zSZ):=by trivial
def zUV (F:Fun K "all_of" "all_of" zSZ f fd)(cl:Cls K C)(M1:Meth K C "size" a1)(O1:Fk 1 a1 d1 ["self"] (JA7 C))(b1:UAD K d1 ["self"] []) :
  Fk 2 f fd ["houses"] (JB3 C):=by
 refine fk F.ok zZ1;obtain ⟨p,xs,rfl,hH,h12,q⟩:=h;obtain ⟨dx,t,d,hp,ht,hd⟩:=id hH;refine#[_,zA2 (zA7 (zAC zKB (zAC zDF zA5 (zBE (pv 0) cl M1 O1 hr b1 .nil zAT)) zA5)),?_];refine#[_,rfl,p,dx,_,rfl,hp,rfl,p,xs,rfl,hH,_,_,rfl,rfl,#[ oz,oz,dQ],_,_,rfl,rfl,?_];rw [show (1:Int)*2^((xs.length:Nat):Int).toNat=2^xs.length by rw [yAW,yCe]];exact q
def ZBT (xs:List V)(m:Int):List V:=(ZDJ m).map λk=>xs.getD k.toNat .non
def JB4 (C:Addr):=∀ p xs m,vs=[.ref p,.int m]->UAF C H p xs->xs.length<=12->0<=m->m<2^xs.length->(∀ D H',H D=none->Same H H'->H' D=some (.lst (ZBT xs m))->Q (.ref D) H')->JB4 C vs H Q E
def zS5 {xs:List V}{m:Int}(h12:xs.length<=12)(h0:0<=m)(h1:m<2^xs.length){k:Int}(hk:k∈ZDJ m):0<=k/\k<(xs.length:Int):=by
 have e:m / 2^xs.length=0:=yDN h0 h1;rw [<- zDW h0 oz h12] at hk;unfold ZBZ at hk;obtain ⟨j,hj,rfl⟩:=yAr.mp hk
 have:=yBC.mp (yBF.mp hj).1
 lia
def zX7:UAC ["self","mask"] ["self","mask"] (ZA4 zQ4):=by trivial
def zV1 (F:Fun K "set_of" "Houses.set_of" zQ4 f fd)(T:Txt mg)(cl:Cls K C)(n1:UAE K C "row")(D1:Df 2 "is_within" ["thing","low","high"] JA1 a1 d1)(D2:Df 1 "numbers_of" ["mask"] JB0 a2 d2)(DA:Df 2 "all_of" ["houses"] (JB3 C) a3 d3) :
  Fk 3 f fd ["self","mask"] (JB4 C):=by
 refine fk F.ok zX7;obtain ⟨p,xs,m,rfl,hH,h12,h0,h1,q⟩:=h;have hr1:Room 1 _:=hr.mono dQ
 refine#[_,zA1 (zAK (zBH (zB4 (kq D1 hr #v[(pv 1),zA5,(kq DA hr #v[(pv 0)])]))) zC4 zA8)
  (zA2 (zA7 (zAQ (xs:=["number"]) (fv:=[("self",0)]) rfl dk #[#[rfl,Or.inl rfl,rfl],trivial] (za3 (kq D2 hr1 #v[(pv 1)])) (λ_ _ _ _ _=>zAG (i:=0) (ndT dk) rfl (Or.inl rfl)) (λ_ _ _ _ _=>zBD)
   (λ_ _ _ _ _=>zBF (zYY (K:=K) rfl) (zPM (K:=K) rfl (pv 1) rfl) (pv 0) (λ_ _=>rfl))))),?_]
 obtain ⟨dx,t,d,hp,ht,hd⟩:=id hH;refine#[_,rfl,_,rfl,p,xs,rfl,hH,h12,.int m,0,_,rfl,trivial,_,rfl,?_]
 have ew:ZL6 (.int m) 0 (2^xs.length-1)=true:=by
  show (decide (0<=m)&&decide (m<=_))=true;rw [yAJ h0,yAJ (show m<=2^xs.length-1 by lia)];rfl
 rw [ew];refine zAY ?_
 have ok:OkM m:=#[h0,by
  have:(2:Int)^xs.length<=2^12:=by
   have:=yAu (n:=2) dQ h12
   exact_mod_cast this
  lia]
 refine#[_,rfl,m,rfl,ok,λr H1 g1 hr' l1=>#[r,rfl,#[_,SqL.of l1],?_]];have hlen:(ZDJ m).length<=12:=zC9 m 12;refine zC7 (ZDJ m).length (λi D H'=>Same H1 H'/\H' D=some (.lst ((ZBT xs m).take i))) (λD hD=>#[L2.UAB hD _,zA0]) (λi D H' _ hi hP=>#[_,.int (ZDJ m)[i],SqL.of (hP.1 _ _ l1),by simp [hi]]) (λD H' _ hP=>#[_,SqL.of (hP.1 _ _ l1),by simp]) (λi D H' x H3 hD hi hP y=>?_) (λD H' hD hP=>?_)
 ·obtain ⟨rfl,hx⟩:=y
  have hx:=hx _ (SqL.of (hP.1 _ _ l1));rw [yAa,yAB hi] at hx
  cases hx
  obtain ⟨k0,k1⟩:=zS5 h12 h0 h1 (yAi hi);refine#[rfl,?_];unfold ZHP
  (try dsimp only)
  rw [yAS rfl];have hk:(ZDJ m)[i].toNat<xs.length:=by lia
  have hat:atI xs (ZDJ m)[i]=some (xs.getD (ZDJ m)[i].toNat .non):=by
   have q:atI xs (((ZDJ m)[i].toNat:Nat):Int)=some xs[(ZDJ m)[i].toNat]:=zCE (yAB hk);rw [show (((ZDJ m)[i].toNat:Nat):Int)=(ZDJ m)[i] by lia] at q;rw [q,yBS,yAB hk];rfl
  refine#[_,rfl,p,C,dx,_,_,rfl,hP.1 _ _ (g1 _ _ hp),cl,n1,rfl,_,rfl,t,_,_,_,rfl,rfl,SqT.of (hP.1 _ _ (g1 _ _ ht)),hat,_,hP.2,?_,λb o q'=>?_,?_]
  ·have:1000<eA5:=by decide
   rw [yAe];unfold ZBT;rw [yAA];lia
  ·rw [zA6 (zA3 q' hD)];exact hP.1 _ _ q'
  ·have es:(ZBT xs m)[i]?=some (xs.getD (ZDJ m)[i].toNat .non):=by unfold ZBT;rw [yAa,yAB hi];rfl
   rw [zA0,yBG,es];rfl
 ·have:=hP.2
  rw [yAs (by unfold ZBT;simp)] at this;exact q D H' (g1.free hD) (g1.trans hP.1) this
structure GN (xs:List V):Prop where
 str:∀ v∈xs,v=kV (.inr (ZAM v))
 nd:xs.Nodup
 lo:1<=xs.length
 hi:xs.length<=12
 sok:∀ v∈xs,eAq (ZAM v)=true
 six:∀ v∈xs,(ZAM v).length<=6
def zR1:∀ c∈LET.cps.toList,c<1114112:=by decide +kernel
def zN4 {v:V}(h:ZC1 v=true):eAq (ZAM v)=true:=by
 cases v with
 | str z=>
  have e0:ZC1 (.str z)=((ZDA z 6&&ZGX z LET) && !inV (.str z) (OWN.map V.str)):=rfl;rw [e0,yAN,yAN] at h;have ha:=h.1.2;unfold ZGX at ha;show (z.cps.all λc=>decide (c<0x110000))=true;rw [<- Array.all_toList,yBA];intro c hc;exact yAJ (zR1 c (yAZ (yBA.mp ha c hc)))
 | _=>cases h
def zTX {v:V}(h:ZC1 v=true):(ZAM v).length<=6:=by
 cases v with
 | str z=>
  have e0:ZC1 (.str z)=((ZDA z 6&&ZGX z LET) && !inV (.str z) (OWN.map V.str)):=rfl;rw [e0,yAN,yAN] at h;have ha:=h.1.1;unfold ZDA at ha;rw [yAN] at ha
  have:=yAZ ha.2
  show z.length<=6;lia
 | _=>cases h
def zF3 {xs:List V}(h:ZFY (some xs)=true):GN xs:=by
 have hs:=λv hv=>zNC h (v:=v) hv;have e0:ZFY (some xs)=(decide (1<=(xs.length:Int))&&decide ((xs.length:Int)<=12)&&(xs.all ZC1&&decide ((ZBW (xs.map λv=>.inr (ZAM v))).length=xs.length))):=rfl;rw [e0,yAN,yAN,yAN] at h;obtain ⟨⟨h1,h2⟩,h3,h4⟩:=h;have h1:=yAZ h1;have h2:=yAZ h2;have h4:=yAZ h4;refine#[hs,?_,oz,oz,λv hv=>zN4 (yBA.mp h3 v hv),λv hv=>zTX (yBA.mp h3 v hv)];have nd:=(zJN _ (xs.map λv=>(.inr (ZAM v):Key)) rfl).mp (by rw [yAA];exact h4);exact (yBl.mp nd).imp λh e=>h (by rw [e])
theorem Row.same {H H':Hp}{v:V}{r:Option (List V)}(g:Same H H')(h:Row H v r):Row H' v r:=by
 cases h with
 | lst h=>exact .lst (g _ _ h)
 | tup h=>exact .tup (g _ _ h)
 | dK h=>exact .dK (g _ _ h)
 | non=>exact .non
 | bl b=>exact .bl b
 | int i=>exact .int i
 | str z=>exact .str z
theorem Row.sq {K:Frag}{H:Hp}{v:V}{ys:List V}(h:Row H v (some ys)):∃ a,v=.ref a/\Sq K H a ys:=by
 cases h with
 | lst h=>exact#[_,rfl,.inl (SqL.of h)]
 | tup h=>exact#[_,rfl,.inr (SqT.of h)]
def UAq (H:Hp)(xs:List V)(v:V)(ix:List Nat):Prop:=∃ ys,Row H v (some ys)/\ix.Nodup/\ys.length=ix.length/\∀ (j:Nat) (k:Nat),ix[j]?=some k->∃ y,xs[k]?=some y/\ys[j]?=some y
theorem UAq.same {H H':Hp}{xs:List V}{v:V}{ix:List Nat}(g:Same H H')(h:UAq H xs v ix):UAq H' xs v ix:=let ⟨ys,a,b⟩:=h;#[ys,a.same g,b]
def ZcN (H:Hp)(xs ls:List V)(ixs:List (List Nat)):Prop:=ls.length=ixs.length/\∀ (i:Nat) v ix,ls[i]?=some v->ixs[i]?=some ix->UAq H xs v ix
def msV (ms:List Nat):List V:=ms.map λ(m:Nat)=>V.int (m:Int)
def JB5 (C:Addr):=∀ p x xs ls ixs,vs=[.ref p,x]->UAF C H p xs->GN xs->Row H x (some ls)->ls.length<=1000->ZcN H xs ls ixs->(ixs.map maskN).Nodup->(∀ D H',H D=none->Same H H'->H' D=some (.lst (msV (ixs.map maskN)))->Q (.ref D) H')->JB5 C vs H Q E
def ZLL (ms:List Nat):List (Key×V):=ms.map λ(m:Nat)=>(.inl (m:Int),.bl true)
def zFK:∀ {ms:List Nat} {m:Nat},m∉ms->ZFE (ZLL ms) (.inl (m:Int))=none
 | [],_,_=>rfl
 | c::r,m,h=>by
  rw [yAf,not_or] at h;show ZFE ((.inl (c:Int),V.bl true)::ZLL r) _=none;rw [zBO (λe=>h.1 (by injection e with e;lia))];exact zFK h.2
def zNY:UAC ["houses","lots","masks","lot","mask"] ["houses","lots"] (ZA4 zXQ):=by trivial
def zXO {tM:Tok}(F:Fun K "lot_masks" "lot_masks" zXQ f fd)(T:Txt mg)(mt:mg "tuple"=none)(gM:mg "MOST_LOTS"=some (.int 1000 tM))(k:Kit2 K)(cl:Cls K C)(M1:Meth K C "mask" a1)(O1:Fk 2 a1 d1 ["self","names"] (JA9 C))(b1:UAD K d1 ["self","names"] []) :
  Fk 3 f fd ["houses","lots"] (JB5 C):=by
 refine fk F.ok zNY;obtain ⟨p,x,xs,ls,ixs,rfl,hH,hG,hR,h64,hL,nd,q⟩:=h;obtain ⟨t,ty,e⟩:=zHB k hR;have hu:=zXX hr
 refine#[_,zA1 (zAK (PW.pt (zGR (zBH (zB4 (zAD zCW rfl T.inst yAn #v[(pv 1),(zB9 #v[(zB3 (v:=.ty "list") rfl T.list yBQ rfl),(zB3 (v:=.ty "tuple") rfl mt yAx rfl)])])))
   (zE9 (zA9 zJO (kL9 (pv 1)) (zHG (v:=.int 1000) rfl gM #[_,rfl]) (zAB _))))) zC4 zA8)
  (zA1 (kS9 2 zNY zIN)
  (zA1 (zBK eAx rfl (zB2 (pv 1)) (kG9 3 zNY)
   (zA1 (kS9 4 zNY (zAS (pv 0) cl M1 O1 hr b1 .nil zAT #v[(pv 3)]))
   (zA1 (zAK (zRI (zbM hu (pv 4) (pv 2)) (by with_unfolding_all rfl)) zC4 zA8)
   (zA2 (zaC hu (pv 2) (pv 4) zC0 rfl)))))
  (zA2 (zA7 (zB6 (zP8 rfl) rfl T.list yBQ #v[(pv 2)]))))),?_]
 refine#[_,rfl,(by show 2<=eA5;decide),λu hu'=>?_];have g1:=UAB hu' (.tup [.ty "list",.ty "tuple"]);have c1:(upd H u (.tup [.ty "list",.ty "tuple"])) u=_:=zA0;generalize upd H u (.tup [.ty "list",.ty "tuple"])=H1 at g1 c1 ⊢;refine#[_,t,u,["list","tuple"],_,rfl,TyOf.same g1 ty,c1,e,_,rfl,?_];refine zAY ?_;obtain ⟨a,rfl,sq⟩:=Row.sq (K:=K) (hR.same g1);refine#[_,rfl,a,ls,rfl,sq,_,_,rfl,rfl,_,rfl,?_];rw [yAG oz];refine zAY ?_;intro d hd;have g2:=UAB hd (.dK []);have l2:(upd H1 d (.dK [])) d=some (.dK []):=zA0;have hd0:H d=none:=g1.free hd;generalize upd H1 d (.dK [])=H2 at g2 l2 ⊢;have g12:=g1.trans g2;refine#[_,rfl,a,rfl,?_]
 refine zC5 (sq.at1 (g2.at1 a)) (λi σ H'=>∃ lo mk,σ=[some (.ref p),some (.ref a),some (.ref d),lo,mk]/\Same H H'/\At1 a H2 H'/\H' d=some (.dK (ZLL ((ixs.map maskN).take i)))) #[_,_,rfl,g12,λo h=>h,by rw [List.take_zero];exact l2]
  (λi σ H' hP=>hP.choose_spec.choose_spec.2.2.1) (λi σ H' v hi hv hP=>?_) (λσ H' hP=>?_)
 ·obtain ⟨lo,mk,rfl,g,ga,hl⟩:=hP
  have hi':i<ixs.length:=by rw [<- hL.1];exact hi
  have hix:ixs[i]?=some ixs[i]:=by simp
  obtain ⟨ys,r,n1,n2,n3⟩:=hL.2 i v ixs[i] hv hix;have hH':=hH.same g;obtain ⟨dx,tt,dd,hp',_⟩:=id hH';refine#[_,rfl,p,dx,_,rfl,hp',rfl,_,rfl,p,xs,v,ys,ixs[i],rfl,hH',hG.str,hG.nd,hG.hi,r.same g,n1,n2,n3,λH3 g3=>?_];have hm:(ixs.map maskN)[i]?=some (maskN ixs[i]):=by rw [yAa,hix];rfl
  have hnot:maskN ixs[i]∉(ixs.map maskN).take i:=λz=>by
   obtain ⟨j,hj,ej⟩:=yBg z;rw [yAe,yAA] at hj;rw [yEB] at ej;have e2:(ixs.map maskN)[i]'(by rw [yAA];exact hi')=maskN ixs[i]:=by simp
   have:=(yCf nd).mp (ej.trans e2.symm)
   lia
  refine#[_,rfl,_,rfl,d,none,rfl,?_,_,rfl,?_]
  ·have:=DGet.k (k:=.inl (maskN ixs[i]:Int)) (g3 _ _ hl)
   rw [zFK hnot] at this;exact this
  refine zAY ?_
  have hlen:(ZLL ((ixs.map maskN).take i)).length<eA5:=by
   unfold ZLL;rw [yAA,yAe,yAA]
   have:1000<eA5:=by decide
   lia
  refine#[_,rfl,_,rfl,d,_,rfl,DPut.k (k:=.inl (maskN ixs[i]:Int)) (g3 _ _ hl) hlen,some v,some (.int (maskN ixs[i]:Nat)),rfl,λb o hb=>?_,λo ho=>?_,?_]
  ·rw [zA6 (zA3 hb hd0)];exact g3 _ _ (g _ _ hb)
  ·have na:a≠d:=by
    rintro rfl
    obtain ⟨z,ez⟩:∃ o,H a=some o:=by
     cases hR with
     | lst h=>exact#[_,h]
     | tup h=>exact#[_,h]
    rw [ez] at hd0;cases hd0
   rw [zA6 na];exact g3 _ _ (ga o ho)
  ·rw [zA0,zTQ _ (zFK hnot),yBG,hm]
   unfold ZLL;rw [yAQ];rfl
 ·obtain ⟨lo,mk,rfl,g,ga,hl⟩:=hP
  rw [hL.1,yAs (by rw [yAA];exact yAF _)] at hl;refine#[_,rfl,d,_,rfl,hl,λl hl'=>?_];refine q l _ (g.free hl') (g.trans (UAB hl' _)) ?_;rw [zA0];unfold ZLL msV;rw [yCA,yCA,yCA];rfl
def IV (ms:List Int):List V:=ms.map V.int
def UAH (CS C:Addr)(H:Hp)(p:Addr)(xs:List V)(ms:List Int):Prop:=
 ∃ dx g t,H p=some (.ins CS dx [("ground",.ref g),("masks",.ref t)])/\UAF C H g xs/\H t=some (.tup (IV ms))
theorem UAH.same {CS C p:Addr}{H H':Hp}{xs:List V}{ms:List Int}(g:Same H H')(h:UAH CS C H p xs ms):UAH CS C H' p xs ms:=let ⟨dx,a,t,h1,h2,h3⟩:=h;#[dx,a,t,g _ _ h1,h2.same g,g _ _ h3]
structure Ord (xs:List V)(ms:List Int):Prop where
 gn:GN xs
 ok:∀ m∈ms,0<=m/\m<2^xs.length
 few:ms.length<=1000
 ord:ms.Pairwise (λa b=>ZBQ (kOf (.int b)) (kOf (.int a))=false)
 nd:ms.Nodup
def zKH {n:Nat}(h:n<=12):(2:Int)^n<=4096:=by
 have:=yAu (n:=2) dQ h
 have e:((2^n:Nat):Int)<=((2^12:Nat):Int):=Int.ofNat_le.mpr this
 simpa using e
def zVU {n:Nat}:∀ (k:Nat) (ix:List Nat),ix.length=k->ix.Nodup->(∀ i∈ix,i<n)->maskN ix<2^n:=by
 intro k ix hk nd hb;have un:∀ j,n<=j->ZIG (maskN ix) j:=λj hj=>zEM _ ix rfl nd j λz=>by have:=hb j z;lia
 rcases yBn (maskN ix) (2^n) with z|z
 ·exact z
 ·exfalso
  have hlt:maskN ix<2^(maskN ix):=Nat.lt_two_pow_self;obtain ⟨i,hi,ht⟩:=Nat.exists_ge_and_testBit_of_ge_two_pow z
  have:=un i hi
  unfold ZIG at this;rw [yBe,this] at ht
  cases ht
def JB6 (CS C:Addr):=∀ p dx x y xs ls ixs,vs=[.ref p,x,y]->H p=some (.ins CS dx [])->Row H x (some xs)->(∀ v∈xs,Th H v)->ZFY (some xs)=true->Row H y (some ls)->ls.length<=1000->ZcN H xs ls ixs->(ixs.map maskN).Nodup->(∀ H' ms,(∀ c o,H c=some o->c≠p->H' c=some o)->ms.Perm ((ixs.map maskN).map λ(m:Nat)=>(m:Int))->Ord xs ms->UAH CS C H' p xs ms->Q .non H')->JB6 CS C vs H Q E
def JB7 (CS C:Addr):=∀ p xs ms,vs=[.ref p]->UAH CS C H p xs ms->(∀ l,H l=none->Q (.ref l) (upd H l (.lst xs)))->JB7 CS C vs H Q E
structure LL (H H':Hp)(D:Addr)(rs:List Addr)(zs:List (List V)):Prop where
 top:H' D=some (.lst (rs.map V.ref))
 new:∀ r∈rs,H r=none/\r≠D
 nd:rs.Nodup
 len:rs.length=zs.length
 at_:∀ (i:Nat) r z,rs[i]?=some r->zs[i]?=some z->H' r=some (.lst z)
def JB8 (CS C:Addr):=∀ p xs ms,vs=[.ref p]->UAH CS C H p xs ms->Ord xs ms->(∀ D H' rs,H D=none->Same H H'->LL H H' D rs (ms.map (ZBT xs))->Q (.ref D) H')->JB8 CS C vs H Q E
structure TT' (H':Hp)(t:Addr)(rs:List Addr)(zs:List (List V)):Prop where
 top:H' t=some (.tup (rs.map V.ref))
 len:rs.length=zs.length
 at_:∀ (i:Nat) r z,rs[i]?=some r->zs[i]?=some z->H' r=some (.tup z)
def ZcC (H':Hp)(r:Addr)(xs:List V)(zs:List (List V)):Prop:=∃ t1 t2 rs,H' r=some (.tup [.ref t1,.ref t2])/\H' t1=some (.tup xs)/\TT' H' t2 rs zs
def JB9 (CS C:Addr):=∀ p xs ms,vs=[.ref p]->UAH CS C H p xs ms->Ord xs ms->(∀ r H',Same H H'->ZcC H' r xs (ms.map (ZBT xs))->Q (.ref r) H')->JB9 CS C vs H Q E
def zXG:UAC ["self","houses","lots"] ["self","houses","lots"] (ZA4 zS7):=by trivial
def zWA (F:Fun K "__init__" "System.__init__" zS7 f fd)(mt:mg "tuple"=none)(clS:Cls K CS)(nG:UAE K CS "ground")(nM:UAE K CS "masks")
  (M:Mk K C f1) (O1:Fk 4 f1 d1 ["self","names"] (JA5 C)) (b1:UAD K d1 ["self","names"] []) (mH:mg "Houses"=some (.ref C))
  (D2:Df 5 "in_order" ["masks"] (JB2 K) a2 d2) (D3:Df 3 "lot_masks" ["houses","lots"] (JB5 C) a3 d3) :
  Fk 6 f fd ["self","houses","lots"] (JB6 CS C):=by
 refine fk F.ok zXG;obtain ⟨p,dx,x,y,xs,ls,ixs,rfl,hp,hX,hT,hA,hY,h64,hL,nd,q⟩:=h;have hG:=zF3 hA;have hr3:Room 3 _:=hr.mono dQ
 refine#[_,zA1 (zN2 (pv 0) (zGP M O1 hr rfl mH b1 .nil zAT #v[(pv 1)]) rfl)
  (zA2 (zN2 (pv 0) (zB6 zBA rfl mt yAx #v[(kq D2 hr #v[(kq D3 hr3 #v[(zAO (pv 0) rfl),(pv 2)])])]) rfl)),?_]
 refine#[_,rfl,λg gx hg hgx ne=>?_];have nep:∀ {c:Addr},H c=none->p≠c:=λh=>zA3 hp h;have k1:Same H (upd (upd H gx (.own g)) g (.ins C gx [])):=λc o hc=>by rw [zA6 (zA3 hc hg),zA6 (zA3 hc hgx)];exact hc
 have i1:(upd (upd H gx (.own g)) g (.ins C gx [])) g=some (.ins C gx []):=zA0;generalize upd (upd H gx (.own g)) g (.ins C gx [])=H1 at k1 i1 ⊢;refine#[g,gx,x,xs,rfl,i1,hX.same k1,λv hv=>(hT v hv).mono k1,by have:=hG.hi;lia,hA,λH2 k2 hH2=>#[rfl,?_]];have s2:Same H H2:=λc o hc=>k2 c o (k1 _ _ hc) (zA3 hc hg);refine#[_,rfl,p,CS,dx,_,rfl,s2 _ _ hp,clS,nG,(by show 0<1000;decide),?_];have gp:g≠p:=(nep hg).symm
 have hH3:UAF C (upd H2 p (.ins CS dx (putF "ground" (.ref g) []))) g xs:=by
  obtain ⟨ex,t,d,h1,h2,h3⟩:=hH2;have nt:∀ {c:Addr} {o:HO},H2 c=some o->(∀ C' d' fs,o≠.ins C' d' fs)->c≠p:=λhc hn z=>by rw [z,s2 _ _ hp] at hc;cases hc;exact hn _ _ _ rfl
  exact#[ex,t,d,by rw [zA6 gp];exact h1,by rw [zA6 (nt h2 λ_ _ _ z=>nomatch z)];exact h2,by rw [zA6 (nt h3 λ_ _ _ z=>nomatch z)];exact h3]
 have i3:(upd H2 p (.ins CS dx (putF "ground" (.ref g) []))) p=some (.ins CS dx [("ground",.ref g)]):=zA0;have k3:∀ c o,H c=some o->c≠p->(upd H2 p (.ins CS dx (putF "ground" (.ref g) []))) c=some o:=λc o hc n=>by rw [zA6 n];exact s2 _ _ hc
 generalize upd H2 p (.ins CS dx (putF "ground" (.ref g) []))=H3 at hH3 i3 k3 ⊢
 have np:∀ {v:V} {ys:List V},Row H v (some ys)->Row H3 v (some ys):=λh=>by
  cases h with
  | lst h=>exact .lst (k3 _ _ h λz=>by rw [z,hp] at h;cases h)
  | tup h=>exact .tup (k3 _ _ h λz=>by rw [z,hp] at h;cases h)
 have hL3:ZcN H3 xs ls ixs:=#[hL.1,λi v ix h1 h2=>let ⟨ys,r,z⟩:=hL.2 i v ix h1 h2;#[ys,np r,z]];refine#[_,rfl,p,CS,dx,_,_,rfl,i3,clS,nG,rfl,_,rfl,g,y,xs,ls,ixs,rfl,hH3,hG,np hY,h64,hL3,nd,λD H4 hD s4 l4=>?_]
 have lt:∀ m∈(ixs.map maskN).map (λ(m:Nat)=>(m:Int)),0<=m/\m<2^xs.length:=λm hm=>by
  obtain ⟨m',hm',rfl⟩:=yAr.mp hm;obtain ⟨ix,hix,rfl⟩:=yAr.mp hm';obtain ⟨i,hi,ei⟩:=yBg hix;have hi':i<ls.length:=by rw [hL.1];exact hi
  obtain ⟨ys,r,n1,n2,n3⟩:=hL.2 i ls[i] ix (by simp) (by rw [yAB hi,ei])
  have:=zVU (n:=xs.length) _ ix rfl n1 λk hk=>by
   obtain ⟨j,hj,ej⟩:=yBg hk;obtain ⟨v,hv,_⟩:=n3 j k (by rw [yAB hj,ej]);exact (yAH.mp hv).1
  refine#[yBw _,?_];have e:((maskN ix:Nat):Int)<((2^xs.length:Nat):Int):=Int.ofNat_lt.mpr this
  simpa using e
 have hml:((ixs.map maskN).map (λ(m:Nat)=>(m:Int))).length<=1000:=by rw [yAA,yAA,<- hL.1];exact h64
 have el:msV (ixs.map maskN)=List.map V.int ((ixs.map maskN).map (λ(m:Nat)=>(m:Int))):=by unfold msV;simp only [yCA];rfl
 rw [el] at l4;refine#[D,_,rfl,.inl (SqL.of l4),yAp hml dQ,λm hm=>?_,λD2 H5 ys hD2 s5 l5 hp5 ho5=>?_]
 ·have h1:=lt m hm
  have h2:=zKH hG.hi;exact#[h1.1,oz]
 refine#[D2,_,rfl,.inl #[SqL.of l5,λt ht=>#[_,rfl,p,CS,dx,_,rfl,UAB ht _ _ _ (s5 _ _ (s4 _ _ i3)),clS,nM,(by show 1<1000;decide),?_]]];have k5:Same H3 (upd H5 t (.tup (List.map V.int ys))):=(s4.trans s5).trans (UAB ht _);have tp:t≠p:=λz=>by rw [z,s5 _ _ (s4 _ _ i3)] at ht;cases ht
 refine q _ ys (λc o hc n=>by rw [zA6 n];exact k5 _ _ (k3 _ _ hc n)) hp5 #[hG,λm hm=>lt m (hp5.mem_iff.mp hm),by rw [hp5.length_eq];exact hml,ho5,hp5.nodup_iff.mpr (yBl.mpr (nd.imp λh e=>h (Int.ofNat.inj e)))] #[dx,g,t,by rw [zA0];rfl,?_,by rw [zA6 tp,zA0];rfl];obtain ⟨ex,t',d,h1,h2,h3⟩:=hH3;have nt:∀ {c:Addr} {o:HO},H3 c=some o->(∀ C' d' fs,o≠.ins C' d' fs)->c≠p:=λhc hn z=>by rw [z,i3] at hc;cases hc;exact hn _ _ _ rfl
 exact#[ex,t',d,by rw [zA6 gp];exact k5 _ _ h1,by rw [zA6 (nt h2 λ_ _ _ z=>nomatch z)];exact k5 _ _ h2,by rw [zA6 (nt h3 λ_ _ _ z=>nomatch z)];exact k5 _ _ h3]
def zR8:UAC ["self"] ["self"] (ZA4 zIH):=by trivial
def zP6 (F:Fun K "houses" "System.houses" zIH f fd)(clS:Cls K CS)(nG:UAE K CS "ground")(cl:Cls K C)(M1:Meth K C "names" a1)(O1:Fk 1 a1 d1 ["self"] (JA6 C))(b1:UAD K d1 ["self"] []) :
  Fk 2 f fd ["self"] (JB7 CS C):=by
 refine fk F.ok zR8;obtain ⟨p,xs,ms,rfl,⟨dx,g,t,hp,hH,ht⟩,q⟩:=h;obtain ⟨gx,t',d,h1,h2,h3⟩:=id hH;refine#[_,zA2 (zA7 (zBE (zAO (pv 0) rfl) cl M1 O1 hr b1 .nil zAT)),?_];exact#[_,rfl,p,CS,dx,_,_,rfl,hp,clS,nG,rfl,g,gx,_,rfl,h1,rfl,g,xs,rfl,hH,q]
def zXH:UAC ["self"] ["self"] (ZA4 zQU):=by trivial
def zTW (F:Fun K "lots" "System.lots" zQU f fd)(clS:Cls K CS)(nG:UAE K CS "ground")(nM:UAE K CS "masks")(cl:Cls K C)(M1:Meth K C "set_of" a1)(O1:Fk 3 a1 d1 ["self","mask"] (JB4 C))(b1:UAD K d1 ["self","mask"] []) :
  Fk 4 f fd ["self"] (JB8 CS C):=by
 refine fk F.ok zXH;obtain ⟨p,xs,ms,rfl,hS,hO,q⟩:=h;obtain ⟨dx,g,t,hp,hH,ht⟩:=hS
 refine#[_,zA2 (zA7 (zAQ (xs:=["mask"]) (fv:=[("self",0)]) rfl dk #[#[rfl,Or.inl rfl,rfl],trivial] (zB2 (zAO (pv 0) rfl)) (λ_ _ _ _ _=>zAG (i:=0) (ndT dk) rfl (Or.inl rfl)) (λ_ _ _ _ _=>zBD)
   (λ_ _ _ _ _=>zAS (zPM (K:=K) rfl (pv 1) rfl) cl M1 O1 hr b1 .nil zAT #v[(pv 0)]))),?_]
 refine#[_,rfl,p,CS,dx,_,_,rfl,hp,clS,nM,rfl,t,rfl,?_]
 refine zC6 (K:=K) (ys:=IV ms) (.inr (SqT.of ht)) (λi D H'=>Same H H'/\∃ rs,LL H H' D rs ((ms.take i).map (ZBT xs))) (λD hD=>#[UAB hD _,[],zA0,λr hr=>(nomatch hr),.nil,rfl,λi r z h=>by cases h])
  (λi D H' hD hP=>hP.1.at1 t) (λi D H' x hD hi hx hP=>?_) (λD H' hD hP=>?_)
 ·obtain ⟨g',rs,L⟩:=hP
  unfold IV at hx hi;rw [yAA] at hi;rw [yAa,yAB hi] at hx
  cases hx
  have hm:=hO.ok ms[i] (yAi hi);have hH':=hH.same g';obtain ⟨gx,t',d,h1,h2,h3⟩:=id hH';refine#[rfl,?_];unfold ZHP
  (try dsimp only)
  rw [yAS rfl];refine#[_,rfl,p,CS,dx,_,_,rfl,g' _ _ hp,clS,nG,rfl,g,gx,_,rfl,h1,rfl,_,rfl,g,xs,ms[i],rfl,hH',hO.gn.hi,hm.1,hm.2,λD2 H2 hD2 g2 l2=>?_];have top2:=g2 _ _ L.top;have lz:rs.length=i:=by have:=L.len;rw [yAA,yAe,Nat.min_eq_left (yDU hi)] at this;exact this
  have n64:=hO.few;have nD:D2≠D:=λz=>by rw [z,L.top] at hD2;cases hD2
  have nrs:D2∉rs:=λhm2=>by
   obtain ⟨j,hj,ej⟩:=yBg hm2
   have:=L.at_ j D2 (((ms.take i).map (ZBT xs))[j]'(by rw [<- L.len];exact hj)) (by rw [yAB hj,ej]) (yAB (by rw [<- L.len];exact hj))
   rw [this] at hD2;cases hD2
  refine#[_,top2,?_,λc o hc=>?_,rs++[D2],?_,?_,?_,?_,?_]
  ·rw [yAA]
   have:1000<eA5:=by decide
   lia
  ·rw [zA6 (zA3 hc hD)];exact g2 _ _ (g' _ _ hc)
  ·rw [zA0,yAQ];rfl
  ·intro r hr'
   rcases yAb.mp hr' with z|z
   ·exact L.new r z
   ·rw [yAE.mp z];exact#[g'.free hD2,nD]
  ·rw [yCG]
   exact#[L.nd,by simp,λa ha b hb e=>nrs (by rw [yAE.mp hb] at e;rw [<- e];exact ha)]
  ·rw [yAV,lz,yAA,yAe]
   simp
   lia
  ·intro j r z hj hz
   have et:(ms.take (i+1)).map (ZBT xs)=(ms.take i).map (ZBT xs)++[ZBT xs ms[i]]:=by rw [yBG,yAB hi,yAQ];rfl
   rw [et] at hz
   rcases yBn j i with c|c
   ·rw [yAv oz] at hj
    rw [yAv (by rw [<- L.len];lia)] at hz;have hm2:=yAk hj;rw [zA6 (L.new r hm2).2];exact g2 _ _ (L.at_ j r z hj hz)
   ·have ej:j=i:=by
     have:=(yAH.mp hj).1
     rw [yAV] at this
     simp at this
     lia
    subst ej;rw [yAt oz,lz,yCn] at hj;rw [yAt (by rw [<- L.len];lia),<- L.len,lz,yCn] at hz
    cases hj
    cases hz
    rw [zA6 nD];exact l2
 ·obtain ⟨g',rs,L⟩:=hP
  have e:(IV ms).length=ms.length:=by unfold IV;rw [yAA]
  rw [e,yAs (yAF _)] at L;exact q D H' rs hD g' L
section
variable {X:Cx}
def zbI {op:Operator}{r:R2}{a b:Expr}{ta tb:TE}{pos:Pos}(ho:OpR X (eAS op) r)(ha:PEH X a ta)(hb:PEH X b tb):PEH X (.BinOp a op b pos) (tOp r ta tb):=⟨zAC ho ha.out hb.out⟩
def zMP {CX:CXT}{k:Nat}{f:Addr}{fd:eAY}{ps:List Str}{sp:Sp}{dvs:List V}{ds:List Value}{E:XK}{x:Str}{p pos:Pos}{e:Expr}{es:List Expr}{t:TA}(F:FnOk X.prog X.w X.K X.mg X.base CX k f fd ps sp)(hr:Room k X.A)(hg:Gl X x)(hm:X.mg x=some (.ref f))(hk:keepIn X.K (.ref f)=true)(hb:UAD X.K fd ps ds)(hd:Vals dvs ds)(hx:ZDI CX X E)
  (ha:PAH X (e::es) t) (hdb:(x==("__debug__":Str))=false:=by decide) (he:eAO (e::es) X.env=(false,eval e X.env)::eAO es X.env:=by rfl) (hpl:(eAN pos (eAO es X.env)).any (·.1)=false:=by rfl) :
  PEH X (.Call (.Name x p) (e::es) [] pos) (ZWG sp dvs E t):=⟨zEK F hr hg hm hk hb hd hx ha.out hdb he hpl⟩
def zYB {sts:List Stmt}{e:Expr}{p:Pos}{te:TE}(h:sts=[.Return (some e) p])(he:PEH X e te):PSH X sts (ZeD te):=by
 rw [h];exact PSH.mk (zA2 (zA7 he.out))
end
structure BoxOk (d s c:Int):Prop where
 d0:0<=d
 s0:0<=s
 s1:s<2147483648
 c0:0<=c
def UAG (H:Hp)(b:Addr):Prop:=∃ d s c,H b=some (.lst [.int d,.int s,.int c])/\BoxOk d s c
def But (b:Addr)(H H':Hp):Prop:=∀ c,c≠b->H' c=H c
def Away (b:Addr)(H H':Hp):Prop:=∀ c o,H c=some o->c≠b->H' c=some o
theorem But.away {b:Addr}{H H':Hp}(x:But b H H'):Away b H H':=λc o h n=>(x c n).trans h
def zAE {b:Addr}{H H':Hp}(x:Same H H'):Away b H H':=λc o h _=>x c o h
theorem Away.refl {b:Addr}(H:Hp):Away b H H:=λ_ _ h _=>h
theorem Away.trans {b:Addr}{H H1 H2:Hp}(x:Away b H H1)(y:Away b H1 H2):Away b H H2:=λc o h n=>y c o (x c o h n) n
theorem UAG.same {H H':Hp}{b:Addr}(g:Same H H')(h:UAG H b):UAG H' b:=let ⟨d,s,c,h1,h2⟩:=h;#[d,s,c,g _ _ h1,h2]
theorem UAG.ne {H:Hp}{b c:Addr}(h:UAG H b)(hc:H c=none):b≠c:=let ⟨_,_,_,h1,_⟩:=h;zA3 h1 hc
theorem Away.free {b c:Addr}{H H':Hp}(g:Away b H H')(hb:UAG H' b)(h:H' c=none):H c=none:=by
 cases q:H c with
 | none=>rfl
 | some o=>rw [g c o q (hb.ne h).symm] at h;cases h
def zc1 {ms:List Int}{i:Nat}(h:i<ms.length):atI (ms.map V.int) (i:Int)=some (.int ms[i]):=zCE (by rw [yAa,yAB h];rfl)
def zS3 {ms:List Int}{i:Int}(h0:0<=i)(h:i<(ms.length:Int)):∃ v,v∈ms/\atI (ms.map V.int) i=some (.int v):=by
 have hk:i.toNat<ms.length:=by lia
 refine#[ms[i.toNat],yAi hk,?_];have q:=zc1 hk;rw [show ((i.toNat:Nat):Int)=i by lia] at q;exact q
def zeN {xs:List V}{i:Int}(h0:0<=i)(h:i<(xs.length:Int)):∃ (j:Nat) (hj:j<xs.length),i=(j:Int)/\atI xs i=some xs[j]:=by
 refine#[i.toNat,oz,oz,?_];have q:atI xs ((i.toNat:Nat):Int)=some xs[i.toNat]:=zCE (yAB oz);rw [show ((i.toNat:Nat):Int)=i by lia] at q;exact q
def JC0 (K:Frag):=∀ a ns k,vs=[.ref a,.int k]->SqL K H a (List.map V.int ns)->0<=k->(∀ r,Q (.int r) H)->JC0 K vs H Q E
def JC1:=∀ n,vs=[.int n]->(∀ r H',Same H H'->H r=none->UAG H' r->Q (.ref r) H')->JC1 vs H Q E
def JC2:=∀ b n,vs=[.ref b,.int n]->0<n->n<1073741824->UAG H b->(∀ r H',0<=r->r<n->UAG H' b->But b H H'->Q (.int r) H')->JC2 vs H Q E
def JC3:=∀ b,vs=[.ref b]->UAG H b->(∀ r H',1<=r->r<=8->UAG H' b->Away b H H'->Q (.int r) H')->JC3 vs H Q E
def zcS:UAC ["_law_script","_law_k"] ["_law_script","_law_k"] (ZA4 za8):=by trivial
def zYA (F:Fun K "_law_cell" "_law_cell" za8 f fd)(ml:mg "len"=none):Fk 1 f fd ["_law_script","_law_k"] (JC0 K):=by
 refine fk F.ok zcS;obtain ⟨a,ns,k,rfl,hS,hk,q⟩:=h
 refine#[_,zA1 (zAK (zA9 zc2 (pv 1) (zAD zCP rfl ml yCv #v[(pv 0)]) (zAB _)) (zA2 (zA7 (zBF zAJ (pv 0) (pv 1) (λ_ _=>rfl)))) zA8)
  (zA2 (zA7 (zAC zCU (zAC zI0 zA5 (pv 1)) zA5))),?_]
 refine#[_,rfl,_,rfl,a,_,rfl,.inl hS,_,_,rfl,rfl,_,rfl,?_];refine zD2 (λc=>?_) (λc=>?_)
 ·have c:=yAZ c
  rw [yAA] at c;obtain ⟨v,_,hv⟩:=zS3 (ms:=ns) hk c;exact#[_,rfl,_,rfl,a,_,_,_,rfl,rfl,hS,hv,q v]
 ·exact#[_,rfl,_,_,rfl,rfl,.inl #[ dQ,dQ],_,_,rfl,rfl,q _]
def zdZ:UAC ["_law_cell_here"] ["_law_cell_here"] (ZA4 zdD):=by trivial
def zbZ (F:Fun K "_law_box" "_law_box" zdD f fd)(mx:mg "max"=none):Fk 1 f fd ["_law_cell_here"] JC1:=by
 refine fk F.ok zdZ;obtain ⟨n,rfl,q⟩:=h;refine#[_,zA2 (zA7 (zB1 #v[(zAD (zJK rfl) rfl mx PyProof.Rows.boot_max #v[zA5,(zAC zKB (pv 0) (zAC zc0 zA5 zA5))]),(zAC zI4 (pv 0) zA5),zA5])),?_];refine#[_,rfl,_,_,rfl,rfl,#[ dQ,dQ,dQ],_,_,rfl,rfl,_,_,rfl,_,rfl,_,_,rfl,rfl,(by show (0:Int)<2147483647;decide),(by show 3<=eA5;decide),λr hr'=>?_];refine q r _ (UAB hr' _) hr' #[_,_,_,zA0,?_,?_,?_,dQ]
 ·split<;>lia
 ·exact yCW _ dQ
 ·have:=yCC n (b:=2147483647) dQ;lia
def zNT:UAC ["_law_box_here","_law_many","_law_digit","_law_number"] ["_law_box_here","_law_many"] (ZA4 zYK):=by trivial
def zXF (F:Fun K "_law_take" "_law_take" zYK f fd):Fk 1 f fd ["_law_box_here","_law_many"] JC2:=by
 refine fk F.ok zNT;obtain ⟨b,n,rfl,n0,n1,⟨d,z,c,hb,ok⟩,q⟩:=h
 refine#[_,zA1 (zAK (zA9 zJO (zBF zAJ (pv 0) zA5 (λ_ _=>rfl)) zA5 (zAB _))
   (zA1 (kS9 2 zNT (zAC zI4 (zBF zAJ (pv 0) zA5 (λ_ _=>rfl)) (pv 1)))
   (zA1 (zKP (zAC zS0 (zBF zAJ (pv 0) zA5 (λ_ _=>rfl)) (pv 1)) (zNJ (pv 0) zA5 zGH))
   (zA2 (zA7 (pv 2))))) zA8)
  (zA1 (zKP (zAC zCU (zBF zAJ (pv 0) zA5 (λ_ _=>rfl)) zA5) (zNJ (pv 0) zA5 zGH))
  (zA1 (kS9 3 zNT (zAC zI4 (zAC zI0 (zAC zCU (zAC zCU (zBF zAJ (pv 0) zA5 (λ_ _=>rfl)) (zAC zI0 zA5 (zBF zAJ (pv 0) zA5 (λ_ _=>rfl)))) zA5) zA5) zA5))
  (zA1 (kS9 3 zNT (zAC zI4 (zAC zCU (zAC zCU (zAC zI0 (pv 3) (pv 3)) (zAC zI0 zA5 (zBF zAJ (pv 0) zA5 (λ_ _=>rfl)))) zA5) zA5))
  (zA2 (zA7 (zAC zI4 (zAC zS0 (zAC zI4 (zAC zI0 (pv 3) (zAC zCU (pv 3) zA5)) zA5) zA5) (pv 1))))))),?_]
 obtain ⟨d0,s0,s1,c0⟩:=ok;have bt:∀ o,But b H (upd H b o):=λo c hc=>zA6 hc;refine#[_,rfl,b,_,_,_,rfl,rfl,SqL.of hb,rfl,_,_,rfl,rfl,_,rfl,?_];refine zD2 (λy=>?_) (λy=>?_)
 ·refine#[_,rfl,b,_,_,_,rfl,rfl,SqL.of hb,rfl,_,rfl,_,_,rfl,rfl,n0,?_]
  refine#[_,rfl,b,_,_,_,rfl,rfl,SqL.of hb,rfl,_,rfl,_,_,rfl,rfl,#[n0,n1],_,rfl,b,_,_,_,rfl,rfl,hb,rfl,?_];refine#[_,rfl,q _ _ (yCW _ oz) (yCC _ n0) #[_,_,_,zA0,Int.ediv_nonneg d0 oz,s0,s1,c0] (bt _)]
 ·refine#[_,rfl,b,_,_,_,rfl,rfl,SqL.of hb,rfl,_,_,rfl,rfl,_,rfl,b,_,_,_,rfl,rfl,hb,rfl,?_]
  refine#[_,rfl,b,_,_,_,rfl,rfl,SqL.of zA0,rfl,_,rfl,b,_,_,_,rfl,rfl,SqL.of zA0,rfl,_,_,rfl,rfl,.inl #[ dQ,dQ],_,_,rfl,rfl,_,_,rfl,rfl,_,_,rfl,rfl,.inr #[ dQ,dQ],_,_,rfl,rfl,(by show (0:Int)<2147483629;decide),?_];have u0:=yCW ((z+7919*(c+1)+17)*48271) (b:=2147483629) dQ;have u1:=yCC ((z+7919*(c+1)+17)*48271) (b:=2147483629) dQ;generalize ((z+7919*(c+1)+17)*48271) % 2147483629=x at u0 u1 ⊢;refine#[_,rfl,_,rfl,_,_,rfl,rfl,.inl #[ oz,oz],_,rfl,b,_,_,_,rfl,rfl,SqL.of zA0,rfl,_,_,rfl,rfl,.inl #[ dQ,dQ],_,_,rfl,rfl,_,_,rfl,rfl,_,_,rfl,rfl,(by show (0:Int)<2147483587;decide),?_];have w0:=yCW (x*x+16807*(c+1)+3) (b:=2147483587) dQ;have w1:=yCC (x*x+16807*(c+1)+3) (b:=2147483587) dQ;generalize (x*x+16807*(c+1)+3) % 2147483587=y at w0 w1 ⊢;refine#[_,rfl,_,rfl,_,_,rfl,rfl,_,_,rfl,rfl,.inl #[ oz,oz],_,_,rfl,rfl,(by show (0:Int)<2147483647;decide),_,_,rfl,rfl,#[ dQ,dQ],_,rfl,_,_,rfl,rfl,n0,?_];exact q _ _ (yCW _ oz) (yCC _ n0) #[_,_,_,zA0,d0,s0,s1,(by show 0<=c+1;lia)] (bt _)
def zZ2:UAC ["_law_box_here"] ["_law_box_here"] (ZA4 zFM):=by trivial
def zWI (F:Fun K "_law_size" "_law_size" zFM f fd)(D1:Df 1 "_law_take" ["_law_box_here","_law_many"] JC2 a1 d1):Fk 2 f fd ["_law_box_here"] JC3:=by
 refine fk F.okH zZ2;obtain ⟨b,rfl,hb,q⟩:=h;refine#[_,zYB rfl (zbI zCU zT6 (zMP D1.ok hr rfl D1.m D1.k D1.b .nil zAT (zAI (PEH.mk (pv 0)) (zAI (zWN zAJ (zFC (zGA [.int 6,.int 6,.int 6,.int 6,.int 6,.int 4,.int 3,.int 8])) (PEH.mk (kq D1 hr #v[(pv 0),zA5])) (λ_ _=>rfl)) zC2)))),?_];refine#[_,rfl,(by show 8<=eA5;decide),λl hl=>?_];have b1:=hb.same (UAB hl (.lst [.int 6,.int 6,.int 6,.int 6,.int 6,.int 4,.int 3,.int 8]));have nl:l≠b:=(hb.ne hl).symm;refine#[_,rfl,b,8,rfl,dQ,dQ,b1,λr H2 r0 r1 b2 t2=>?_];obtain ⟨v,hv,ha⟩:=zS3 (ms:=[6,6,6,6,6,4,3,8]) r0 (by show r<8;lia)
 have hv':3<=v/\v<=8:=by
  simp only [yAf,yBp,yDa] at hv;lia
 refine#[l,_,_,_,rfl,rfl,SqL.of ((t2 l nl).trans zA0),ha,b,v,rfl,oz,oz,b2,λr2 H3 r20 r21 b3 t3=>#[_,_,rfl,rfl,?_]];exact q _ H3 oz oz b3 (((zAE (UAB hl _)).trans t2.away).trans t3.away)
def zZC (a b:Str):eqV (.str a) (.str b)=(a==b):=rfl
def zU5 {l:List Nat}(h1:1<=l.length)(h6:l.length<=6)(hc:∀ c∈l,c∈LET.cps.toList)(ho:∀ z∈OWN,z.cps.toList≠l):ZC1 (.str (mkS l))=true:=by
 have e0:ZC1 (.str (mkS l))=((ZDA (mkS l) 6&&ZGX (mkS l) LET) && !inV (.str (mkS l)) (OWN.map V.str)):=rfl;rw [e0,yAN,yAN];refine#[#[?_,?_],?_]
 ·unfold ZDA
  rw [zCS,yAJ oz,yAJ oz];rfl
 ·unfold ZGX
  rw [yBA];intro c hc';exact yAJ (hc c (by simpa using hc'))
 ·rw [yBE]
  unfold inV;rw [yED];intro v hv;obtain ⟨z,hz,rfl⟩:=yAr.mp hv;rw [zZC];intro e;have e:z=mkS l:=by simpa using e
  exact ho z hz (by rw [e])
def zaQ {n:Nat}(f:Nat->List Nat)(h1:1<=n)(h12:n<=12)(hn:∀ k,k<n->ZC1 (.str (mkS (f k)))=true)(hd:∀ j k,j<k->k<n->f j≠f k) :
  ZFY (some ((eAJ n).map λk=>V.str (mkS (f k))))=true:=by
 have el:((eAJ n).map λk=>V.str (mkS (f k))).length=n:=by simp
 have e0:ZFY (some ((eAJ n).map λk=>V.str (mkS (f k))))=(decide (1<=(((eAJ n).map λk=>V.str (mkS (f k))).length:Int))&&decide ((((eAJ n).map λk=>V.str (mkS (f k))).length:Int)<=12)&&(((eAJ n).map λk=>V.str (mkS (f k))).all ZC1&&decide ((ZBW (((eAJ n).map λk=>V.str (mkS (f k))).map λv=>.inr (ZAM v))).length=((eAJ n).map λk=>V.str (mkS (f k))).length))):=rfl;rw [e0,el,yAN,yAN,yAN];refine#[#[yAJ oz,yAJ oz],?_,yAJ ?_]
 ·rw [yBA]
  intro v hv;obtain ⟨k,hk,rfl⟩:=yAr.mp hv;exact hn k (yBC.mp hk)
 ·have em:(((eAJ n).map λk=>V.str (mkS (f k))).map λv=>(.inr (ZAM v):Key))=(eAJ n).map λk=>(.inr (mkS (f k)):Key):=by rw [yCA];rfl
  rw [em];have hl:((eAJ n).map λk=>(.inr (mkS (f k)):Key)).length=n:=by simp
  rw [(zJN _ _ rfl).mpr ?_,hl];refine yBl.mpr (List.Pairwise.imp_of_mem ?_ (List.pairwise_lt_range (n:=n)));intro j k hj hk hlt e;have e:mkS (f j)=mkS (f k):=by injection e
  exact hd j k hlt (yBC.mp hk) (zZJ e)
def ZeL:List Nat:=LET.cps.toList
def zU0 {X:Cx}{K:Frag}(hK:X.K=K):IxR X (KB5 K):=by subst hK;exact zAJ
theorem UAG.same2 {H:Hp}{b D:Addr}{o:HO}(h:UAG H b)(n:b≠D):UAG (upd H D o) b:=let ⟨d,s,c,h1,h2⟩:=h;#[d,s,c,by rw [zA6 n];exact h1,h2]
theorem UAG.ne2 {H:Hp}{b D:Addr}(h:UAG H b)(n:b≠D):b≠D:=n
structure MsOk (n:Nat)(ms:List Int):Prop where
 nd:ms.Nodup
 ok:∀ m∈ms,0<=m/\m<2^n
theorem MsOk.put {n:Nat}{ms:List Int}{m:Int}(h:MsOk n ms)(h0:0<=m)(h1:m<2^n):MsOk n (if m∈ms then ms else ms++[m]):=by
 split
 ·exact h
 ·rename_i hm
  refine#[?_,λx hx=>?_]
  ·rw [yCG]
   exact#[h.nd,by simp,λa ha b hb e=>hm (by rw [yAE.mp hb] at e;rw [<- e];exact ha)]
  ·rcases yAb.mp hx with z|z
   ·exact h.ok x z
   ·rw [yAE.mp z];exact#[h0,h1]
def zMB (x:Nat):Builtin.bitNot ((x:Nat):Int)=Int.negSucc x:=by
 unfold Builtin.bitNot;lia
def zLY (x:Nat):Builtin.bitNot (Int.negSucc x)=((x:Nat):Int):=by
 unfold Builtin.bitNot;lia
def zbN (x y:Nat):Builtin.bitOr ((x:Nat):Int) ((y:Nat):Int)=((x ||| y:Nat):Int):=by
 unfold Builtin.bitOr;rw [zMB,zMB];have e:eA3 (Int.negSucc x) (Int.negSucc y)=Builtin.bitNot (((Builtin.bitNot (Int.negSucc x)).toNat ||| (Builtin.bitNot (Int.negSucc y)).toNat:Nat):Int):=rfl;rw [e,zLY,zLY,yAW,yAW,zMB,zLY]
def zbU {n:Nat}{a b:Int}(a0:0<=a)(a1:a<2^n)(b0:0<=b):0<=eA3 a b/\eA3 a b<2^n:=by
 obtain ⟨x,rfl⟩:=yAR a0;obtain ⟨y,rfl⟩:=yAR b0;have hx:x<2^n:=by exact_mod_cast a1
 have e:eA3 ((x:Nat):Int) ((y:Nat):Int)=((x &&& y:Nat):Int):=rfl;rw [e];refine#[yBw _,?_]
 have:x &&& y<2^n:=yDo Nat.and_le_left hx
 exact_mod_cast this
theorem pow_pos (n:Nat):(0:Int)<2^n:=Int.pow_pos dQ
def JC4:=∀ b n,(vs=[.ref b,.int ((n:Nat):Int)])->1<=n->n<=12->UAG H b->(∀ D H' ms,H D=none->H' D=some (.lst (IV ms))->ms.length<=11->MsOk n ms->UAG H' b->Away b H H'->Q (.ref D) H')->JC4 vs H Q E
def zM2:∀ (ms:List Int) (m:Int),inV (.int m) (IV ms)=decide (m∈ms)
 | [],m=>by simp [inV,IV]
 | c::r,m=>by
  show (eqV (.int c) (.int m)||inV (.int m) (IV r))=_;rw [zM2 r m,yAd,yCq,yAI,yAI,yAf];have e:eqV (.int c) (.int m)=(c==m):=rfl;rw [e,yAm]
  constructor
  ·rintro (h|h)
   ·exact .inl h.symm
   ·exact .inr h
  ·rintro (h|h)
   ·exact .inl h.symm
   ·exact .inr h
def zXD:∀ ms:List Int,(IV ms).all ZEN=true:=λms=>yBA.mpr λv hv=>by
 obtain ⟨m,_,rfl⟩:=yAr.mp hv;rfl
theorem MsOk.snoc {n:Nat}{ms:List Int}{m:Int}(h:MsOk n ms)(hm:m∉ms)(h0:0<=m)(h1:m<2^n):MsOk n (ms++[m]):=by
 have:=h.put h0 h1
 rw [yAT hm] at this;exact this
def zHC:UAC ["_law_box_here","_law_many","_law_found","_law_k","_law_mask"] ["_law_box_here","_law_many"] (ZA4 zQF):=by trivial
def zWL (F:Fun K "_law_masks" "_law_masks" zQF f fd)(T:Txt mg)(D1:Df 1 "_law_take" ["_law_box_here","_law_many"] JC2 a1 d1):Fk 2 f fd ["_law_box_here","_law_many"] JC4:=by
 refine fk F.okH zHC;obtain ⟨b,n,rfl,n1,n12,hb,q⟩:=h
 refine#[_,zIX (PS1.mk (kS9 2 zHC (zB1 zB5)))
  (zIX (zXL eAx rfl (zPE rfl T.range (zAI (zMP D1.ok hr rfl D1.m D1.k D1.b .nil zAT (zAI (PEH.mk (pv 0)) (zAI (zWN zAJ (zFC (zGA [.int 3,.int 6,.int 9,.int 12])) (PEH.mk (kq D1 hr #v[(pv 0),zA5])) (λ_ _=>rfl)) zC2))) zC2)) (kG9 3 zHC)
   (zA1 (kS9 4 zHC (kq D1 hr #v[(pv 0),(zAC zDF zA5 (pv 1))]))
   (zA1 (zAK (zA9 zC3 (kq D1 hr #v[(pv 0),zA5]) zA5 (zAB _)) (zA2 (kS9 4 zHC (zAC zBU (pv 4) (kq D1 hr #v[(pv 0),(zAC zDF zA5 (pv 1))])))) zA8)
   (zA2 (zAK (PW.pt (zEC (zA9 zCN (pv 4) (pv 2) (by with_unfolding_all rfl)) (zD6 (PW.pt (zGR (zA9 zJO (pv 4) zA5 (zAB _)) (zE9 (zA9 zC3 (kq D1 hr #v[(pv 0),zA5]) zA5 (zAB _))))))))
    (zA2 (zBC (zH4 yBU yBY yBX zBN (pv 2) #v[(pv 4)]))) zA8)))))
  (zVG (PS1.mk (zA7 (pv 2))))),?_]
 refine#[(by show 0<=eA5;decide),λd hd=>?_];have g1:=UAB hd (.lst []);have l1:(upd H d (.lst [])) d=some (.lst []):=zA0;have nd:d≠b:=(hb.ne hd).symm;have b1:=hb.same g1;have a1:Away b H (upd H d (.lst [])):=zAE g1;generalize upd H d (.lst [])=H1 at g1 l1 b1 a1 ⊢;refine#[_,rfl,(by show 4<=eA5;decide),λl hl=>?_];have b3:=b1.same (UAB hl (.lst [.int 3,.int 6,.int 9,.int 12]));have nl:l≠b:=(b1.ne hl).symm;refine#[_,rfl,b,4,rfl,dQ,dQ,b3,λr H4 r0 r1 b4 t4=>?_];have a4:Away b H H4:=(a1.trans (zAE (UAB hl _))).trans t4.away;have l4:H4 d=some (.lst []):=(t4 d nd).trans (UAB hl _ _ _ l1);obtain ⟨v,hv,ha⟩:=zS3 (ms:=[3,6,9,12]) r0 (by show r<4;lia)
 have hv':3<=v/\v<=12:=by
  simp only [yAf,yBp,yDa] at hv;lia
 refine#[l,_,_,_,rfl,rfl,SqL.of ((t4 l nl).trans zA0),ha,b,v,rfl,oz,oz,b4,λtn H5 tn0 tn1 b5 t5=>#[tn,rfl,oz,oz,?_]];have a5:=a4.trans t5.away;have l5:=(t5 d nd).trans l4;have hsh:∀ {k:Int},0<=k->k<=12->ZXA 1 k:=λh0 h1=>#[h0,oz,dQ];have es:(1:Int)*2^((n:Nat):Int).toNat=2^n:=by rw [yAW,yCe]
 have h4096:=zKH n12;have hpos:=pow_pos n;have s1000:1000<eA5:=by decide
 have hdH:H d=none:=hd;refine zCD (λi σ H'=>∃ ms k m,σ=[some (.ref b),some (.int ((n:Nat):Int)),some (.ref d),k,m]/\Away b H H'/\UAG H' b/\H' d=some (.lst (IV ms))/\MsOk n ms/\ms.length<=i) #[[],_,_,rfl,a5,b5,l5,#[.nil,λ_ h=>nomatch h],yAF _] (λi σ H' hi hP=>?_) (λσ H' hP=>?_)
 ·obtain ⟨ms,k,m,rfl,aw,bx,hd',ok,hlen⟩:=hP
  have hi12:i<12:=by lia
  refine#[_,rfl,_,rfl,_,_,rfl,rfl,hsh oz oz,b,_,rfl,(by rw [es];exact hpos),(by rw [es];lia),bx,λm1 H6 m0 m1' b6 t6=>?_];rw [es] at m1';have a6:=aw.trans t6.away;have l6:=(t6 d nd).trans hd';refine#[_,rfl,b,2,rfl,dQ,dQ,b6,λc H7 c0 c1 b7 t7=>?_];have a7:=a6.trans t7.away;have l7:=(t7 d nd).trans l6;have skip:∀ (mm:Int) (H9:Hp),Away b H H9->UAG H9 b->H9 d=some (.lst (IV ms))->∃ ms' k' m',[some (V.ref b),some (.int ((n:Nat):Int)),some (.ref d),some (.int (0+(i:Int))),some (.int mm)]=[some (.ref b),some (.int ((n:Nat):Int)),some (.ref d),k',m']/\Away b H H9/\UAG H9 b/\H9 d=some (.lst (IV ms'))/\MsOk n ms'/\ms'.length<=i+1:=λmm H9 a9 b9 l9=>#[ms,_,_,rfl,a9,b9,l9,ok,oz]
  have app:∀ (mm:Int) (H9:Hp),0<=mm->mm<2^n->mm∉ms->Away b H H9->UAG H9 b->H9 d=some (.lst (IV ms))->∃ ms' k' m',[some (V.ref b),some (.int ((n:Nat):Int)),some (.ref d),some (.int (0+(i:Int))),some (.int mm)]=[some (.ref b),some (.int ((n:Nat):Int)),some (.ref d),k',m']/\Away b H (upd H9 d (.lst (IV ms++[.int mm])))/\UAG (upd H9 d (.lst (IV ms++[.int mm]))) b/\(upd H9 d (.lst (IV ms++[.int mm]))) d=some (.lst (IV ms'))/\MsOk n ms'/\ms'.length<=i+1:=λmm H9 m0 m1 hm a9 b9 l9=>by
   refine#[ms++[mm],_,_,rfl,λc o hc n'=>?_,b9.same2 nd.symm,?_,ok.snoc hm m0 m1,?_]
   ·rw [zA6 (zA3 hc hdH)];exact a9 c o hc n'
   ·rw [zA0];unfold IV;rw [yAQ];rfl
   ·rw [yAV,yBZ];lia
  have small:(IV ms).length<eA5:=by unfold IV;rw [yAA];lia
  refine#[rfl,_,rfl,?_];apply L2T.share
  case use=>
   intro key;refine zD2 (λe=>?_) (λe=>?_)
   case refine_1=>
    refine#[_,rfl,_,rfl,_,rfl,_,_,rfl,rfl,hsh oz oz,b,_,rfl,(by rw [es];exact hpos),(by rw [es];lia),b7,λm2 H8 m20 m21 b8 t8=>#[_,_,rfl,rfl,?_]];obtain ⟨o0,o1⟩:=zbU (n:=n) m0 m1' m20;have a8:=a7.trans t8.away;have l8:=(t8 d nd).trans l7;clear t8;dsimp only;generalize eA3 m1 m2=mm at o0 o1 ⊢;show ZFS 4 (.int mm) [some (.ref b),some (.int n),some (.ref d),some (.int (0+i)),some (.int m1)] H8 _;revert o0 o1 a8 b8 l8;revert mm H8;exact key.k
   case refine_2=>
    dsimp only;exact key.k H7 m1 b7 a7 l7 m0 m1'
  intro H8 mm b8 a8 l8 o0 o1;refine#[_,rfl,_,rfl,d,IV ms,rfl,.inl (SqL.of l8),rfl,zXD ms,_,rfl,?_];rw [yAS rfl,zM2];refine zD2 (λhin=>?_) (λhin=>?_)
  ·have hin:mm∉ms:=by simpa using hin
   refine#[_,rfl,_,_,rfl,rfl,_,rfl,?_];refine zD2 (λg=>?_) (λg=>?_)
   ·refine zCQ #[_,rfl,.inl #[rfl,_,SqL.of l8],_,rfl,d,_,_,rfl,rfl,l8,small,?_]
    exact app mm H8 o0 o1 hin a8 b8 l8
   ·refine#[_,rfl,b,4,rfl,dQ,dQ,b8,λr9 H9 r90 r91 b9 t9=>#[rfl,_,rfl,?_]]
    have a9:=a8.trans t9.away;have l9:=(t9 d nd).trans l8;refine zD2 (λg2=>?_) (λg2=>?_)
    ·refine#[_,rfl,.inl #[rfl,_,SqL.of l9],_,rfl,d,_,_,rfl,rfl,l9,small,?_]
     exact app mm H9 o0 o1 hin a9 b9 l9
    ·exact skip mm H9 a9 b9 l9
  ·exact zAY (skip mm H8 a8 b8 l8)
 ·obtain ⟨ms,k,m,rfl,aw,bx,hd',ok,hlen⟩:=hP
  refine#[_,rfl,?_];exact q d H' ms hdH hd' oz ok bx aw
def zY4 (x:V):(kOf x).1=((kOf x).2.length:Int):=by cases x<;>rfl
def JC5 (K:Frag):=∀ m,vs=[.int m]->OkM m->(∀ r H',Same H H'->DV K H' (.ref r) (ZTZ (kOf (.int m)))->Q (.ref r) H')->JC5 K vs H Q E
def zMW {m:Int}{i:Nat}:(decide (V.int (eA3 (m / 2^((0+(i:Int))).toNat) 1)=V.int 1))=bit m i:=by
 have e:(0+(i:Int)).toNat=i:=by lia
 rw [e,PyProof.Rows.bitAnd_m1];unfold bit;rw [yAd,yAI,yAI]
 constructor
 ·intro h;injection h
 ·intro h;rw [h]
def zTA {m:Int}{i:Nat}:(decide (V.int (eA3 (m / 2^((i:Nat):Int).toNat) 1)=V.int 1))=bit m i:=by
 have:=zMW (m:=m) (i:=i)
 rw [yEY] at this;exact this
theorem UAy:UAC ["_law_mask","_law_numbers"] ["_law_mask"] (ZA4 zZS):=by trivial
def za7 (F:Fun K "_law_key" "_law_key" zZS f fd)(T:Txt mg):Fk 1 f fd ["_law_mask"] (JC5 K):=by
 refine fk F.ok UAy;obtain ⟨m,rfl,hm,q⟩:=h
 refine#[_,zA1 (zE0 (i:=1) (xs:=["_law_k"]) (fv:=[("_law_mask",0)]) UAy.nd rfl rfl rfl dk #[#[rfl,Or.inl rfl,rfl],trivial] (zBG rfl T.range #v[zA5]) (λ_ _ _ _ _=>zAG (i:=0) (ndT dk) rfl (Or.inl rfl))
   (λ_ _ _ _ _=>zDP (zA9 zC3 (zAC zBU (zAC zNS (pv 1) (pv 0)) zA5) zA5 (zAB _))) (λ_ _ _ _ _=>pv 0))
  (zA2 (zA7 (zB9 #v[(kL9 (pv 1)),(pv 1)]))),?_]
 refine#[12,rfl,dQ,dQ,?_];refine zE5 (λi D H'=>Same H H'/\H' D=some (.lst ((ZBZ m i).map V.int))) (λD hD=>#[UAB hD _,zA0]) (λi D H' hD hi hP=>?_) (λD H' hD hP=>?_)
 ·obtain ⟨g,hl⟩:=hP
  have hi:i<12:=hi;refine#[rfl,_,rfl,_,rfl,_,_,rfl,rfl,(by show (0:Int)<=0+(i:Int);lia),_,_,rfl,rfl,rfl,_,rfl,?_];rw [zMW];have hz:=zC9 m i;refine zD2 (λc=>?_) (λc=>?_)
  ·refine#[_,rfl,_,hl,?_,λb o e=>?_,?_]
   ·rw [yAA]
    have:1000<eA5:=by decide
    lia
   ·rw [zA6 (zA3 e hD)];exact g _ _ e
   ·rw [zA0,zBR,yAS c,yAQ,yEY];rfl
  ·refine#[g,?_]
   rw [zBR,yAT c,yBh];exact hl
 ·obtain ⟨g,hl⟩:=hP
  have hl:H' D=some (.lst ((ZDJ m).map V.int)):=hl;refine#[_,rfl,D,_,rfl,.inl (SqL.of hl),_,rfl,(by show 2<=eA5;decide),λu hu=>?_];refine q u _ (g.trans (UAB hu _)) ?_;rw [yAA];exact .tup (SqT.of zA0) (.cons (.int _) (.cons (.lst (SqL.of (UAB hu _ _ _ hl)) (DVs.ints _)) .nil))
def JC6 (K:Frag):=∀ a xs m,vs=[.ref a,.int m]->Sq K H a xs->xs.length<=12->0<=m->m<2^xs.length->(∀ D H',H D=none->Same H H'->H' D=some (.lst (ZBT xs m))->Q (.ref D) H')->JC6 K vs H Q E
def zdM:UAC ["_law_names_here","_law_mask"] ["_law_names_here","_law_mask"] (ZA4 zdP):=by trivial
def zbL (F:Fun K "_law_set" "_law_set" zdP f fd)(me:mg "enumerate"=none):Fk 1 f fd ["_law_names_here","_law_mask"] (JC6 K):=by
 refine fk F.ok zdM;obtain ⟨a,xs,m,rfl,sq,h12,m0,m1,q⟩:=h
 refine#[_,zA2 (zA7 (zAQ (xs:=["_law_k","_law_name"]) (fv:=[("_law_mask",1)]) rfl dk #[#[rfl,Or.inl rfl,rfl],trivial] (zF7 rfl me #v[(pv 0)])
   (λ_ _ _ _ _=>zLE (K:=K) (n:=2) rfl rfl (zBJ (zAG (i:=0) (ndT dk) rfl (Or.inl rfl)) (zBJ (zAG (i:=1) (ndT dk) rfl (Or.inl rfl)) zFP)))
   (λ_ _ _ _ _=>zDP (zA9 zC3 (zAC zBU (zAC zNS (pv 2) (pv 0)) zA5) zA5 (zAB _))) (λ_ _ _ _ _=>pv 1))),?_]
 refine#[_,rfl,a,rfl,?_];refine zKO (ys:=xs) sq (λi D H'=>Same H H'/\H' D=some (.lst ((ZBZ m i).map λk=>xs.getD k.toNat .non))) (λD hD=>#[UAB hD _,zA0]) (λi D H' hD hP=>hP.1.at1 a) (λi D H' x r hD hi hx hP hr'=>?_) (λD H' hD hP=>?_)
 ·obtain ⟨g,hl⟩:=hP
  have g2:=UAB hr' (.tup [.int (i:Nat),x]);have c2:(upd H' r (.tup [.int (i:Nat),x])) r=some (.tup [.int (i:Nat),x]):=zA0;generalize upd H' r (.tup [.int (i:Nat),x])=H2 at g2 c2 ⊢;refine#[r,_,rfl,SqT.of c2,rfl,_,_,rfl,_,_,rfl,rfl,rfl,_,rfl,_,rfl,_,_,rfl,rfl,(by show (0:Int)<=((i:Nat):Int);lia),_,_,rfl,rfl,rfl,_,rfl,?_];rw [zTA];have hz:=zC9 m i;refine zD2 (λc=>?_) (λc=>?_)
  ·refine#[_,rfl,_,g2 _ _ hl,?_,λb o e=>?_,?_]
   ·rw [yAA]
    have:1000<eA5:=by decide
    lia
   ·rw [zA6 (zA3 e hD)];exact g2 _ _ (g _ _ e)
   ·rw [zA0,zBR,yAS c,yAQ]
    have:xs.getD ((i:Int)).toNat .non=x:=by rw [yAW,yBS,hx];rfl
    show _=some (HO.lst (_++[xs.getD ((i:Int)).toNat .non]));rw [this]
  ·refine#[g.trans g2,?_]
   rw [zBR,yAT c,yBh];exact g2 _ _ hl
 ·obtain ⟨g,hl⟩:=hP
  have e:m / 2^xs.length=0:=yDN m0 m1;rw [zDW m0 oz h12] at hl;exact q D H' hD g hl
def dS (xs:List V):List PyData:=xs.map λv=>.str (ZAM v)
def Strs (xs:List V):Prop:=∀ v∈xs,v=kV (.inr (ZAM v))/\eAq (ZAM v)=true/\(ZAM v).length<=6
theorem GN.strs {xs:List V}(h:GN xs):Strs xs:=λv hv=>#[h.str v hv,h.sok v hv,h.six v hv]
def zFI {K:Frag}{H:Hp}:∀ {xs:List V},Strs xs->DVs K H xs (dS xs)
 | [],_=>.nil
 | v::r,h=>by
  have e:v=.str (ZAM v):=(h v (yAU ..)).1;refine .cons ?_ (zFI λy hy=>h y (yAL _ hy));rw [e];exact .str _
def zDY:∀ {xs:List V},Strs xs->eAk (dS xs)=true
 | [],_=>rfl
 | v::r,h=>by
  show (eAq (ZAM v)&&eAk (dS r))=true;rw [(h v (yAU ..)).2.1,zDY λy hy=>h y (yAL _ hy)];rfl
def zIB:∀ (l:List V) (i:Nat) (h:i<l.length),(l[i]::l.eraseIdx i).Perm l
 | a::r,0,_=>.refl _
 | a::r,i+1,h=>by
  have hr:i<r.length:=by simpa using h
  have q:=zIB r i hr;exact (List.Perm.swap a (r[i]'hr) _).trans (q.cons a)
def zDX:∀ xs:List V,eAl (dS xs)<=1
 | []=>by simp [dS,eAl]
 | m::r=>by
  have:=zDX r
  simp only [dS,yAq,eAl,eAm] at this ⊢;lia
def UAl (v:V):Prop:=∃ d:PyData,(∀ (K:Frag) (H:Hp),DV K H v d)/\d.canLay0=true/\d.depth<=1
theorem UAl.int (n:Int):UAl (.int n):=#[.int n,λ_ _=>.int n,rfl,by simp [eAm]]
theorem Strs.plain {xs:List V}(h:Strs xs):∀ v∈xs,UAl v:=λv hv=>by
 obtain ⟨e,so,_⟩:=h v hv;rw [e];exact#[.str _,λ_ _=>.str _,so,by simp [eAm]]
def zOF {xs:List V}(h:∀ v∈xs,UAl v):∃ ds:List PyData,(∀ (K:Frag) (H:Hp),DVs K H xs ds)/\eAk ds=true/\eAl ds<=1/\ds.isEmpty=xs.isEmpty:=by
 induction xs with
 | nil=>exact#[[],λ_ _=>.nil,rfl,by simp [eAl],rfl]
 | cons v r ih=>
  obtain ⟨d,h1,h2,h3⟩:=h v (yAU ..);obtain ⟨ds,k1,k2,k3,_⟩:=ih λy hy=>h y (yAL _ hy);refine#[d::ds,λK H=>.cons (h1 K H) (k1 K H),?_,?_,rfl]
  ·show (d.canLay0&&eAk ds)=true
   rw [h2,k2];rfl
  ·simp only [eAl];lia
def zVL (ds:List PyData):eAh (.list ds) (.list [])=ds.isEmpty:=by
 cases ds with
 | nil=>rfl
 | cons a r=>rfl
def JC7:=∀ b a zs,vs=[.ref b,.ref a]->UAG H b->H a=some (.lst zs)->zs.length<=1000->(∀ v∈zs,UAl v)->(∀ D H' ys,H D=none->H' D=some (.lst ys)->ys.Perm zs->UAG H' b->Away b H H'->Q (.ref D) H')->JC7 vs H Q E
def zM5:UAC ["_law_box_here","_law_some","_law_left","_law_found"] ["_law_box_here","_law_some"] (ZA4 zET):=by trivial
def zW3 (F:Fun K "_law_mixed" "_law_mixed" zET f fd)(T:Txt mg)(D1:Df 1 "_law_take" ["_law_box_here","_law_many"] JC2 a1 d1):Fk 2 f fd ["_law_box_here","_law_some"] JC7:=by
 refine fk F.ok zM5;obtain ⟨b,a,zs,rfl,hb,ha,hz,hs,q⟩:=h
 refine#[_,zA1 (kS9 2 zM5 (zB6 zDM rfl T.list yBQ #v[(pv 1)]))
  (zA1 (kS9 3 zM5 (zB1 zB5))
  (zA1 (zN6 eAx (zA9 (zFZ hr) (pv 2) (zB1 zB5) (zAB _))
   (zA2 (zBC (zH4 yBU yBY yBX zBN (pv 3) #v[(zH4 yBU PySem.F.slot_list_pop PySem.F.type_list_pop zUA (pv 2) #v[(kq D1 hr #v[(pv 0),(kL9 (pv 2))])])]))))
  (zA2 (zA7 (pv 3))))),?_]
 refine#[_,rfl,a,zs,rfl,.inl (SqL.of ha),λl hl=>#[(by show 0<=eA5;decide),λfo hfo=>?_]];have g1:Same H (upd (upd H l (.lst zs)) fo (.lst [])):=(UAB hl _).trans (UAB hfo _);have fl:fo≠l:=λe=>by rw [e,zA0] at hfo;cases hfo
 have l1:(upd (upd H l (.lst zs)) fo (.lst [])) l=some (.lst zs):=by rw [zA6 fl.symm,zA0]
 have f1:(upd (upd H l (.lst zs)) fo (.lst [])) fo=some (.lst []):=zA0;have foH:H fo=none:=by rw [zA6 fl] at hfo;exact hfo
 have nbl:b≠l:=hb.ne hl;have nbf:b≠fo:=hb.ne foH;generalize upd (upd H l (.lst zs)) fo (.lst [])=H1 at g1 l1 f1 ⊢;refine#[λk σ H'=>∃ ls fs,σ=[some (.ref b),some (.ref a),some (.ref l),some (.ref fo)]/\k=ls.length/\Away b H H'/\UAG H' b/\H' l=some (.lst ls)/\H' fo=some (.lst fs)/\(fs++ls).Perm zs,#[zs.length,zs,[],rfl,rfl,zAE g1,hb.same g1,l1,f1,eAp _],?_]
 rintro k σ H' ⟨ls,fs,rfl,rfl,aw,bx,hl',hf',pm⟩
 have hlen:fs.length+ls.length=zs.length:=by rw [<- pm.length_eq,yAV]
 obtain ⟨ds,dv,dl,dd,de⟩:=zOF (xs:=ls) λv hv=>hs v (pm.mem_iff.mp (yAY _ hv));refine#[_,rfl,(by show 0<=eA5;decide),λe he=>?_];have ge:=UAB he (.lst []);have ce:(upd H' e (.lst [])) e=some (.lst []):=zA0;have be:b≠e:=bx.ne he;generalize upd H' e (.lst [])=H2 at ge ce ⊢
 have dep:(PyData.list ds).depth<=100:=by
  simp only [eAm];lia
 refine#[_,_,.lst (SqL.of (ge _ _ hl')) (dv _ _),.lst (SqL.of ce) .nil,dl,rfl,dep,_,rfl,?_];rw [zVL,de]
 cases ls with
 | nil=>
  refine zAY #[_,rfl,?_];rw [yBh] at pm;exact q fo H2 fs foH (ge _ _ hf') pm (bx.same ge) (aw.trans (zAE ge))
 | cons c r=>
  refine zCQ ?_;have bx2:=bx.same ge;have hl2:=ge _ _ hl';have hf2:=ge _ _ hf';refine#[λσ' H3=>∃ k',k'<(c::r).length/\∃ ls fs,σ'=[some (.ref b),some (.ref a),some (.ref l),some (.ref fo)]/\k'=ls.length/\Away b H H3/\UAG H3 b/\H3 l=some (.lst ls)/\H3 fo=some (.lst fs)/\(fs++ls).Perm zs,λσ' H3 h=>h,?_];refine#[_,rfl,.inl #[rfl,_,SqL.of hf2],_,rfl,.inl #[rfl,_,SqL.of hl2],_,rfl,_,rfl,l,_,rfl,.inl (SqL.of hl2),b,_,rfl,by simp,by simp only [yBK] at hlen ⊢;lia,bx2,λi H3 i0 i1 b3 t3=>?_];have hl3:H3 l=some (.lst (c::r)):=(t3 l nbl.symm).trans hl2;have hf3:H3 fo=some (.lst fs):=(t3 fo nbf.symm).trans hf2;have hk:i.toNat<(c::r).length:=by lia
  have i1':i<((c::r).length:Int):=i1;have hsi:seqIndex? i (c::r).length=some i.toNat:=seqIndex_of i0 i1';refine#[l,c::r,i,i.toNat,(c::r)[i.toNat],rfl,rfl,hl3,oz,oz,hsi,by simp [hk],?_];refine#[fo,fs,_,rfl,rfl,by rw [zA6 fl];exact hf3,by simp only [yBK] at hlen;exact zKJ oz,?_];refine#[((c::r).eraseIdx i.toNat).length,by rw [List.length_eraseIdx_of_lt hk];simp,_,_,rfl,rfl,λx o hx n=>?_,?_,by rw [zA6 fl.symm,zA0],by rw [zA0],?_]
  ·rw [zA6 (zA3 hx foH),zA6 (zA3 hx hl)]
   exact ((aw.trans (zAE ge)).trans t3.away) x o hx n
  ·exact (b3.same2 nbl).same2 nbf
  ·refine List.Perm.trans ?_ pm
   rw [yBT];refine List.Perm.append_left fs ?_;exact zIB _ _ hk
def zNI {α β:Type}{f:α->β}{ys zs:List β}(h:ys.Perm zs):∀ l:List α,zs=l.map f->∃ l':List α,l'.Perm l/\ys=l'.map f:=by
 induction h with
 | nil=>
  intro l e
  cases l with
  | nil=>exact#[[],eAp _,rfl]
  | cons _ _=>cases e
 | cons x _ ih=>
  intro l e
  cases l with
  | nil=>cases e
  | cons a l=>
   injection e with e1 e2
   obtain ⟨l',p,q⟩:=ih l e2;exact#[a::l',p.cons a,by rw [yAq,<- e1,q]]
 | swap x y r=>
  intro l e
  match l,e with
  | a::c::l,e=>
   injection e with e1 e2
   injection e2 with e2 e3
   exact#[c::a::l,.swap a c l,by rw [yAq,yAq,<- e1,<- e2,<- e3]]
 | trans _ _ ih1 ih2=>
  intro l e;obtain ⟨l2,p2,q2⟩:=ih2 l e;obtain ⟨l1,p1,q1⟩:=ih1 l2 q2;exact#[l1,p1.trans p2,q1]
def zKN:∀ (ix:List Nat) (c:Nat),ix.foldl (λacc k=>acc+2^k) c=c+(ix.map (2^·)).sum
 | [],c=>by simp
 | k::r,c=>by rw [yEX,zKN r,yAq,yEG];lia
def zJP (ix:List Nat):maskN ix=(ix.map (2^·)).sum:=by unfold maskN;rw [zKN];lia
def zVC {a b:List Nat}(h:a.Perm b):a.sum=b.sum:=by
 induction h with
 | nil=>rfl
 | cons x _ ih=>rw [yEG,yEG,ih]
 | swap x y r=>simp only [yEG];lia
 | trans _ _ h1 h2=>exact h1.trans h2
def zOA {a b:List Nat}(h:a.Perm b):maskN a=maskN b:=by rw [zJP,zJP];exact zVC (h.map _)
def ZBS (m:Int):List Nat:=(ZDJ m).map Int.toNat
def zNZ {m:Int}(h0:0<=m):∀ i:Nat,((maskN ((ZBZ m i).map Int.toNat):Nat):Int)=m % 2^i
 | 0=>by
  show ((0:Nat):Int)=m % 2^0;rw [Int.pow_zero];lia
 | i+1=>by
  have ih:=zNZ h0 i;rw [zBR,yAQ];have hp:=pow_pos i
  have e:m % 2^(i+1)=m % 2^i+2^i*(m / 2^i % 2):=by
   have h1:=Int.emod_add_mul_ediv m (2^i);have h2:=Int.emod_add_mul_ediv (m / 2^i) 2;have h3:=yCW (m / 2^i) (b:=2) dQ;have h4:=yCC (m / 2^i) (b:=2) dQ;have h5:=yCW m (b:=2^i) oz;have h6:=yCC m hp
   have key:m=(m % 2^i+2^i*(m / 2^i % 2))+2^(i+1)*(m / 2^i / 2):=by
    rw [Int.pow_succ]
    have:(2:Int)^i*2*(m / 2^i / 2)=2^i*(2*(m / 2^i / 2)):=by rw [Int.mul_assoc]
    rw [this,Int.add_assoc,<- Int.mul_add,h2,h1]
   have hlt:m % 2^i+2^i*(m / 2^i % 2)<2^(i+1):=by
    rw [Int.pow_succ];have h7:m / 2^i % 2=0 \/ m / 2^i % 2=1:=by lia
    rcases h7 with z|z
    ·rw [z];lia
    ·rw [z];lia
   have hge:0<=m % 2^i+2^i*(m / 2^i % 2):=by
    have:=Int.mul_nonneg (Int.le_of_lt hp) h3
    lia
   conv=>lhs;rw [key]
   rw [Int.add_mul_emod_self_left,Int.emod_eq_of_lt hge hlt]
  have hn:(2:Int)^i=((2^i:Nat):Int):=by rw [yBi];rfl
  by_cases hb:bit m i=true
  ·rw [yAS hb]
   show ((maskN (_++[((i:Nat):Int).toNat]):Nat):Int)=_;rw [yAW,zE6,e];unfold bit at hb;rw [yAZ hb,Int.mul_one,<- ih];rw [hn];lia
  ·rw [yAT hb,yEW,yBh,e,ih]
   unfold bit at hb;have h3:=yCW (m / 2^i) (b:=2) dQ;have h4:=yCC (m / 2^i) (b:=2) dQ;have h7:m / 2^i % 2≠1:=λz=>hb (yAJ z);rw [show m / 2^i % 2=0 by lia,Int.mul_zero,Int.add_zero]
def zCT {m:Int}(h0:0<=m)(h1:m<4096):((maskN (ZBS m):Nat):Int)=m:=by
 have:=zNZ h0 12
 rw [Int.emod_eq_of_lt h0 (by simpa using h1)] at this;exact this
def zJU (m:Int)(i:Nat):(ZBZ m i).map Int.toNat=(eAJ i).filter (bit m):=by
 unfold ZBZ;rw [yCA]
 have:(Int.toNat ∘ λ(k:Nat)=>(k:Int))=id:=by funext k;simp
 rw [this,List.map_id]
def zMX (m:Int):(ZBS m).Nodup:=by
 unfold ZBS ZDJ;rw [zJU];exact List.Nodup.sublist yCb List.nodup_range
def zNA {xs:List V}{m:Int}(h12:xs.length<=12)(h0:0<=m)(h1:m<2^xs.length){k:Nat}(hk:k∈ZBS m):k<xs.length:=by
 obtain ⟨j,hj,rfl⟩:=yAr.mp hk
 have:=zS5 h12 h0 h1 hj
 lia
def zME (xs:List V)(m:Int):ZBT xs m=(ZBS m).map λk=>xs.getD k .non:=by
 unfold ZBT ZBS;rw [yCA];rfl
def zWO {H:Hp}{xs:List V}{v:V}{ys:List V}{m:Int}(hG:GN xs)(h0:0<=m)(h1:m<2^xs.length)(hr:Row H v (some ys))(hp:ys.Perm (ZBT xs m)):∃ ix,UAq H xs v ix/\((maskN ix:Nat):Int)=m:=by
 rw [zME] at hp;obtain ⟨ix,p,e⟩:=zNI hp _ rfl;have h4:=zKH hG.hi;refine#[ix,#[ys,hr,p.nodup_iff.mpr (zMX m),by rw [e,yAA],λj k hj=>?_],by rw [zOA p];exact zCT h0 oz];have hk:k<xs.length:=zNA hG.hi h0 h1 (p.mem_iff.mp (yAk hj));refine#[xs[k],yAB hk,?_];rw [e,yAa,hj,yCm,yBS,yAB hk];rfl
def zUM {a b:Int}(a0:0<=a)(a1:a<4096)(b0:0<=b)(b1:b<4096)(h:ZDJ a=ZDJ b):a=b:=by
 rw [<- zCT a0 a1,<- zCT b0 b1];unfold ZBS;rw [h]
def zVK {x y:Int×List Int}(h1:ZBQ x y=false)(h2:ZBQ y x=false):x=y:=by
 unfold ZBQ at h1 h2
 by_cases e:x.1=y.1
 ·rw [yAS e] at h1
  rw [yAS e.symm] at h2;exact Prod.ext e (zIP _ _ h1 h2)
 ·rw [yAT e] at h1
  rw [yAT (λz=>e z.symm)] at h2
  have:=yBO h1
  have:=yBO h2
  lia
def zDT {n:Nat}(hn:n<=12):∀ {as bs:List Int},as.Perm bs->(∀ m∈as,0<=m/\m<2^n)->as.Pairwise (λa b=>ZBQ (kOf (.int b)) (kOf (.int a))=false)->bs.Pairwise (λa b=>ZBQ (kOf (.int b)) (kOf (.int a))=false)->as=bs
 | [],bs,p,_,_,_=>by rw [p.symm.eq_nil]
 | a::as,[],p,_,_,_=>absurd p.length_eq (by simp)
 | a::as,b::bs,p,ok,sa,sb=>by
  have h4:=zKH hn;have okb:∀ m∈b::bs,0<=m/\m<2^n:=λm hm=>ok m (p.mem_iff.mpr hm)
  have e:a=b:=by
   rw [yDH] at sa sb
   rcases yAf.mp (p.mem_iff.mp (yAU (a:=a) (l:=as))) with z|z
   ·exact z
   ·rcases yAf.mp (p.mem_iff.mpr (yAU (a:=b) (l:=bs))) with w|w
    ·exact w.symm
    ·have k1:=sa.1 b w
     have k2:=sb.1 a z;have e:=zVK k1 k2;have oa:=ok a (yAU ..);have ob:=okb b (yAU ..);have e2:ZDJ b=ZDJ a:=congrArg Prod.snd e;exact zUM oa.1 oz ob.1 oz e2.symm
  subst e;rw [zDT hn ((List.perm_cons a).mp p) (λm hm=>ok m (yAL _ hm)) (yDH.mp sa).2 (yDH.mp sb).2]
def zBY {xs:List V}{m:Int}(hG:GN xs)(h0:0<=m)(h1:m<2^xs.length):Strs (ZBT xs m):=λv hv=>by
 rw [zME] at hv;obtain ⟨k,hk,rfl⟩:=yAr.mp hv;have hk:=zNA hG.hi h0 h1 hk;have e:xs.getD k .non=xs[k]:=by rw [yBS,yAB hk];rfl
 rw [e];exact hG.strs _ (yAi hk)
def zDB (xs:List V)(m:Int):(ZBT xs m).length<=12:=by
 unfold ZBT;rw [yAA];exact zC9 m 12
def ZG3 (mask:Int)(ms:List Int):Option Int:=ms.find? λl=>decide (eA3 l mask=l)
def zQK {mask:Int}{ms:List Int}{i:Nat}(h:i<ms.length)(n:¬eA3 ms[i] mask=ms[i]):ZG3 mask (ms.drop i)=ZG3 mask (ms.drop (i+1)):=by
 rw [yAz h];unfold ZG3;rw [yDM (by simpa using n)]
def zUE {mask:Int}{ms:List Int}{i:Nat}(h:i<ms.length)(n:eA3 ms[i] mask=ms[i]):ZG3 mask (ms.drop i)=some ms[i]:=by
 rw [yAz h];unfold ZG3;rw [yDL (by simpa using n)]
def UAO (H:Hp)(Q:VK)(xs:List V):Option Int->Prop
 | none=>∀ H',Same H H'->Q .non H'
 | some m=>∀ D H',H D=none->Same H H'->H' D=some (.lst (ZBT xs m))->Q (.ref D) H'
theorem UAO.mono {H H1:Hp}{Q:VK}{xs:List V}(g:Same H H1):∀ {o:Option Int},UAO H Q xs o->UAO H1 Q xs o
 | none,h=>λH' g'=>h H' (g.trans g')
 | some _,h=>λD H' hD g' l=>h D H' (g.free hD) (g.trans g') l
def UAQ (H:Hp)(x:V)(xs:List V)(m:Int):Prop:=∃ ix,UAq H xs x ix/\((maskN ix:Nat):Int)=m
theorem UAQ.same {H H':Hp}{x:V}{xs:List V}{m:Int}(g:Same H H')(h:UAQ H x xs m):UAQ H' x xs m:=let ⟨ix,r,p⟩:=h;#[ix,r.same g,p]
theorem UAQ.of_perm {H:Hp}{x:V}{xs ys:List V}{m:Int}(hG:GN xs)(m0:0<=m)(m1:m<2^xs.length)(r:Row H x (some ys))(pm:ys.Perm (ZBT xs m)):UAQ H x xs m:=zWO hG m0 m1 r pm
def JC8 (CS C:Addr):=∀ p xs ms mask,vs=[.ref p,.int mask]->UAH CS C H p xs ms->Ord xs ms->UAO H Q xs (ZG3 mask ms)->JC8 CS C vs H Q E
def JC9 (CS C:Addr):=∀ p x xs ms m,vs=[.ref p,x]->UAH CS C H p xs ms->Ord xs ms->UAQ H x xs m->0<=m->m<2^xs.length->UAO H Q xs (ZG3 m ms)->JC9 CS C vs H Q E
def JD0 (CS C:Addr):=∀ p x xs ms m,vs=[.ref p,x]->UAH CS C H p xs ms->Ord xs ms->UAQ H x xs m->0<=m->m<2^xs.length->(∀ H',Same H H'->Q (.bl (ZG3 m ms).isSome) H')->JD0 CS C vs H Q E
def JD1 (CS C:Addr):=∀ p x xs ms m,vs=[.ref p,x]->UAH CS C H p xs ms->Ord xs ms->UAQ H x xs m->0<=m->m<2^xs.length->UAO H Q xs (ZG3 (eA4 (2^xs.length-1) m) ms)->JD1 CS C vs H Q E
def zR3:UAC ["self","mask","lot"] ["self","mask"] (ZA4 zQP):=by trivial
def zHL {x y:Int}:decide (V.int x=V.int y)=decide (x=y):=by
 rw [yAd,yAI,yAI];exact#[λh=>by injection h,λh=>by rw [h]]
def zVD (F:Fun K "first_lot" "System.first_lot" zQP f fd)(clS:Cls K CS)(nG:UAE K CS "ground")(nM:UAE K CS "masks")(cl:Cls K C)(M1:Meth K C "set_of" a1)(O1:Fk 3 a1 d1 ["self","mask"] (JB4 C))(b1:UAD K d1 ["self","mask"] []) :
  Fk 4 f fd ["self","mask"] (JC8 CS C):=by
 refine fk F.ok zR3;obtain ⟨p,xs,ms,mask,rfl,hS,hO,q⟩:=h;obtain ⟨dx,g,t,hp,hH,ht⟩:=id hS
 refine#[_,zA1 (zBK eAx rfl (zB2 (zAO (pv 0) rfl)) (kG9 2 zR3)
   (zA2 (zAK (zA9 zC3 (zAC zBU (pv 2) (pv 1)) (pv 2) (zAB _)) (zA2 (zA7 (zAS (zAO (pv 0) rfl) cl M1 O1 hr b1 .nil zAT #v[(pv 2)]))) zA8)))
  (zA2 (zA7 zBV)),?_]
 refine#[_,rfl,p,CS,dx,_,_,rfl,hp,clS,nM,rfl,t,rfl,?_]
 refine zC5 (K:=K) (ys:=IV ms) (.inr (SqT.of ht)) (λi σ H'=>∃ v2,σ=[some (.ref p),some (.int mask),v2]/\Same H H'/\ZG3 mask ms=ZG3 mask (ms.drop i)) #[_,rfl,λ_ _ h=>h,rfl]
  (λi σ H' hP=>?_) (λi σ H' x hi hx hP=>?_) (λσ H' hP=>?_)
 ·obtain ⟨_,_,g',_⟩:=hP
  exact g'.at1 t
 ·obtain ⟨v2,rfl,g1,e1⟩:=hP
  unfold IV at hx hi;rw [yAA] at hi;rw [yAa,yAB hi] at hx
  cases hx
  refine#[_,rfl,_,rfl,_,_,rfl,rfl,_,rfl,rfl,_,rfl,?_];rw [zHL];refine zD2 (λc=>?_) (λc=>?_)
  ·have c:=yAZ c
   rw [e1,zUE hi c] at q;have hH':=hH.same g1;obtain ⟨gx,t',d,h1,h2,h3⟩:=id hH';have m1:=hO.ok ms[i] (yAi hi);exact#[_,rfl,p,CS,dx,_,_,rfl,g1 _ _ hp,clS,nG,rfl,g,gx,_,rfl,h1,rfl,_,rfl,g,xs,ms[i],rfl,hH',hO.gn.hi,m1.1,m1.2,λD6 H6 hD6 g6 l6=>q D6 H6 (g1.free hD6) (g1.trans g6) l6]
  ·exact#[_,rfl,g1,by rw [e1,zQK hi (λz=>c (yAJ z))]]
 ·obtain ⟨v2,rfl,g1,e1⟩:=hP
  have el:(IV ms).length=ms.length:=by unfold IV;rw [yAA]
  rw [el,yDA] at e1;rw [e1] at q;exact q H' g1
def zSV:UAC ["self","names"] ["self","names"] (ZA4 zJ9):=by trivial
def zLS {H:Hp}{xs:List V}{x:V}{m:Int}(hx:UAQ H x xs m):∃ ys ix,Row H x (some ys)/\ix.Nodup/\ys.length=ix.length/\(∀ (j:Nat) (k:Nat),ix[j]?=some k->∃ v,xs[k]?=some v/\ys[j]?=some v)/\((maskN ix:Nat):Int)=m:=by
 obtain ⟨ix,⟨ys',r',nd,le,at_⟩,em⟩:=hx;exact#[ys',ix,r',nd,le,at_,em]
def zO8 (F:Fun K "within" "System.within" zJ9 f fd)(clS:Cls K CS)(nG:UAE K CS "ground")(cl:Cls K C)(M1:Meth K C "mask" a1)(O1:Fk 2 a1 d1 ["self","names"] (JA9 C))(b1:UAD K d1 ["self","names"] [])
  (M2:Meth K CS "first_lot" a2) (O2:Fk 4 a2 d2 ["self","mask"] (JC8 CS C)) (b2:UAD K d2 ["self","mask"] []) :
  Fk 5 f fd ["self","names"] (JC9 CS C):=by
 refine fk F.ok zSV;obtain ⟨p,x,xs,ms,m,rfl,hS,hO,hx,m0,m1,q⟩:=h;obtain ⟨dx,g,t,hp,hH,ht⟩:=id hS;have hr2:Room 2 _:=hr.mono dQ;obtain ⟨gx,t',d,h1,h2,h3⟩:=id hH;refine#[_,zA2 (zA7 (zAS (pv 0) clS M2 O2 hr b2 .nil zAT #v[(zAS (zAO (pv 0) rfl) cl M1 O1 hr2 b1 .nil zAT #v[(pv 1)])])),?_];refine#[_,rfl,p,dx,_,rfl,hp,rfl,_,rfl,p,CS,dx,_,_,rfl,hp,clS,nG,rfl,g,gx,_,rfl,h1,rfl,_,rfl,?_];obtain ⟨ys,ix,k1,k2,k3,k4,em⟩:=zLS hx;refine#[g,xs,x,ys,ix,rfl,hH,hO.gn.str,hO.gn.nd,hO.gn.hi,k1,k2,k3,k4,λH' g'=>#[p,xs,ms,m,(by rw [em];rfl),hS.same g',hO,q.mono g']]
def zHX:UAC ["self","fallen"] ["self","fallen"] (ZA4 zF8):=by trivial
def zLW (F:Fun K "standing" "System.standing" zF8 f fd)(clS:Cls K CS)(nG:UAE K CS "ground")(cl:Cls K C)(M1:Meth K C "mask" a1)(O1:Fk 2 a1 d1 ["self","names"] (JA9 C))(b1:UAD K d1 ["self","names"] [])
  (M2:Meth K CS "first_lot" a2) (O2:Fk 4 a2 d2 ["self","mask"] (JC8 CS C)) (b2:UAD K d2 ["self","mask"] []) (D3:Df 2 "all_of" ["houses"] (JB3 C) a3 d3) :
  Fk 5 f fd ["self","fallen"] (JD1 CS C):=by
 refine fk F.ok zHX;obtain ⟨p,x,xs,ms,m,rfl,hS,hO,hx,m0,m1,q⟩:=h;obtain ⟨dx,g,t,hp,hH,ht⟩:=id hS;have hr2:Room 2 _:=hr.mono dQ;obtain ⟨gx,t',d,h1,h2,h3⟩:=id hH;refine#[_,zA2 (zA7 (zAS (pv 0) clS M2 O2 hr b2 .nil zAT #v[(zAC zMS (kq D3 hr2 #v[(zAO (pv 0) rfl)]) (zAS (zAO (pv 0) rfl) cl M1 O1 hr2 b1 .nil zAT #v[(pv 1)]))])),?_];refine#[_,rfl,p,dx,_,rfl,hp,rfl,_,rfl,p,CS,dx,_,_,rfl,hp,clS,nG,rfl,g,xs,rfl,hH,hO.gn.hi,_,rfl,p,CS,dx,_,_,rfl,hp,clS,nG,rfl,g,gx,_,rfl,h1,rfl,_,rfl,?_];obtain ⟨ys,ix,k1,k2,k3,k4,em⟩:=zLS hx;refine#[g,xs,x,ys,ix,rfl,hH,hO.gn.str,hO.gn.nd,hO.gn.hi,k1,k2,k3,k4,λH' g'=>#[_,m,rfl,(by rw [em]),p,xs,ms,_,rfl,hS.same g',hO,q.mono g']]
structure UAc (ls:List (List Nat)):Prop where
 nd:ls.Nodup
 ok:∀ l∈ls,ZC1 (.str (mkS l))=true
abbrev nV (l:List Nat):V:=.str (mkS l)
def zNL {ls:List (List Nat)}(h1:1<=ls.length)(h12:ls.length<=12)(g:UAc ls):ZFY (some (ls.map nV))=true:=by
 have e:ls.map nV=(eAJ ls.length).map λk=>V.str (mkS (ls.getD k [])):=by
  refine List.ext_getElem (by simp) λi h _=>?_;rw [yAA] at h;rw [List.getElem_map,List.getElem_map,List.getElem_range,yBS,yAB h];rfl
 rw [e];have eg:∀ {k:Nat} (h:k<ls.length),ls.getD k []=ls[k]:=λh=>by rw [yBS,yAB h];rfl
 refine zaQ (λk=>ls.getD k []) h1 h12 (λk hk=>?_) (λj k hjk hk z=>?_)
 ·rw [eg hk]
  exact g.ok _ (yAi hk)
 ·rw [eg hk,eg oz] at z
  have:=(yCf g.nd).mp z
  lia
theorem UAc.perm {ls ks:List (List Nat)}(g:UAc ls)(p:ks.Perm ls):UAc ks:=#[p.nodup_iff.mpr g.nd,λl hl=>g.ok l (p.mem_iff.mp hl)]
theorem UAc.take {ls:List (List Nat)}(g:UAc ls)(n:Nat):UAc (ls.take n):=#[g.nd.sublist (yEA n ls),λl hl=>g.ok l (yDX hl)]
def zV3 {ls:List (List Nat)}(g:UAc ls):∀ v∈ls.map nV,UAl v:=λv hv=>by
 obtain ⟨l,hl,rfl⟩:=yAr.mp hv;exact#[.str (mkS l),λ_ _=>.str _,zN4 (g.ok l hl),by simp [eAm]]
def UAP:List Str:=["lots","many","grid","wall","tree","put","reads","none","all","falls","stand","write"]
def ZEDS:List Str:=["z","zz","zzz","zzzz","zzzzz","zzzzzz","y","yz","zy","zyx","yy","yyy"]
def UAb:Str:="bkpqsuvwxyzm"
def TENS:List Nat:=("abcdefghij":Str).cps.toList
def zQ6:∀ z∈UAP,ZC1 (.str (mkS (z.cps.toList++[113])))=true:=by decide +kernel
def zQZ:(UAP.map λz=>z.cps.toList++[113]).Nodup:=by decide +kernel
def zYR:∀ z∈ZEDS,ZC1 (.str (mkS z.cps.toList))=true:=by decide +kernel
def zZD:(ZEDS.map λz=>z.cps.toList).Nodup:=by decide +kernel
def zVB:∀ c∈TENS,c∈ZeL:=by decide +kernel
def zSA:∀ c∈UAb.cps.toList,c∈ZeL:=by decide +kernel
theorem UAv:UAb.cps.toList.Nodup:=by decide +kernel
def za4:∀ z∈OWN,∃ c∈z.cps.toList,c∉TENS/\c∉UAb.cps.toList:=by decide +kernel
def ZLM (bs:List Nat)(at':Nat)(c:Nat):List Nat:=bs.take at'++[c]++bs.drop at'
def zb4:UAc (UAP.map λz=>z.cps.toList++[113]):=#[zQZ,λl hl=>by
 obtain ⟨z,hz,rfl⟩:=yAr.mp hl;exact zQ6 z hz]
def zaS:UAc (ZEDS.map λz=>z.cps.toList):=#[zZD,λl hl=>by
 obtain ⟨z,hz,rfl⟩:=yAr.mp hl;exact zYR z hz]
def zaW {bs:List Nat}{at':Nat}(hb:bs.length<=5)(hc:∀ c∈bs,c∈TENS):UAc (UAb.cps.toList.map (ZLM bs at')):=by
 refine#[?_,λl hl=>?_]
 ·refine yBl.mpr (UAv.imp λh e=>h ?_)
  unfold ZLM at e;rw [yBT,yBT] at e
  have:=List.append_cancel_left e
  rw [List.singleton_append,List.singleton_append] at this
  injection this
 ·obtain ⟨c,hc',rfl⟩:=yAr.mp hl
  have hl:(ZLM bs at' c).length=bs.length+1:=by
   unfold ZLM;simp only [yAV,yAe,yCK,yBZ];lia
  have hm:∀ d∈ZLM bs at' c,d=c \/ d∈bs:=λd hd=>by
   unfold ZLM at hd;simp only [yAb,yAE] at hd
   rcases hd with (z|z)|z
   ·exact .inr (yDX z)
   ·exact .inl z
   ·exact .inr (List.mem_of_mem_drop z)
  refine zU5 (by rw [hl];lia) (by rw [hl];lia) (λd hd=>?_) (λz hz e=>?_)
  ·rcases hm d hd with rfl|z
   ·exact zSA _ hc'
   ·exact zVB _ (hc d z)
  ·obtain ⟨d,hd,n1,n2⟩:=za4 z hz
   rw [e] at hd
   rcases hm d hd with rfl|w
   ·exact n2 hc'
   ·exact n1 (hc d w)
def zbS (ls:List (List Nat)):ls.length=12->(ls.map nV).length<=1000:=λh=>by rw [yAA];lia
def zLQ (xs:List V){k:Int}(h0:0<=k)(h1:k<=(xs.length:Int)):ZL7 xs none (some k)=xs.take k.toNat:=by
 unfold ZL7;have e1:HT.sIx xs.length 0 none=0:=rfl
 have e2:HT.sIx xs.length xs.length (some k)=k.toNat:=by
  unfold HT.sIx;show (if k<0 then (k+(xs.length:Int)).toNat else min k.toNat xs.length)=k.toNat;rw [yAT oz];lia
 rw [e1,e2,List.drop_zero,Nat.sub_zero]
def ZO0 (H:Hp)(a:Addr):Prop:=∃ ls,H a=some (.lst (ls.map nV))/\ls.length=12/\UAc ls
def JD2:=∀ b n,(vs=[.ref b,.int ((n:Nat):Int)])->1<=n->n<=12->UAG H b->(∀ D H' xs,H D=none->H' D=some (.lst xs)->xs.length=n->ZFY (some xs)=true->UAG H' b->Away b H H'->Q (.ref D) H')->JD2 vs H Q E
theorem UAM:UAC ["_law_box_here","_law_many","_law_words","_law_some","_law_way","_law_base","_law_at"] ["_law_box_here","_law_many"] (ZA4 zMD):=by trivial
def zTD (F:Fun K "_law_names" "_law_names" zMD f fd)(T:Txt mg)(D1:Df 1 "_law_take" ["_law_box_here","_law_many"] JC2 a1 d1)(D2:Df 2 "_law_mixed" ["_law_box_here","_law_some"] JC7 a2 d2):Fk 3 f fd ["_law_box_here","_law_many"] JD2:=by
 refine fk F.okH UAM;obtain ⟨b,n,rfl,n1,n12,hb,q⟩:=h;have hr1:Room 1 _:=hr.mono dQ
 refine#[_,zJF (i:=2) rfl UAM.nd rfl (Or.inl rfl) (zGA (UAP.map V.str))
  (zA1 (zE0 (i:=3) (xs:=["_law_word"]) (fv:=[]) UAM.nd rfl rfl rfl dk trivial (zB2 (pv 2)) (λ_ _ _ _ _=>zAG (i:=0) (ndT dk) rfl (Or.inl rfl)) (λ_ _ _ _ _=>zBD) (λ_ _ _ _ _=>zAC zC8 (pv 0) zAL))
  (zA1 (kS9 4 UAM (kq D1 hr1 #v[(pv 0),zA5]))
  (zA1 (zcT (zA9 zC3 (pv 4) zA5 (zAB _)) (zJF (i:=3) rfl UAM.nd rfl (Or.inl rfl) (zGA (ZEDS.map V.str)) zA8) zA8)
  (zA1 (zAK (zA9 zC3 (pv 4) zA5 (zAB _))
   (zA1 (zE7 (i:=5) UAM.nd rfl (Or.inr rfl) (zH4 PySem.F.plainAttrs_str PySem.F.slot_str_join PySem.F.type_str_join zVO zAL (zBP (zAQ (xs:=["_law_k"]) (fv:=[("_law_box_here",0)]) rfl dk #[#[rfl,Or.inl rfl,rfl],trivial] (zBG rfl T.range #v[(kq D1 hr1 #v[(pv 0),zA5])]) (λ_ _ _ _ _=>zAG (i:=0) (ndT dk) rfl (Or.inl rfl)) (λ_ _ _ _ _=>zBD)
     (λ_ _ _ _ _=>zBF zc5 zAL (kq D1 hr1 #v[(pv 1),zA5]) (λ_ _=>rfl))) zB5)))
   (zA1 (zE7 (i:=6) UAM.nd rfl (Or.inr rfl) (kq D1 hr1 #v[(pv 0),(zAC zCU (zAD zG2 rfl T.len yCv #v[(pv 5)]) zA5)]))
   (zA2 (zE0 (i:=3) (xs:=["_law_sign"]) (fv:=[("_law_at",6),("_law_base",5)]) UAM.nd rfl rfl rfl dk #[#[rfl,Or.inl rfl,rfl],#[rfl,Or.inl rfl,rfl],trivial] (zRP zAL) (λ_ _ _ _ _=>zAG (i:=0) (ndT dk) rfl (Or.inl rfl)) (λ_ _ _ _ _=>zBD)
    (λ_ _ _ _ _=>zAC zC8 (zAC zC8 (zD9 zX2 (pv 2) zDD (zDR (pv 1))) (pv 0)) (zD9 zX2 (pv 2) (zDR (pv 1)) zDD)))))) zA8)
  (zA2 (zA7 (zD9 zH8 (kq D2 hr #v[(pv 0),(pv 3)]) zDD (zDR (pv 1))))))))),?_]
 have s1:100000<=eA5:=by decide
 refine#[(by show 12<=eA5;decide),λl hl=>?_];have b0:=hb.same (UAB hl (.lst (UAP.map V.str)));have a0:Away b H (upd H l (.lst (UAP.map V.str))):=zAE (UAB hl _);have l0:(upd H l (.lst (UAP.map V.str))) l=some (.lst (UAP.map V.str)):=zA0;generalize upd H l (.lst (UAP.map V.str))=H0 at b0 a0 l0 ⊢;refine#[_,rfl,l,rfl,?_];refine zC6 (K:=K) (ys:=UAP.map V.str) (.inl (SqL.of l0)) (λi D H'=>Same H0 H'/\H' D=some (.lst (((UAP.take i).map λz=>z.cps.toList++[113]).map nV))) (λD hD=>#[UAB hD _,zA0]) (λi D H' hD hP=>hP.1.at1 l) (λi D H' x hD hi hx hP=>?_) (λD H1 hD hP=>?_)
 ·obtain ⟨g,hl'⟩:=hP
  rw [yAA] at hi;rw [yAa,yAB hi] at hx
  cases hx
  have w12:UAP.length=12:=rfl;have len6:∀ z∈UAP,z.length<=5:=by decide +kernel
  have h5:=len6 _ (yAi hi);refine#[rfl,?_];unfold ZHP
  (try dsimp only)
  rw [yAS rfl];refine#[_,rfl,UAP[i],mkS [113],rfl,rfl,(by show UAP[i].length+1<=eA5;lia),?_]
  have em:UAP[i]++mkS [113]=mkS (UAP[i].cps.toList++[113]):=by
   conv=>lhs;rw [<- zcW UAP[i]]
   rw [zH5]
  rw [em];refine#[_,hl',?_,λb o e=>?_,?_]
  ·rw [yAA,yAA,yAe];lia
  ·rw [zA6 (zA3 e hD)];exact g _ _ e
  ·rw [zA0,yBG,yAB hi,yAQ,yAQ];rfl
 ·obtain ⟨g,hl'⟩:=hP
  have tw:ZO0 H1 D:=#[_,hl',rfl,zb4];have b1:=b0.same g;have a1:Away b H H1:=a0.trans (zAE g);clear hl' g l0 a0 b0 hD;refine#[_,rfl,b,3,rfl,dQ,dQ,b1,λway H2 w0 w1 b2 t2=>?_];have a2:=a1.trans t2.away
  have Db:D≠b:=λz=>by
   obtain ⟨ls,e1,_,_⟩:=tw;obtain ⟨d,s,c,e2,_⟩:=b1;rw [z,e2] at e1
   cases ls with
   | nil=>cases e1
   | cons=>cases e1
  have tw:ZO0 H2 D:=let ⟨ls,x,y⟩:=tw;#[ls,(t2 D Db).trans x,y];clear t2 b1 a1;refine#[_,rfl,rfl,_,rfl,?_];have es:∀ {v:Option V} {x:St},x=(((List.set (L2.UAf ["_law_box_here","_law_many","_law_words","_law_some","_law_way","_law_base","_law_at"] [V.ref b,V.int ↑n]) 2 (some (V.ref l))).set 3 (some (V.ref D))).set 4 v)->x=[some (.ref b),some (.int n),some (.ref l),some (.ref D),v,none,none]:=λh=>h;rw [es rfl];clear es;apply L2T.share
  case use=>
   intro key;refine zD2 (λe=>?_) (λe=>?_)
   case refine_1=>
    refine#[(by show 12<=eA5;decide),λs3 hs3=>?_];have b3:=b2.same (UAB hs3 (.lst (ZEDS.map V.str)));have a3:Away b H (upd H2 s3 (.lst (ZEDS.map V.str))):=a2.trans (zAE (UAB hs3 _));have tw3:ZO0 (upd H2 s3 (.lst (ZEDS.map V.str))) s3:=#[ZEDS.map λz=>z.cps.toList,zA0,rfl,zaS];generalize upd H2 s3 (.lst (ZEDS.map V.str))=H3 at b3 a3 tw3 ⊢;clear hs3;show ZFS 3 (.ref s3) [some (.ref b),some (.int n),some (.ref l),some (.ref D),some (.int way),none,none] H3 _;revert b3 a3 tw3;revert H3 s3;exact key.k
   case refine_2=>
    exact key.k D H2 b2 a2 tw
  intro s3 H3 b3 a3 tw3;clear tw a2 b2;refine#[_,rfl,rfl,_,rfl,?_];apply L2T.share
  case use=>
   intro key;refine zD2 (λc=>?_) (λc=>?_)
   case refine_1=>
    refine#[rfl,_,rfl,b,6,rfl,dQ,dQ,b3,λm H4 m0 m1 b4 t4=>#[m,rfl,oz,oz,?_]];have a4:=a3.trans t4.away;clear t4;have lC:(("abcdefghij":Str)).length=10:=by decide +kernel
    refine zE5 (λi D H'=>∃ cs:List Nat,Away b H H'/\UAG H' b/\D≠b/\H' D=some (.lst (cs.map λc=>V.str ⟨#[c]⟩))/\cs.length=i/\∀ c∈cs,c∈TENS) (λD hD=>?_) (λi D H' hD hi hP=>?_) (λD H' hD hP=>?_)
    ·exact#[[],a4.trans (zAE (UAB hD _)),b4.same (UAB hD _),(b4.ne hD).symm,zA0,rfl,λ_ h=>nomatch h]
    ·obtain ⟨cs,a5,b5,nb,l5,hl5,ho⟩:=hP
     refine#[rfl,?_];unfold ZHP
     (try dsimp only)
     rw [yAS rfl];refine#[_,rfl,b,10,rfl,dQ,dQ,b5,λr H6 r0 r1 b6 t6=>?_]
     have hk:r.toNat<TENS.length:=by
      have:TENS.length=10:=by decide +kernel
      lia
     have hc:atI (("abcdefghij":Str)).cps.toList r=some TENS[r.toNat]:=by
      have q:atI TENS ((r.toNat:Nat):Int)=some TENS[r.toNat]:=zCE (yAB hk);rw [show ((r.toNat:Nat):Int)=r by lia] at q;exact q
     have hDn:H D=none:=a4.free b4 hD;refine#[_,_,_,rfl,rfl,by rw [lC];lia,hc,_,(t6 D nb).trans l5,by rw [yAA];lia,cs++[TENS[r.toNat]],λc' o e n=>?_,b6.same2 (b6.ne2 nb.symm),nb,by rw [zA0,yAQ];rfl,by rw [yAV,hl5];rfl,λy hy=>?_]
     ·rw [zA6 (zA3 e hDn)]
      exact (a5.trans t6.away) c' o e n
     ·rcases yAb.mp hy with zz|zz
      ·exact ho y zz
      ·rw [yAE.mp zz];exact yAi _
    obtain ⟨cs,a5,b5,nb,l5,hl5,ho⟩:=hP;have hcs:cs.length<=5:=by lia
    refine#[D,cs,rfl,rfl,SqL.of l5,oz,?_];refine#[_,rfl,_,rfl,mkS cs,rfl,by rw [zCS];lia,_,_,rfl,rfl,b,_,rfl,oz,by rw [zCS];lia,b5,λat' H6 at0 at1 b6 t6=>?_];rw [zCS] at at1;have a6:=a5.trans t6.away;clear t6 a5 b5 l5 a4 b4 hD;refine#[UAb,rfl,?_];refine zJB (z:=UAb) (λi D H'=>Same H6 H'/\H' D=some (.lst (((UAb.cps.toList.take i).map (ZLM cs at'.toNat)).map nV))) (λD hD=>#[UAB hD _,zA0]) (λi D H' c hD hc hP=>?_) (λs7 H7 hs7 hP=>?_)
    ·obtain ⟨g,hl'⟩:=hP
     refine#[rfl,?_];unfold ZHP
     (try dsimp only)
     rw [yAS rfl];have e1:Txt.slice (mkS cs) none (some at')=mkS (cs.take at'.toNat):=zTY at0 oz;have e2:Txt.slice (mkS cs) (some at') none=mkS (cs.drop at'.toNat):=zOY at0 oz;have z1:(cs.take at'.toNat).length<=5:=by rw [yAe];lia
     have z2:(cs.drop at'.toNat).length<=5:=by rw [yCK];lia
     refine#[_,rfl,_,rfl,_,rfl,mkS cs,rfl,by rw [zCS];lia,?_];rw [e1];refine#[_,rfl,_,mkS [c],rfl,rfl,by rw [zCS,zCS];simp only [yBZ];lia,?_];rw [zH5];refine#[_,rfl,_,rfl,_,rfl,mkS cs,rfl,by rw [zCS];lia,?_];rw [e2];refine#[_,_,rfl,rfl,by rw [zCS,zCS,yAV,yBZ];lia,?_];rw [zH5]
     have hi:i<UAb.cps.toList.length:=by
      have:=(yBD.mp hc).1
      rw [yBJ];exact this
     have hic:UAb.cps.toList[i]?=some c:=by rw [yBH];exact hc
     have h12:UAb.cps.toList.length=12:=by decide +kernel
     refine#[_,hl',?_,λb o e=>?_,?_]
     ·rw [yAA,yAA,yAe];lia
     ·rw [zA6 (zA3 e hD)];exact g _ _ e
     ·rw [zA0,yBG,hic,yAQ,yAQ];rfl
    obtain ⟨g7,l7⟩:=hP;rw [show UAb.cps.toList.take UAb.cps.size=UAb.cps.toList by decide +kernel] at l7;have tw7:ZO0 H7 s7:=#[_,l7,by rw [yAA];decide +kernel,zaW hcs ho];have b7:=b6.same g7;have a7:=a6.trans (zAE g7);clear l7 g7 b6 a6 hs7;show ZFS 3 (.ref s7) [some (.ref b),some (.int n),some (.ref l),some (.ref s3),some (.int way),some (.str (mkS cs)),some (.int at')] H7 _;generalize some (V.str (mkS cs))=v5;generalize some (V.int at')=v6;revert b7 a7 tw7;revert v5 v6 H7 s7;exact key.k
   case refine_2=>
    exact key.k s3 H3 none none tw3 b3 a3
  intro s7 H7 v5 v6 tw7 b7 a7;clear tw3 a3 b3;obtain ⟨ls,l7,h12,gd⟩:=tw7;refine#[_,rfl,_,rfl,b,s7,ls.map nV,rfl,b7,l7,zbS ls h12,zV3 gd,λD8 H8 ys hD8 l8 pm b8 a8=>?_];obtain ⟨ks,pk,rfl⟩:=zNI pm ls rfl;have kl:ks.length=12:=by rw [pk.length_eq];exact h12
  refine#[_,rfl,_,rfl,D8,_,rfl,SqL.of l8,λp hp=>?_]
  have ec:ZL7 (ks.map nV) none (some ((n:Nat):Int))=(ks.take n).map nV:=by
   rw [zLQ _ oz (by rw [yAA];lia),yAW,List.map_take]
  rw [ec];have tl:(ks.take n).length=n:=by rw [yAe];lia
  exact q p _ _ ((a7.trans a8).free b8 hp) zA0 (by rw [yAA];exact tl) (zNL oz oz ((gd.perm pk).take n)) (b8.same (UAB hp _)) ((a7.trans a8).trans (zAE (UAB hp _)))
def zI6 {H:Hp}{xs:List V}(hG:GN xs):∀ (vs:List Addr) (ms:List Int),vs.length=ms.length->(∀ m∈ms,0<=m/\m<2^xs.length) ->
  (∀ (j:Nat) v m,vs[j]?=some v->ms[j]?=some m->∃ ys,Row H (.ref v) (some ys)/\ys.Perm (ZBT xs m))->∃ ixs:List (List Nat),ZcN H xs (vs.map V.ref) ixs/\(ixs.map maskN).map (λ(m:Nat)=>(m:Int))=ms
 | [],[],_,_,_=>#[[],#[rfl,λi v ix h=>by cases h],rfl]
 | [],_::_,h,_,_=>by cases h
 | _::_,[],h,_,_=>by cases h
 | v::vs,m::ms,h,ok,f=>by
  obtain ⟨ixs,⟨l1,l2⟩,e⟩:=zI6 hG vs ms (by simpa using h) (λx hx=>ok x (yAL _ hx)) (λj v m a b=>f (j+1) v m a b);obtain ⟨ys,r,pm⟩:=f 0 v m rfl rfl;have hm:=ok m (yAU ..);obtain ⟨ix,la,em⟩:=zWO hG hm.1 hm.2 r pm;refine#[ix::ixs,#[by simp at l1 ⊢;exact l1,λi v' ix' a b=>?_],by rw [yAq,yAq,em,e]]
  cases i with
  | zero=>cases a;cases b;exact la
  | succ i=>exact l2 i v' ix' (by simpa using a) (by simpa using b)
def zOM {l:List Nat}{ms:List Int}(e:l.map (λ(m:Nat)=>(m:Int))=ms)(nd:ms.Nodup):l.Nodup:=by
 rw [<- e] at nd;exact (yBl.mp nd).imp λh z=>h (by rw [z])
def zS4 {H:Hp}{xs:List V}(h:GN xs):∀ v∈xs,Th H v:=λv hv=>by
 rw [h.str v hv];show (ZAM v).length<=100000
 have:=h.six v hv
 lia
structure UA4 (b:Addr)(xs:List V)(ms:List Int)(vs:List Addr)(H0 H:Hp):Prop where
 len:vs.length=ms.length
 new:∀ v∈vs,H0 v=none
 rows:∀ (j:Nat) v m,vs[j]?=some v->ms[j]?=some m->∃ ys,Row H (.ref v) (some ys)/\ys.Perm (ZBT xs m)
def zII {CS C:Addr}{Hx:Hp}{vx vy:V}{xs:List V}{ms:List Int}{vs:List Addr}{b:Addr}{H0:Hp}(hG:GN xs)(are:ZFY (some xs)=true)(ok:MsOk xs.length ms)(h64:ms.length<=1000)(rX:Row Hx vx (some xs))(rY:Row Hx vy (some (vs.map V.ref)))(R:UA4 b xs ms vs H0 Hx)
  {p dx:Addr} (hp:Hx p=none) (hdx:Hx dx=none) {Qm:VK} {E:XK} (hQ:∀ H' zs,Same Hx H'->UAH CS C H' p xs zs->zs.Perm ms->Ord xs zs->Qm .non H') :
  JB6 CS C [.ref p,vx,vy] (upd (upd Hx dx (.own p)) p (.ins CS dx [])) Qm E:=by
 have k1:Same Hx (upd (upd Hx dx (.own p)) p (.ins CS dx [])):=λc o hc=>by rw [zA6 (zA3 hc hp),zA6 (zA3 hc hdx)];exact hc
 obtain ⟨ixs,lo,em⟩:=zI6 (H:=Hx) hG vs ms R.len ok.ok R.rows;have lo':ZcN (upd (upd Hx dx (.own p)) p (.ins CS dx [])) xs (vs.map V.ref) ixs:=#[lo.1,λi v ix a b=>(lo.2 i v ix a b).same k1];refine#[p,dx,vx,vy,xs,vs.map V.ref,ixs,rfl,zA0,rX.same k1,zS4 hG,are,rY.same k1,by rw [yAA,R.len];exact h64,lo',zOM em ok.nd,λH' zs kp pz O hS=>?_];rw [em] at pz;exact hQ H' zs (λc o hc=>kp c o (k1 _ _ hc) (zA3 hc hp)) hS pz O
def Sb (l m:Nat):Prop:=∀ k,l.testBit k=true->m.testBit k=true
theorem UAJ {l m:Nat}:l &&& m=l ↔ Sb l m:=by
 constructor
 ·intro h k hk
  rw [<- h,yBz,yAN] at hk;exact hk.2
 ·intro h
  refine yBR λk=>?_;rw [yBz]
  cases e:l.testBit k with
  | false=>rfl
  | true=>rw [h k e];rfl
instance (l m:Nat):Decidable (Sb l m):=decidable_of_iff _ UAJ
def fj (ns:List Nat)(j m:Nat):Bool:=ns.any λl=>decide (Sb l m)&&decide (l >>> j=m >>> j)
def zKF {ns:List Nat}{j m:Nat}:fj ns j m=true ↔ ∃ l∈ns,Sb l m/\l >>> j=m >>> j:=by
 unfold fj;rw [yAw];simp only [yAN,yAI]
def zY9 (ns:List Nat)(m:Nat):fj ns 0 m=decide (m∈ns):=by
 rw [yAd,zKF,yAI]
 constructor
 ·rintro ⟨l,hl,_,e⟩
  rw [Nat.shiftRight_zero,Nat.shiftRight_zero] at e;rw [<- e];exact hl
 ·intro h
  exact#[m,h,λk hk=>hk,rfl]
def zc7 {ns:List Nat}{n m:Nat}(hn:∀ l∈ns,l<2^n)(hm:m<2^n):fj ns n m=ns.any λl=>decide (Sb l m):=by
 rw [yAd,zKF,yAw]
 constructor
 ·rintro ⟨l,hl,h,_⟩
  exact#[l,hl,yAJ h]
 ·rintro ⟨l,hl,h⟩
  refine#[l,hl,yAZ h,?_];rw [Nat.shiftRight_eq_div_pow,Nat.shiftRight_eq_div_pow,Nat.div_eq_of_lt (hn l hl),Nat.div_eq_of_lt hm]
def zVQ {l m j:Nat}(h:l >>> j=m >>> j):l >>> (j+1)=m >>> (j+1):=by
 rw [Nat.shiftRight_add,Nat.shiftRight_add,h]
def zcI {l m j:Nat}(h:l >>> (j+1)=m >>> (j+1))(e:l.testBit j=m.testBit j):l >>> j=m >>> j:=by
 refine yBR λk=>?_;rw [yBo,yBo]
 cases k with
 | zero=>exact e
 | succ k=>
  have:(l >>> (j+1)).testBit k=(m >>> (j+1)).testBit k:=by rw [h]
  rw [yBo,yBo] at this;rw [show j+(k+1)=j+1+k by lia];exact this
def zI9 (m j k:Nat):(m ^^^ 2^j).testBit k=(m.testBit k ^^ decide (j=k)):=by
 rw [Nat.testBit_xor,yBr]
def zYM (ns:List Nat)(j m:Nat):fj ns (j+1) m=(fj ns j m||(m.testBit j&&fj ns (j+1) (m ^^^ 2^j))):=by
 rw [yAd,yCq,yAN,zKF,zKF,zKF]
 constructor
 ·rintro ⟨l,hl,sb,e⟩
  by_cases h:l.testBit j=m.testBit j
  ·exact .inl #[l,hl,sb,zcI e h]
  ·have l0:l.testBit j=false:=by
    cases z:l.testBit j with
    | false=>rfl
    | true=>exact absurd (z.trans (sb j z).symm) h
   have m1:m.testBit j=true:=by
    cases z:m.testBit j with
    | true=>rfl
    | false=>exact absurd (l0.trans z.symm) h
   refine .inr #[m1,l,hl,λk hk=>?_,?_]
   ·have nk:j≠k:=λz=>by rw [<- z,l0] at hk;cases hk
    rw [zI9,yAG nk,yDP];exact sb k hk
   ·refine e.trans (yBR λk=>?_)
    rw [yBo,yBo,zI9,yAG oz,yDP]
 ·rintro (⟨l,hl,sb,e⟩|⟨m1,l,hl,sb,e⟩)
  ·exact#[l,hl,sb,zVQ e]
  ·refine#[l,hl,λk hk=>?_,e.trans (yBR λk=>?_)]
   ·have:=sb k hk
    rw [zI9] at this
    by_cases z:j=k
    ·rw [<- z];exact m1
    ·rw [yAG z,yDP] at this;exact this
   ·rw [yBo,yBo,zI9,yAG oz,yDP]
def zO2 {m j:Nat}(h:m.testBit j=true):m ^^^ 2^j<m:=by
 have hp:0<2^j:=eAw j;have h1:(m ^^^ 2^j) / 2^j=m / 2^j ^^^ 1:=by rw [Nat.xor_div_two_pow,Nat.div_self hp]
 have h2:m / 2^j % 2=1:=by
  rw [yBe] at h;exact yAZ h
 have h3:(m / 2^j ^^^ 1) / 2=m / 2^j / 2:=by rw [Nat.xor_div_two];simp
 have h4:(m / 2^j ^^^ 1) % 2=0:=by
  have:=Nat.xor_mod_two_eq_one (a:=m / 2^j) (b:=1)
  have n1:¬(m / 2^j ^^^ 1) % 2=1:=λz=>(this.mp z) #[λ_=>rfl,λ_=>h2];lia
 rcases yBn (m ^^^ 2^j) m with z|z
 ·exact z
 ·have:=Nat.div_le_div_right (c:=2^j) z
  lia
def ZCL (n:Nat)(f:Nat->Bool):List V:=(eAJ (2^n)).map λm=>V.bl (f m)
def zAX (n:Nat)(f:Nat->Bool):(ZCL n f).length=2^n:=by unfold ZCL;rw [yAA,yBc]
def zCB {n:Nat}{f g:Nat->Bool}(h:∀ m,m<2^n->f m=g m):ZCL n f=ZCL n g:=by
 unfold ZCL;refine List.map_congr_left λm hm=>?_;rw [h m (yBC.mp hm)]
def zCO {n:Nat}{f:Nat->Bool}{m:Nat}(h:m<2^n):(ZCL n f)[m]?=some (.bl (f m)):=by
 unfold ZCL;rw [yAa,List.getElem?_range h];rfl
def zIM {n:Nat}{f:Nat->Bool}{m:Nat}(h:m<2^n):atI (ZCL n f) (m:Int)=some (.bl (f m)):=zCE (zCO h)
def zNB {n:Nat}{f:Nat->Bool}{m:Nat}(h:m<2^n):(ZCL n f).set m (.bl true)=ZCL n (λk=>f k||decide (k=m)):=by
 refine yEC λk=>?_;rw [List.getElem?_set]
 by_cases hk:k<2^n
 ·rw [zCO hk,zCO hk]
  by_cases e:m=k
  ·subst e
   rw [yAS rfl,yAS (by rw [zAX];exact h)]
   simp
  ·rw [yAT e,yAG (λz=>e z.symm),yEI]
 ·have o1:(ZCL n f)[k]?=none:=yCO (by rw [zAX];lia)
  have o2:(ZCL n (λk=>f k||decide (k=m)))[k]?=none:=yCO (by rw [zAX];lia);rw [o1,o2,yAT oz]
def zVX (n:Nat):(eAZ (2^n) [V.bl false]).flatten=ZCL n (λ_=>false):=by
 have h:∀ k,(eAZ k [V.bl false]).flatten=eAZ k (V.bl false):=λk=>by
  induction k with
  | zero=>rfl
  | succ k ih=>rw [yCZ,yDO,ih];rfl
 rw [h];unfold ZCL;refine yEC λk=>?_;rw [yAa]
 by_cases hk:k<2^n
 ·rw [yEH,yAS hk,List.getElem?_range hk];rfl
 ·rw [yEH,yAT hk,yCO (by rw [yBc];lia)];rfl
def zSE {n k:Nat}(h:k<n):ixN n (k:Int)=some k:=by
 unfold ixN;rw [yAS oz,yAS oz,yAW]
def zB7 (x y:Nat):eA3 ((x:Nat):Int) ((y:Nat):Int)=((x &&& y:Nat):Int):=rfl
def zGK:∀ (n x y:Nat),x<=n->(x ^^^ y)+(x &&& y)=x ||| y
 | 0,x,y,h=>by
  obtain rfl:x=0:=by lia
  simp
 | n+1,x,y,h=>by
  by_cases hx:x=0
  ·subst hx;simp
  ·have ih:=zGK n (x / 2) (y / 2) oz
   have d1:=Nat.xor_div_two (a:=x) (b:=y);have d2:=Nat.and_div_two (a:=x) (b:=y);have d3:=Nat.or_div_two (a:=x) (b:=y);have m1:=Nat.xor_mod_two_eq_one (a:=x) (b:=y);have m2:=Nat.and_mod_two_eq_one (a:=x) (b:=y);have m3:=Nat.or_mod_two_eq_one (a:=x) (b:=y);rw [<- d1,<- d2,<- d3] at ih;have hx2:=Nat.mod_two_eq_zero_or_one x;have hy2:=Nat.mod_two_eq_zero_or_one y
   rcases hx2 with a|a<;>rcases hy2 with b|b<;>lia
def zLR (x y:Nat):eA4 ((x:Nat):Int) ((y:Nat):Int)=((x ^^^ y:Nat):Int):=by
 have e:eA4 ((x:Nat):Int) ((y:Nat):Int)=Builtin.bitOr ((x:Nat):Int) ((y:Nat):Int)-eA3 ((x:Nat):Int) ((y:Nat):Int):=rfl;rw [e,zbN,zB7]
 have:=zGK x x y (yAF _)
 lia
def ZAU (ms:List Int)(m:Nat):Bool:=ms.any λl=>decide (eA3 l (m:Int)=l)
def zLX {ms:List Int}(h:∀ m∈ms,0<=m):∃ ns:List Nat,ms=ns.map λ(n:Nat)=>(n:Int):=by
 induction ms with
 | nil=>exact#[[],rfl]
 | cons m r ih=>
  obtain ⟨ns,e⟩:=ih λx hx=>h x (yAL _ hx);obtain ⟨k,rfl⟩:=yAR (h m (yAU ..));exact#[k::ns,by rw [yAq,<- e]]
def zID (ns:List Nat)(m:Nat):ZAU (ns.map λ(n:Nat)=>(n:Int)) m=ns.any λl=>decide (Sb l m):=by
 unfold ZAU;rw [List.any_map]
 congr 1
 funext l
 show decide (eA3 ((l:Nat):Int) ((m:Nat):Int)=((l:Nat):Int))=decide (Sb l m);rw [zB7,yAd,yAI,yAI,<- UAJ];lia
def JD3 (K:Frag):=∀ a n ms,(vs=[.ref a,.int ((n:Nat):Int)])->n<=12->Sq K H a (IV ms)->H a≠none->(∀ m∈ms,0<=m/\m<2^n)->(∀ D H',H D=none->Same H H'->H' D=some (.lst (ZCL n (ZAU ms)))->Q (.ref D) H')->JD3 K vs H Q E
def zCV:UAC ["masks","many","table","mask","number","bit"] ["masks","many"] (ZA4 zJ3):=by trivial
def zO5 (F:Fun K "table_of" "table_of" zJ3 f fd)(T:Txt mg):Fk 1 f fd ["masks","many"] (JD3 K):=by
 refine fk F.ok zCV;obtain ⟨a,n,ms,rfl,n12,sq,hne,ok,q⟩:=h;obtain ⟨ns,rfl⟩:=zLX λm hm=>(ok m hm).1
 have okn:∀ l∈ns,l<2^n:=λl hl=>by
  have:=(ok l (yAr.mpr #[l,hl,rfl])).2
  exact_mod_cast this
 refine#[_,zA1 (kS9 2 zCV (zAC zcH (zB1 #v[zC0]) (zAC zDF zA5 (pv 1))))
  (zA1 (zBK eAx rfl (zB2 (pv 0)) (kG9 3 zCV) (zA2 (zKP zC0 (zNJ (pv 2) (pv 3) zGH))))
  (zA1 (zBK eAx rfl (zBG rfl T.range #v[(pv 1)]) (kG9 4 zCV)
   (zA1 (kS9 5 zCV (zAC zDF zA5 (pv 4)))
   (zA2 (zBK eAx rfl (zBG rfl T.range #v[(zAC zDF zA5 (pv 1))]) (kG9 3 zCV)
    (zA2 (zAK (PW.pt (zEC (zGG (zAC zBU (pv 3) (pv 5)) (λ_=>rfl)) (zD6 (zB4 (zBF zAJ (pv 2) (zAC zMS (pv 3) (pv 5)) (λ_ _=>rfl)))))) (zA2 (zKP zC0 (zNJ (pv 2) (pv 3) zGH))) zA8))))))
  (zA2 (zA7 (pv 2))))),?_]
 obtain ⟨N,hN⟩:∃ N,N=2^n:=#[_,rfl];have p12:N<=4096:=by rw [hN];exact yAu (n:=2) dQ n12
 have s1000:16000000<=eA5:=by decide
 have hsh:∀ {k:Int},0<=k->k<=12->ZXA 1 k:=λh0 h1=>#[h0,oz,dQ];have es:(1:Int)*2^((n:Nat):Int).toNat=((N:Nat):Int):=by rw [yAW,yCe,hN,yBi];rfl
 refine sH λC1 f1=>?_;refine#[(by show 1<=eA5;decide),λl hl=>?_];obtain ⟨H1,g1,c1,e0⟩:=zCM hl (.lst [.bl false]);rw [e0];clear e0;refine#[_,rfl,_,_,rfl,rfl,hsh oz oz,l,_,_,rfl,rfl,c1,by rw [es];lia,by rw [es];lia,?_,λD hD=>?_]
 ·rw [es,yAW]
  show 1*N<=eA5;lia
 have g2:=UAB hD (.lst (eAZ ((1:Int)*2^((n:Nat):Int).toNat).toNat [V.bl false]).flatten)
 have c2:(upd H1 D (.lst (eAZ ((1:Int)*2^((n:Nat):Int).toNat).toNat [V.bl false]).flatten)) D=some (.lst (ZCL n (λ_=>false))):=by
  rw [zA0,es,yAW,hN,zVX]
 generalize upd H1 D (.lst (eAZ ((1:Int)*2^((n:Nat):Int).toNat).toNat [V.bl false]).flatten)=H2 at g2 c2 ⊢;have g12:=g1.trans g2;have hDH:H D=none:=g1.free hD;have naD:a≠D:=λe=>hne (by rw [e];exact hDH);have el:(IV (ns.map λ(n:Nat)=>(n:Int))).length=ns.length:=by unfold IV;rw [yAA,yAA]
 have sq2:Sq K H2 a (IV (ns.map λ(n:Nat)=>(n:Int))):=Sq.at1 (g12.at1 a) sq;refine gNs (sR f1 (sfH λbd eb C2 f2=>?_));refine#[_,rfl,a,rfl,?_]
 refine zC5 (K:=K) sq2 (λi σ H'=>∃ v3,σ=[some (.ref a),some (.int ((n:Nat):Int)),some (.ref D),v3,none,none]/\(∀ c,c≠D->H' c=H2 c)/\H' D=some (.lst (ZCL n (λm=>decide (m∈ns.take i))))) #[_,rfl,(λ_ _=>rfl),by rw [c2];simp]
  (λi σ H' hP o ho=>?_) (λi σ H' x hi hx hP=>?_) (λσ H' hP=>?_)
 ·obtain ⟨_,_,k,_⟩:=hP
  rw [k a naD];exact ho
 ·refine gNs (sR eb (dH λD0 eD=>?_))
  obtain ⟨v3,rfl,k,lD⟩:=hP;rw [el] at hi
  have ex:x=.int ((ns[i]:Nat):Int):=by
   unfold IV at hx;rw [yCA,yAa,yAB hi] at hx;exact (eAH hx).symm
  subst ex;have hlt:=okn ns[i] (yAi hi);subst eD;refine#[_,rfl,_,rfl,D,_,_,ns[i],rfl,rfl,lD,zSE (by rw [zAX];exact hlt),_,rfl,λc hc=>by rw [zA6 hc];exact k c hc,?_];rw [zA0,zNB hlt]
  congr 2
  refine zCB λm _=>?_;have et:ns.take (i+1)=ns.take i++[ns[i]]:=by rw [List.take_succ,yAB hi];rfl
  rw [et,yAd,yCq,yAI,yAI,yAI,yAb,yAE]
 ·refine sR f2 (sfH λbd eb C3 f3=>?_)
  obtain ⟨v3,rfl,k,lD⟩:=hP;rw [el,yCz] at lD
  have lD:H' D=some (.lst (ZCL n (fj ns 0))):=by
   rw [lD]
   congr 2
   exact zCB λm _=>(zY9 ns m).symm
  refine#[_,rfl,_,rfl,oz,oz,?_];refine zCD (lo:=0) (λj σ H'=>∃ v3 v4 v5,σ=[some (.ref a),some (.int ((n:Nat):Int)),some (.ref D),v3,v4,v5]/\(∀ c,c≠D->H' c=H2 c)/\H' D=some (.lst (ZCL n (fj ns j)))) #[_,_,_,rfl,k,lD] (λj σ H' hj hP=>?_) (λσ H' hP=>?_)
  ·refine gNs (sR eb (dH λD8 e8=>?_))
   obtain ⟨v3,v4,v5,rfl,k,lD⟩:=hP;rw [yAW] at hj;have ej:(0+(j:Int)).toNat=j:=by lia
   have eb:(1:Int)*2^(0+(j:Int)).toNat=((2^j:Nat):Int):=by rw [ej,yCe,yBi];rfl
   refine#[_,rfl,_,_,rfl,rfl,hsh oz oz,_,rfl,_,_,rfl,rfl,hsh oz oz,_,rfl,by rw [es];lia,by rw [es];lia,?_];refine zCD (lo:=0) (λi σ H'=>∃ v3,σ=[some (.ref a),some (.int ((n:Nat):Int)),some (.ref D),v3,some (.int (0+(j:Int))),some (.int ((1:Int)*2^(0+(j:Int)).toNat))]/\(∀ c,c≠D->H' c=H2 c)/\H' D=some (.lst (ZCL n (λm=>if m<i then fj ns (j+1) m else fj ns j m)))) #[_,rfl,k,by rw [lD];congr 2] (λi σ H' hi hP=>?_) (λσ H' hP=>?_)
   ·refine gNs (dH λD9 e9=>?_)
    obtain ⟨v3,rfl,k,lD⟩:=hP;rw [es,yAW] at hi;have hi2:i<2^n:=by rw [<- hN];exact hi
    have ei:(0+(i:Int))=((i:Nat):Int):=yEY _;have ea:eA3 (0+(i:Int)) ((1:Int)*2^(0+(j:Int)).toNat)=((i &&& 2^j:Nat):Int):=by rw [ei,eb,zB7]
    have ex:eA4 (0+(i:Int)) ((1:Int)*2^(0+(j:Int)).toNat)=((i ^^^ 2^j:Nat):Int):=by rw [ei,eb,zLR]
    have hb:decide (((i &&& 2^j:Nat):Int)≠0)=i.testBit j:=by
     rw [yAd,yAI]
     constructor
     ·intro h
      cases z:i.testBit j with
      | true=>rfl
      | false=>
       refine absurd ?_ h
       have:i &&& 2^j=0:=by
        refine yBR λk=>?_;rw [yBz,yBr,yCJ]
        by_cases y:j=k
        ·subst y;rw [z];rfl
        ·rw [yAG y,Bool.and_false]
       rw [this];rfl
     ·intro h e
      have:i &&& 2^j=0:=by lia
      have t:(i &&& 2^j).testBit j=true:=by rw [yBz,yBr,h];simp
      rw [this,yCJ] at t
      cases t
    have next:∀ c:Bool,c=(i.testBit j&&fj ns (j+1) (i ^^^ 2^j))->ZCL n (λm=>(if m<i then fj ns (j+1) m else fj ns j m)||(c&&decide (m=i)))=ZCL n (λm=>if m<i+1 then fj ns (j+1) m else fj ns j m):=λc hc=>by
     refine zCB λm _=>?_
     by_cases e:m=i
     ·subst e
      rw [yAT (yBk _),yAS (yDW _),zYM ns j m,hc]
      simp
     ·rw [yAG e,Bool.and_false,yEI]
      by_cases z:m<i
      ·rw [yAS z,yAS oz]
      ·rw [yAT z,yAT oz]
    refine#[_,rfl,_,rfl,_,_,rfl,rfl,_,rfl,?_];have put:∀ c:Bool,c=(i.testBit j&&fj ns (j+1) (i ^^^ 2^j))->∀ H9:Hp,(∀ c,c≠D->H9 c=H2 c)->H9 D=some (.lst (ZCL n (λm=>(if m<i then fj ns (j+1) m else fj ns j m)||(c&&decide (m=i)))))->H9 D=some (.lst (ZCL n (λm=>if m<i+1 then fj ns (j+1) m else fj ns j m))):=λc hc H9 _ h=>by rw [h,next c hc]
    have skip:i.testBit j=false \/ fj ns (j+1) (i ^^^ 2^j)=false->H' D=some (.lst (ZCL n (λm=>if m<i+1 then fj ns (j+1) m else fj ns j m))):=λh=>by
     refine put false ?_ H' k ?_
     ·rcases h with z|z
      ·rw [z];rfl
      ·rw [z,Bool.and_false]
     ·rw [lD]
      congr 2
      exact zCB λm _=>by rw [yBu,yEI]
    refine zD2 (λc=>?_) (λc=>?_)
    ·have hbit:i.testBit j=true:=by
      rw [<- hb,yAI,<- ea]
      simpa using c
     have hlt:=zO2 hbit;refine#[_,rfl,_,rfl,_,rfl,_,_,rfl,rfl,D,_,_,_,rfl,rfl,SqL.of lD,(by rw [ex];exact zIM (Nat.lt_trans hlt hi2)),_,rfl,?_];rw [yAS hlt];refine zD2 (λc2=>?_) (λc2=>?_)
     ·subst e9
      refine#[_,rfl,_,rfl,D,_,_,i,rfl,rfl,lD,(by rw [ei];exact zSE (by rw [zAX];exact hi2)),_,rfl,λc hc=>by rw [zA6 hc];exact k c hc,?_];refine put true (by rw [hbit,c2];rfl) _ (λc hc=>by rw [zA6 hc];exact k c hc) ?_;rw [zA0,zNB hi2]
      congr 2
     ·subst e9
      refine#[_,rfl,k,skip (.inr (by simpa using c2))]
    ·subst e9
     refine zAY #[_,rfl,k,skip (.inl ?_)]
     cases z:i.testBit j with
     | false=>rfl
     | true=>
      rw [<- hb,yAI,<- ea] at z;exact absurd (by simpa using z) c
   ·obtain ⟨v3,rfl,k,lD⟩:=hP
    subst e8;refine#[_,_,_,rfl,k,?_];rw [lD]
    congr 2
    refine zCB λm hm=>?_;rw [es,yAW,hN,yAS hm]
  ·obtain ⟨v3,v4,v5,rfl,k,lD⟩:=hP
   rw [yAW] at lD;refine sR f3 ?_;refine#[_,rfl,q D H' hDH (λc o hc=>?_) ?_]
   ·rw [k c (zA3 hc hDH)];exact g12 _ _ hc
   ·rw [lD]
    congr 2
    refine zCB λm hm=>?_;rw [zc7 okn hm,zID]
def zZO (m k:Nat):bit ((m:Nat):Int) k=m.testBit k:=by
 unfold bit;rw [yBe,yAd,yAI,yAI]
 have e:((m:Nat):Int) / 2^k=((m / 2^k:Nat):Int):=by
  rw [Int.natCast_ediv,yBi];rfl
 rw [e];lia
def zDQ (m:Nat):ZBS ((m:Nat):Int)=(eAJ 12).filter λk=>m.testBit k:=by
 unfold ZBS ZDJ;rw [zJU];refine List.filter_congr λk _=>?_;rw [zZO]
def ZCH (f:Nat->Bool)(m:Nat):Bool:=f m && !((ZBS ((m:Nat):Int)).any λk=>f (m ^^^ 2^k))
def ZAA (f:Nat->Bool)(i:Nat):List Int:=((eAJ i).filter (ZCH f)).map λ(k:Nat)=>(k:Int)
def zFX (f:Nat->Bool)(i:Nat):ZAA f (i+1)=ZAA f i++(if ZCH f i=true then [((i:Nat):Int)] else []):=by
 unfold ZAA;rw [yDf,yCi,yAQ]
 congr 1
 cases h:ZCH f i with
 | true=>rw [yCc h];rfl
 | false=>rw [yCd (by rw [h];simp)];rfl
def zDC (f:Nat->Bool)(i:Nat):(ZAA f i).length<=i:=by
 unfold ZAA;rw [yAA];exact yAp (yCN _ _) (by rw [yBc];exact yAF _)
def JD4:=∀ a n f,vs=[.ref a]->n<=12->H a=some (.lst (ZCL n f))->(∀ D H',H D=none->Same H H'->H' D=some (.lst (IV (ZAA f (2^n))))->Q (.ref D) H')->JD4 vs H Q E
theorem UAd:UAC ["table","masks","mask","decides"] ["table"] (ZA4 zL4):=by trivial
def zTH (F:Fun K "least_masks" "least_masks" zL4 f fd)(me:mg "enumerate"=none)(ma:mg "any"=none)(D2:Df 1 "numbers_of" ["mask"] JB0 a2 d2):Fk 2 f fd ["table"] JD4:=by
 refine fk F.ok UAd;obtain ⟨a,n,tf,rfl,n12,ha,q⟩:=h
 refine#[_,zA1 (kS9 1 UAd (zB1 zB5))
  (zA1 (zBK eAx rfl (zF7 rfl me #v[(pv 0)]) (zT9 (n:=2) rfl (zBJ (zAG (i:=2) UAd.nd rfl (Or.inr rfl)) (zBJ (kG9 3 UAd) zFP)))
   (zA2 (zAK (PW.pt (zEC (zB4 (pv 3)) (zD6 (zBH (zB4 (zAD (zVF rfl) rfl ma PyProof.Rows.boot_any (zBP (zAQ (xs:=["number"]) (fv:=[("mask",2),("table",0)]) rfl dk #[#[rfl,Or.inl rfl,rfl],#[rfl,Or.inl rfl,rfl],trivial]
     (zB2 (kq D2 hr #v[(pv 2)])) (λ_ _ _ _ _=>zAG (i:=0) (ndT dk) rfl (Or.inl rfl)) (λ_ _ _ _ _=>zBD)
     (λ_ _ _ _ _=>zBF (zU0 (K:=K) rfl) (pv 2) (zAC zMS (pv 1) (zAC zDF zA5 (pv 0))) (λ_ _=>rfl))) zB5))))))) (zA2 (zBC (zH4 yBU yBY yBX zBN (pv 1) #v[(pv 2)]))) zA8)))
  (zA2 (zA7 (pv 1)))),?_]
 obtain ⟨N,hN⟩:∃ N,N=2^n:=#[_,rfl];have p12:N<=4096:=by rw [hN];exact yAu (n:=2) dQ n12
 have s1000:16000000<=eA5:=by decide
 refine#[(by show 0<=eA5;decide),λM hM=>?_];obtain ⟨H1,g1,c1,e0⟩:=zCM hM (.lst []);rw [e0];clear e0;have ha1:=g1 _ _ ha;refine#[_,rfl,a,rfl,?_]
 refine zND (K:=K) (ys:=ZCL n tf) (.inl (SqL.of ha1)) (λi σ H'=>∃ v2 v3,σ=[some (.ref a),some (.ref M),v2,v3]/\Same H H'/\H' M=some (.lst (IV (ZAA tf i)))) #[_,_,rfl,g1,c1]
  (λi σ H' hP o ho=>?_) (λi σ H' x r hi hx hP hr'=>?_) (λσ H' hP=>?_)
 ·obtain ⟨_,_,_,g',_⟩:=hP
  rw [ha1] at ho
  cases ho
  exact g' _ _ ha
 ·obtain ⟨v2,v3,rfl,gH,lM⟩:=hP
  rw [zAX] at hi;rw [zCO hi] at hx
  cases hx
  have g2:=UAB hr' (.tup [.int (i:Nat),.bl (tf i)]);have c2:(upd H' r (.tup [.int (i:Nat),.bl (tf i)])) r=some (.tup [.int (i:Nat),.bl (tf i)]):=zA0;generalize upd H' r (.tup [.int (i:Nat),.bl (tf i)])=H2 at g2 c2 ⊢;have gH2:=gH.trans g2;have lM2:=g2 _ _ lM;refine#[r,_,rfl,SqT.of c2,rfl,_,_,rfl,_,_,rfl,rfl,?_]
  have stay:ZCH tf i=false->∀ H9:Hp,Same H2 H9->H9 M=some (.lst (IV (ZAA tf (i+1)))):=λh H9 g9=>by
   rw [g9 _ _ lM2,zFX,h]
   simp
  refine#[_,rfl,_,rfl,?_];refine zD2 (λc=>?_) (λc=>?_)
  ·have okm:OkM ((i:Nat):Int):=#[ oz,oz]
   refine#[_,rfl,_,rfl,okm,λr3 H3 g3 hr3 l3=>#[r3,rfl,?_]];have hlen:(ZDJ ((i:Nat):Int)).length<=12:=zC9 _ 12;have ha3:=g3 _ _ (gH2 _ _ ha);refine zC6 (K:=K) (ys:=(ZDJ ((i:Nat):Int)).map V.int) (.inl (SqL.of l3)) (λj D H'=>Same H3 H'/\H' D=some (.lst ((((ZBS ((i:Nat):Int)).take j).map λk=>tf (i ^^^ 2^k)).map V.bl))) (λD hD=>#[UAB hD _,zA0]) (λj D H' hD hP=>hP.1.at1 r3) (λj D H' x hD hj hx hP=>?_) (λD H' hD hP=>?_)
   ·obtain ⟨g4,lD⟩:=hP
    rw [yAA] at hj;rw [yAa,yAB hj] at hx
    cases hx
    have hjn:j<(ZBS ((i:Nat):Int)).length:=by unfold ZBS;rw [yAA];exact hj
    obtain ⟨k,hk⟩:∃ k:Nat,(ZBS ((i:Nat):Int))[j]=k:=#[_,rfl];have kmem:k∈ZBS ((i:Nat):Int):=by rw [<- hk];exact yAi hjn
    have ek:(ZDJ ((i:Nat):Int))[j]=((k:Nat):Int):=by
     have m0:∀ y∈ZDJ ((i:Nat):Int),0<=y:=λy hy=>by
      unfold ZDJ ZBZ at hy;obtain ⟨z,_,rfl⟩:=yAr.mp hy;lia
     have:=m0 _ (yAi hj)
     have e2:(ZBS ((i:Nat):Int))[j]?=some (ZDJ ((i:Nat):Int))[j].toNat:=by
      unfold ZBS;rw [yAa,yAB hj];rfl
     rw [yAB hjn,hk] at e2
     have:=eAH e2
     lia
    rw [ek];rw [zDQ,yBF,yBC] at kmem;have hlt:=zO2 kmem.2;refine#[rfl,?_];unfold ZHP;dsimp only;rw [yAS rfl];have es:(1:Int)*2^((k:Nat):Int).toNat=((2^k:Nat):Int):=by rw [yAW,yCe,yBi];rfl
    refine#[_,rfl,_,rfl,_,rfl,_,_,rfl,rfl,#[ oz,oz,dQ],_,_,rfl,rfl,a,_,_,_,rfl,rfl,SqL.of (g4 _ _ ha3),(by rw [es,zLR];exact zIM (Nat.lt_trans hlt hi)),_,lD,?_,λc o e=>?_,?_]
    ·rw [yAA,yAA,yAe];lia
    ·rw [zA6 (zA3 e hD)];exact g4 _ _ e
    ·rw [zA0,List.take_succ,yAB hjn,hk,yAQ,yAQ]
     rfl
   ·obtain ⟨g4,lD⟩:=hP
    rw [yAA] at lD
    have e1:(ZBS ((i:Nat):Int)).take (ZDJ ((i:Nat):Int)).length=ZBS ((i:Nat):Int):=by
     rw [yAs];unfold ZBS;rw [yAA];exact yAF _
    rw [e1] at lD;have g5:=g3.trans g4;refine#[D,_,rfl,SqL.of lD,_,rfl,?_];have ea:(((ZBS ((i:Nat):Int)).map λk=>tf (i ^^^ 2^k)).any id)=(ZBS ((i:Nat):Int)).any λk=>tf (i ^^^ 2^k):=by rw [List.any_map];rfl
    rw [ea];have lM5:=g5 _ _ lM2;have big:=zDC tf i;refine zD2 (λc2=>?_) (λc2=>?_)
    ·have hl:ZCH tf i=true:=by
      unfold ZCH;rw [c,yBx]
      simpa using c2
     refine#[_,rfl,.inl #[rfl,_,SqL.of lM5],_,rfl,M,_,_,rfl,rfl,lM5,?_,_,_,rfl,λb o e=>?_,?_]
     ·unfold IV
      rw [yAA];lia
     ·rw [zA6 (zA3 e hM)];exact g5 _ _ (gH2 _ _ e)
     ·rw [zA0,zFX,hl]
      unfold IV;rw [yAQ];rfl
    ·refine#[_,_,rfl,gH2.trans g5,stay ?_ _ g5]
     unfold ZCH;rw [c,yBx]
     simpa using c2
  ·refine zAY #[_,_,rfl,gH2,stay ?_ H2 (Same.refl _)]
   unfold ZCH;rw [show tf i=false by simpa using c];rfl
 ·obtain ⟨v2,v3,rfl,gH,lM⟩:=hP
  rw [zAX] at lM;exact#[_,rfl,q M H' hM gH lM]
theorem Sb.refl (l:Nat):Sb l l:=λ_ h=>h
theorem Sb.trans {a b c:Nat}(h:Sb a b)(g:Sb b c):Sb a c:=λk hk=>g k (h k hk)
theorem Sb.le {l m:Nat}(h:Sb l m):l<=m:=by
 have:=UAJ.mpr h
 rw [<- this];exact Nat.and_le_right
theorem Sb.out {l m b:Nat}(h:Sb l m)(hb:l.testBit b=false):Sb l (m ^^^ 2^b):=λk hk=>by
 have nk:b≠k:=λz=>by rw [<- z,hb] at hk;cases hk
 rw [zI9,yAG nk,yDP];exact h k hk
theorem Sb.of_out {l m b:Nat}(hm:m.testBit b=true)(h:Sb l (m ^^^ 2^b)):Sb l m:=λk hk=>by
 have:=h k hk
 rw [zI9] at this
 by_cases z:b=k
 ·rw [<- z];exact hm
 ·rw [yAG z,yDP] at this;exact this
theorem UAK {f:Nat->Bool}{N:Nat}{x:Int}:x∈ZAA f N ↔ ∃ m:Nat,x=m/\m<N/\ZCH f m=true:=by
 unfold ZAA;rw [yAr]
 constructor
 ·rintro ⟨m,hm,rfl⟩
  rw [yBF,yBC] at hm;exact#[m,rfl,hm.1,hm.2]
 ·rintro ⟨m,rfl,h1,h2⟩
  exact#[m,yBF.mpr #[yBC.mpr h1,h2],rfl]
def zFD (f:Nat->Bool)(N:Nat):(ZAA f N).Nodup:=by
 unfold ZAA;refine yBl.mpr ?_;refine ((List.nodup_range (n:=N)).sublist yCb).imp λh e=>h ?_;lia
def zCA {f:Nat->Bool}{n m:Nat}(n12:n<=12)(hm:m<2^n):ZCH f m=true ↔ f m=true/\∀ b,m.testBit b=true->f (m ^^^ 2^b)=false:=by
 unfold ZCH;rw [yAN,zDQ];simp only [yBE,yED,yBF,yBC,yEM]
 constructor
 ·rintro ⟨h1,h2⟩
  refine#[h1,λb hb=>h2 b #[?_,hb]];have h3:=yCx hb
  rcases yBn b 12 with z|z
  ·exact z
  ·have a1:2^n<=2^12:=yAu dQ n12
   have a2:2^12<=2^b:=yAu dQ z;lia
 ·rintro ⟨h1,h2⟩
  exact#[h1,λb hb=>h2 b hb.2]
def ZP7 (ns:List Nat)(m:Nat):Bool:=ns.any λl=>decide (Sb l m)
theorem UAY {ns:List Nat}{m:Nat}:ZP7 ns m=true ↔ ∃ l∈ns,Sb l m:=by
 unfold ZP7;rw [yAw];simp only [yAI]
theorem UAs {ns:List Nat}{m:Nat}:ZP7 ns m=false ↔ ∀ l∈ns,¬Sb l m:=by
 rw [<- yEM,UAY];exact#[λh l hl hs=>h #[l,hl,hs],λh ⟨l,hl,hs⟩=>h l hl hs]
def zWQ {l k:Nat}(h:Sb l k)(ne:l≠k):∃ b,k.testBit b=true/\l.testBit b=false:=by
 refine eAy λno=>ne (yBR λb=>?_)
 cases e:l.testBit b with
 | true=>exact (h b e).symm
 | false=>
  cases e2:k.testBit b with
  | false=>rfl
  | true=>exact absurd #[b,e2,e] no
def zU1 {ns:List Nat}{n m:Nat}(n12:n<=12)(hm:m<2^n)(h:ZCH (ZP7 ns) m=true):m∈ns:=by
 obtain ⟨h1,h2⟩:=(zCA n12 hm).mp h;obtain ⟨l,hl,sb⟩:=UAY.mp h1
 by_cases e:l=m
 ·rw [<- e];exact hl
 ·obtain ⟨b,b1,b2⟩:=zWQ sb e
  exact absurd (sb.out b2) (UAs.mp (h2 b b1) l hl)
def zEO {ns:List Nat}{n:Nat}(n12:n<=12)(hn:∀ l∈ns,l<2^n):∀ (N l:Nat),l<=N->l∈ns->∃ k,k<2^n/\ZCH (ZP7 ns) k=true/\Sb k l
 | N,l,hN,hl=>by
  have hlt:=hn l hl
  by_cases h:ZCH (ZP7 ns) l=true
  ·exact#[l,hlt,h,Sb.refl l]
  ·have nb:∃ b,l.testBit b=true/\ZP7 ns (l ^^^ 2^b)=true:=by
    refine eAy λno=>h ((zCA n12 hlt).mpr #[UAY.mpr #[l,hl,Sb.refl l],λb hb=>?_])
    cases e:ZP7 ns (l ^^^ 2^b) with
    | false=>rfl
    | true=>exact absurd #[b,hb,e] no
   obtain ⟨b,hb,hd⟩:=nb;obtain ⟨l2,hl2,sb⟩:=UAY.mp hd;have lt2:l2<l:=yDo sb.le (zO2 hb)
   match N,hN with
   | 0,hN=>lia
   | N+1,hN=>
    obtain ⟨k,k1,k2,k3⟩:=zEO n12 hn N l2 oz hl2;exact#[k,k1,k2,k3.trans (sb.of_out hb)]
def zEY {α:Type}[DecidableEq α]:∀ {as bs:List α},as.Nodup->(∀ a∈as,a∈bs)->as.length<=bs.length
 | [],_,_,_=>yBN _
 | a::as,bs,nd,sub=>by
  rw [yDg] at nd;have ha:=sub a (yAU ..)
  have:=zEY (as:=as) (bs:=bs.erase a) nd.2 λx hx=>by
   have:x≠a:=λe=>nd.1 (by rw [<- e];exact hx)
   exact (List.mem_erase_of_ne this).mpr (sub x (yAL _ hx))
  rw [List.length_erase_of_mem ha] at this
  have:=List.length_pos_of_mem ha
  rw [yBK];lia
structure UA5 (n:Nat)(ms ls:List Int):Prop where
 ok:MsOk n ls
 few:ls.length<=ms.length
 sub:∀ l∈ls,l∈ms
 below:∀ m∈ms,∃ l∈ls,eA3 l m=l
 least:∀ l∈ls,∀ m∈ms,eA3 m l=m->m=l
def zMI {n:Nat}{ms:List Int}(n12:n<=12)(ok:∀ m∈ms,0<=m/\m<2^n):UA5 n ms (ZAA (ZAU ms) (2^n)):=by
 obtain ⟨ns,rfl⟩:=zLX λm hm=>(ok m hm).1
 have okn:∀ l∈ns,l<2^n:=λl hl=>by
  have:=(ok l (yAr.mpr #[l,hl,rfl])).2
  exact_mod_cast this
 have ef:ZAU (ns.map λ(n:Nat)=>(n:Int))=ZP7 ns:=funext λm=>zID ns m;rw [ef]
 have mem:∀ x∈ZAA (ZP7 ns) (2^n),∃ k:Nat,x=k/\k<2^n/\ZCH (ZP7 ns) k=true/\k∈ns:=λx hx=>by
  obtain ⟨k,e,h1,h2⟩:=UAK.mp hx;exact#[k,e,h1,h2,zU1 n12 h1 h2]
 have sub:∀ l∈ZAA (ZP7 ns) (2^n),l∈ns.map λ(n:Nat)=>(n:Int):=λl hl=>by
  obtain ⟨k,rfl,_,_,h⟩:=mem l hl;exact yAr.mpr #[k,h,rfl]
 refine#[#[zFD _ _,λm hm=>ok m (sub m hm)],zEY (zFD _ _) sub,sub,λm hm=>?_,λl hl m hm e=>?_]
 ·obtain ⟨l,hl,rfl⟩:=yAr.mp hm
  obtain ⟨k,k1,k2,k3⟩:=zEO n12 okn l l (yAF _) hl;refine#[((k:Nat):Int),UAK.mpr #[k,rfl,k1,k2],?_];rw [zB7,UAJ.mpr k3]
 ·obtain ⟨k,rfl,k1,k2,_⟩:=mem l hl
  obtain ⟨j,hj,rfl⟩:=yAr.mp hm;rw [zB7] at e;have sb:Sb j k:=UAJ.mp oz
  by_cases z:j=k
  ·rw [z]
  ·obtain ⟨b,b1,b2⟩:=zWQ sb z
   exact absurd (sb.out b2) (UAs.mp (((zCA n12 k1).mp k2).2 b b1) j hj)
def JD5 (CS C:Addr):=∀ p xs ms,vs=[.ref p]->UAH CS C H p xs ms->Ord xs ms->(∀ D H',H D=none->Same H H'->H' D=some (.lst (ZCL xs.length (ZAU ms)))->Q (.ref D) H')->JD5 CS C vs H Q E
def JD6 (CS C:Addr):=∀ nm tb xs f,vs=[.ref nm,.ref tb]->H nm=some (.lst xs)->ZFY (some xs)=true->H tb=some (.lst (ZCL xs.length f))->(ZAA f (2^xs.length)).length<=1000->(∀ p H' zs,H p=none->Same H H'->UAH CS C H' p xs zs->zs.Perm (ZAA f (2^xs.length))->Ord xs zs->Q (.ref p) H')->JD6 CS C vs H Q E
def JD7 (CS C:Addr):=∀ p xs ms,vs=[.ref p]->UAH CS C H p xs ms->Ord xs ms->ZFY (some xs)=true->(∀ p' H' zs,H p'=none->Same H H'->UAH CS C H' p' xs zs->zs.Perm (ZAA (ZAU ms) (2^xs.length))->Ord xs zs->Q (.ref p') H')->JD7 CS C vs H Q E
def zZQ:UAC ["self"] ["self"] (ZA4 zPQ):=by trivial
def zTT (F:Fun K "table" "System.table" zPQ f fd)(clS:Cls K CS)(nG:UAE K CS "ground")(nM:UAE K CS "masks")(cl:Cls K C)(M1:Meth K C "size" a1)(O1:Fk 1 a1 d1 ["self"] (JA7 C))(b1:UAD K d1 ["self"] [])
  (D2:Df 1 "table_of" ["masks","many"] (JD3 K) a2 d2):Fk 2 f fd ["self"] (JD5 CS C):=by
 refine fk F.ok zZQ;obtain ⟨p,xs,ms,rfl,hS,hO,q⟩:=h;obtain ⟨dx,g,t,hp,hH,ht⟩:=id hS;obtain ⟨gx,t',d,h1,h2,h3⟩:=id hH;refine#[_,zA2 (zA7 (kq D2 hr #v[(zAO (pv 0) rfl),(zBE (zAO (pv 0) rfl) cl M1 O1 hr b1 .nil zAT)])),?_];refine#[_,rfl,p,CS,dx,_,_,rfl,hp,clS,nM,rfl,_,rfl,p,CS,dx,_,_,rfl,hp,clS,nG,rfl,g,gx,_,rfl,h1,rfl,g,xs,rfl,hH,?_];exact#[t,xs.length,ms,rfl,hO.gn.hi,.inr (SqT.of ht),by rw [ht];simp,hO.ok,q]
theorem UAk:UAC ["names","table","houses"] ["names","table"] (ZA4 zJ5):=by trivial
def zO6 (F:Fun K "system_by_table" "system_by_table" zJ5 f fd)(cl:Cls K C)(MC:Mk K C f1)(OC:Fk 4 f1 e1 ["self","names"] (JA5 C))(bC:UAD K e1 ["self","names"] [])(mC:mg "Houses"=some (.ref C))
  (M1:Meth K C "set_of" a1) (O1:Fk 3 a1 d1 ["self","mask"] (JB4 C)) (b1:UAD K d1 ["self","mask"] []) (D2:Df 2 "least_masks" ["table"] JD4 a2 d2)
  (MS:Mk K CS fS) (OS:Fk 6 fS dS' ["self","houses","lots"] (JB6 CS C)) (bS:UAD K dS' ["self","houses","lots"] []) (mS:mg "System"=some (.ref CS)):Fk 8 f fd ["names","table"] (JD6 CS C):=by
 refine fk F.ok UAk;obtain ⟨nm,tb,xs,tf,rfl,hnm,are,htb,h64,q⟩:=h;have hG:=zF3 are;have hr2:Room 2 _:=hr.mono dQ;have hr3:Room 3 _:=hr.mono dQ;have hr5:Room 5 _:=hr.mono dQ
 refine#[_,zA1 (zE7 (i:=2) UAk.nd rfl (Or.inr rfl) (zGP MC OC hr5 rfl mC bC .nil zAT #v[(pv 0)]))
  (zA2 (zA7 (zGP MS OS hr rfl mS bS .nil zAT (zBP (pv 0) (zBP (zAQ (xs:=["mask"]) (fv:=[("houses",2)]) rfl dk #[#[rfl,Or.inl rfl,rfl],trivial] (zB2 (kq D2 hr2 #v[(pv 1)]))
   (λ_ _ _ _ _=>zAG (i:=0) (ndT dk) rfl (Or.inl rfl)) (λ_ _ _ _ _=>zBD) (λ_ _ _ _ _=>zAS (pv 1) cl M1 O1 hr3 b1 .nil zAT #v[(pv 0)])) zB5))))),?_]
 refine#[_,rfl,λg gx hg hgx ne=>?_];have k1:Same H (upd (upd H gx (.own g)) g (.ins C gx [])):=λc o hc=>by rw [zA6 (zA3 hc hg),zA6 (zA3 hc hgx)];exact hc
 have i1:(upd (upd H gx (.own g)) g (.ins C gx [])) g=some (.ins C gx []):=zA0;generalize upd (upd H gx (.own g)) g (.ins C gx [])=H1 at k1 i1 ⊢;refine#[g,gx,_,xs,rfl,i1,.lst (k1 _ _ hnm),zS4 hG,by have:=hG.hi;lia,are,λH2 k2 hH2=>#[rfl,?_]];have s2:Same H H2:=λc o hc=>k2 c o (k1 _ _ hc) (zA3 hc hg)
 have ok:MsOk xs.length (ZAA tf (2^xs.length)):=#[zFD _ _,λm hm=>by
  obtain ⟨k,rfl,h,_⟩:=UAK.mp hm;exact#[ oz,by exact_mod_cast h]]
 refine#[_,rfl,_,rfl,tb,xs.length,tf,rfl,hG.hi,s2 _ _ htb,λD H3 hD g3 lD=>#[D,rfl,?_]];have hH3:=hH2.same g3
 refine zC6 (K:=K) (ys:=IV (ZAA tf (2^xs.length))) (.inl (SqL.of lD)) (λi L H'=>Same H3 H'/\∃ vs:List Addr,H' L=some (.lst (vs.map V.ref))/\vs.length=i/\(∀ v∈vs,H3 v=none/\v≠L)/\∀ (j:Nat) v m,vs[j]?=some v->(ZAA tf (2^xs.length))[j]?=some m->H' v=some (.lst (ZBT xs m)))
  (λL hL=>#[UAB hL _,[],zA0,rfl,(λ_ h=>nomatch h),λj v m h=>by cases h]) (λi L H' hL hP=>hP.1.at1 D) (λi L H' x hL hi hx hP=>?_) (λL H' hL hP=>?_)
 ·obtain ⟨g4,vs,lL,lz,nw,rw'⟩:=hP
  unfold IV at hx hi;rw [yAA] at hi;rw [yAa,yAB hi] at hx
  cases hx
  have hm:=ok.ok _ (yAi hi);have hH4:=hH3.same g4;obtain ⟨gx',t',d,h1,h2,h3⟩:=id hH4;refine#[rfl,?_];unfold ZHP;dsimp only;rw [yAS rfl];refine#[_,rfl,g,gx',_,rfl,h1,rfl,_,rfl,g,xs,_,rfl,hH4,hG.hi,hm.1,hm.2,λr H5 hr' g5 l5=>#[_,g5 _ _ lL,?_,λc o e=>?_,vs++[r],?_,?_,?_,?_]]
  ·rw [yAA]
   have:1000<eA5:=by decide
   lia
  ·rw [zA6 (zA3 e hL)];exact (g4.trans g5) _ _ e
  ·rw [zA0,yAQ];rfl
  ·rw [yAV,lz];rfl
  ·intro v hv
   rcases yAb.mp hv with z|z
   ·exact nw v z
   ·rw [yAE.mp z]
    exact#[g4.free hr',λe=>by rw [e,lL] at hr';cases hr']
  ·intro j v m hj hmj
   rcases yBn j i with c|c
   ·rw [yAv oz] at hj
    rw [zA6 (nw v (yAk hj)).2];exact g5 _ _ (rw' j v m hj hmj)
   ·have ej:j=i:=by
     have:=(yAH.mp hj).1
     rw [yAV] at this
     simp at this
     lia
    subst ej;rw [yAt oz,lz,yCn] at hj
    cases hj
    rw [yAB hi] at hmj
    cases hmj
    rw [zA6 (λe=>by rw [e,lL] at hr';cases hr')];exact l5
 ·obtain ⟨g4,vs,lL,lz,nw,rw'⟩:=hP
  have il:(IV (ZAA tf (2^xs.length))).length=(ZAA tf (2^xs.length)).length:=by unfold IV;rw [yAA]
  intro p dx hp hdx ne';have s4:=(s2.trans g3).trans g4;refine zII (b:=p) (H0:=H3) hG are ok h64 (.lst (s4 _ _ hnm)) (.lst lL) #[by rw [lz,il],λv hv=>(nw v hv).1,λj v m a b=>#[_,.lst (rw' j v m a b),eAp _]] hp hdx λH6 zs g6 hS6 pz O=>#[rfl,?_];exact q p H6 zs (s4.free hp) (s4.trans g6) hS6 pz O
def zb7:∀ {xs ys:List V},Strs xs->Strs ys->eAz (dS xs) (dS ys)=decide (xs=ys)
 | [],[],_,_=>by rw [yAJ rfl];rfl
 | [],_::_,_,_=>by rw [yAG (λh=>nomatch h)];rfl
 | _::_,[],_,_=>by rw [yAG (λh=>nomatch h)];rfl
 | v::r,u::q,hx,hy=>by
  show ((ZAM v==ZAM u)&&eAz (dS r) (dS q))=_;rw [zb7 (λw hw=>hx w (yAL _ hw)) (λw hw=>hy w (yAL _ hw)),yAd,yAN,yAm,yAI,yAI];have h1:=(hx v (yAU ..)).1;have h2:=(hy u (yAU ..)).1
  constructor
  ·rintro ⟨a,b⟩
   rw [h1,h2,a,b]
  ·intro h
   injection h with a b
   exact#[by rw [a],b]
def zeT:∀ bs cs:List Bool,eAz (bs.map eAg) (cs.map eAg)=decide (bs=cs)
 | [],[]=>by rw [yAJ rfl];rfl
 | [],_::_=>by rw [yAG (λh=>nomatch h)];rfl
 | _::_,[]=>by rw [yAG (λh=>nomatch h)];rfl
 | b::r,c::q=>by
  have e:eAh (.bool b) (.bool c)=(b==c):=by cases b<;>cases c<;>rfl
  show (eAh (.bool b) (.bool c)&&eAz (r.map eAg) (q.map eAg))=_;rw [e,zeT r q,yAd,yAN,yAm,yAI,yAI,List.cons.injEq]
def ze2:∀ bs:List Bool,eAk (bs.map eAg)=true
 | []=>rfl
 | b::r=>by
  show (true&&eAk (r.map eAg))=true;rw [ze2 r];rfl
def zWZ:∀ bs:List Bool,eAl (bs.map eAg)<=1
 | []=>by simp [eAl]
 | b::r=>by
  have:=zWZ r
  simp only [yAq,eAl,eAm];lia
theorem DVs.bls {K:Frag}{H:Hp}:∀ bs:List Bool,DVs K H (bs.map V.bl) (bs.map eAg)
 | []=>.nil
 | b::r=>.cons (.bl b) (DVs.bls r)
def ZJI (n:Nat)(f:Nat->Bool):List Bool:=(eAJ (2^n)).map f
def zZE (n:Nat)(f:Nat->Bool):ZCL n f=(ZJI n f).map V.bl:=by
 unfold ZCL ZJI;rw [yCA];rfl
def zW6 {K:Frag}{neg:Bool}{a b:Addr}{n m:Nat}{f g:Nat->Bool}{H:Hp}{Q:VK}(ha:H a=some (.lst (ZCL n f)))(hb:H b=some (.lst (ZCL m g)))(h:Q (.bl (if neg then !decide (ZJI n f=ZJI m g) else decide (ZJI n f=ZJI m g))) H):KC2 K neg (.ref a) (.ref b) H Q:=by
 rw [zZE] at ha hb;refine#[.list ((ZJI n f).map .bool),.list ((ZJI m g).map .bool),.lst (SqL.of ha) (DVs.bls _),.lst (SqL.of hb) (DVs.bls _),ze2 _,ze2 _,?_,?_]
 ·have:=zWZ (ZJI n f)
  simp only [eAm];lia
 ·have e:eAh (.list ((ZJI n f).map .bool)) (.list ((ZJI m g).map .bool))=decide (ZJI n f=ZJI m g):=zeT _ _
  rw [e];exact h
def zK9 {K:Frag}{neg:Bool}{a b:Addr}{xs ys:List V}{H:Hp}{Q:VK}(hx:Strs xs)(hy:Strs ys)(ha:H a=some (.lst xs))(hb:H b=some (.lst ys))(h:Q (.bl (if neg then !decide (xs=ys) else decide (xs=ys))) H):KC2 K neg (.ref a) (.ref b) H Q:=by
 refine#[.list (dS xs),.list (dS ys),.lst (SqL.of ha) (zFI hx),.lst (SqL.of hb) (zFI hy),zDY hx,zDY hy,?_,?_]
 ·have:=zDX xs
  simp only [eAm];lia
 ·have e:eAh (.list (dS xs)) (.list (dS ys))=decide (xs=ys):=zb7 hx hy
  rw [e];exact h
def JD8 (C:Addr):=∀ p q xs ys,vs=[.ref p,.ref q]->UAF C H p xs->UAF C H q ys->GN xs->GN ys->(∀ H',Same H H'->Q (.bl (decide (xs=ys))) H')->JD8 C vs H Q E
def ZcL (xs ys:List V)(ms ns:List Int):Bool:=decide (xs=ys)&&decide (ZJI xs.length (ZAU ms)=ZJI ys.length (ZAU ns))
def JD9 (CS C:Addr):=∀ p q xs ys ms ns,vs=[.ref p,.ref q]->UAH CS C H p xs ms->Ord xs ms->UAH CS C H q ys ns->Ord ys ns->(∀ H',Same H H'->Q (.bl (ZcL xs ys ms ns)) H')->JD9 CS C vs H Q E
theorem Row.keep {H H':Hp}{v:Addr}{ys:List V}(h:At1 v H H')(r:Row H (.ref v) (some ys)):Row H' (.ref v) (some ys):=by
 generalize hw:V.ref v=u at r
 cases r with
 | lst r'=>cases hw;exact .lst (h _ r')
 | tup r'=>cases hw;exact .tup (h _ r')
 | _=>cases hw
theorem Row.kept {H H':Hp}{v:Addr}{ys:List V}(h:H' v=H v)(r:Row H (.ref v) (some ys)):Row H' (.ref v) (some ys):=r.keep λo e=>h.trans e
structure UAR (b:Addr)(xs:List V)(ns:List Int)(vs:List Addr)(L:Addr)(H0 H:Hp):Prop where
 top:H L=some (.lst (vs.map V.ref))
 new:∀ v∈vs,H0 v=none/\v≠L
 rows:∀ (j:Nat) v m,vs[j]?=some v->ns[j]?=some m->∃ ys,Row H (.ref v) (some ys)/\ys.Perm (ZBT xs m)
theorem UAR.snoc {b:Addr}{xs:List V}{ns:List Int}{vs:List Addr}{L r:Addr}{H0 H H':Hp}{m:Int}{ys:List V}{i:Nat}(h:UAR b xs ns vs L H0 H)(hb:UAG H0 b)(hi:vs.length=i)(hm:ns[i]?=some m)(aw:Away b H0 H)(bx:UAG H b)(a2:Away b H H')(hr:H r=none)(row:Row H' (.ref r) (some ys))(pm:ys.Perm (ZBT xs m)) :
  UAR b xs ns (vs++[r]) L H0 (upd H' L (.lst (vs.map V.ref++[.ref r]))):=by
 have nD:r≠L:=λe=>by rw [e,h.top] at hr;cases hr
 have vb:∀ v∈vs,v≠b:=λv hv e=>hb.ne (h.new v hv).1 e.symm;refine#[by rw [zA0,yAQ];rfl,λv hv=>?_,λj v m' hj hmj=>?_]
 ·rcases yAb.mp hv with z|z
  ·exact h.new v z
  ·rw [yAE.mp z]
   exact#[aw.free bx hr,nD]
 ·rcases yBn j i with c|c
  ·rw [yAv oz] at hj
   obtain ⟨ys',r',p'⟩:=h.rows j v m' hj hmj;have mv:=yAk hj;refine#[ys',r'.keep λo e=>?_,p'];rw [zA6 (h.new v mv).2];exact a2 v o e (vb v mv)
  ·have ej:j=i:=by
    have:=(yAH.mp hj).1
    rw [yAV] at this
    simp at this
    lia
   subst ej;rw [yAt oz,hi,yCn] at hj
   cases hj
   rw [hm] at hmj
   cases hmj
   exact#[ys,row.kept (zA6 nD),pm]
def JE0 (K:Frag):=∀ b nm M xs ms,vs=[.ref b,.ref nm,.ref M]->UAG H b->nm≠b->M≠b->H nm=some (.lst xs)->GN xs->H M=some (.lst (IV ms))->ms.length<=100->MsOk xs.length ms->(∀ r H' vs ns,H r=none->Row H' (.ref r) (some (vs.map V.ref))->ns.Perm ms->UA4 b xs ns vs H H'->UAG H' b->Away b H H'->Q (.ref r) H')->JE0 K vs H Q E
def zGD:UAC ["_law_box_here","_law_names_here","_law_masks_here","_law_lots_here","_law_mask","_law_lot"] ["_law_box_here","_law_names_here","_law_masks_here"] (ZA4 zM7):=by trivial
def zQO (F:Fun K "_law_handed" "_law_handed" zM7 f fd)(mt:mg "tuple"=none)(D1:Df 1 "_law_take" ["_law_box_here","_law_many"] JC2 a1 d1)
  (D2:Df 2 "_law_mixed" ["_law_box_here","_law_some"] JC7 a2 d2) (D3:Df 1 "_law_set" ["_law_names_here","_law_mask"] (JC6 K) a3 d3):Fk 3 f fd ["_law_box_here","_law_names_here","_law_masks_here"] (JE0 K):=by
 refine fk F.ok zGD;obtain ⟨b,nm,M,xs,ms,rfl,hb,nmb,Mb,hnm,hG,hM,h100,ok,q⟩:=h;have hr1:Room 1 _:=hr.mono dQ
 refine#[_,zA1 (kS9 3 zGD (zB1 zB5))
  (zA1 (zBK eAx rfl (zB2 (kq D2 hr #v[(pv 0),(pv 2)])) (kG9 4 zGD)
   (zA1 (kS9 5 zGD (kq D2 hr #v[(pv 0),(kq D3 hr1 #v[(pv 1),(pv 4)])]))
   (zA2 (zBC (zH4 yBU yBY yBX zBN (pv 3) (zBP
    (zBF zAJ (zB1 #v[(pv 5),(zB6 zBA rfl mt yAx #v[(pv 5)])]) (kq D1 hr1 #v[(pv 0),zA5]) (λ_ _=>rfl)) zB5))))))
  (zA2 (zA7 (zBF zAJ (zB1 #v[(pv 3),(zB6 zBA rfl mt yAx #v[(pv 3)])]) (kq D1 hr1 #v[(pv 0),zA5]) (λ_ _=>rfl))))),?_]
 refine sH λC1 f1=>?_;refine#[(by show 0<=eA5;decide),λL hL=>?_];have g1:=UAB hL (.lst []);have c1:(upd H L (.lst [])) L=some (.lst []):=zA0;have Lb:L≠b:=(hb.ne hL).symm;have nml:nm≠L:=λe=>by rw [e,hL] at hnm;cases hnm
 generalize upd H L (.lst [])=H1 at g1 c1 ⊢;have s1000:1000<eA5:=by decide
 refine gNs (sR f1 (sfH λbd eb C2 f2=>?_));refine#[_,rfl,_,rfl,b,M,IV ms,rfl,hb.same g1,g1 _ _ hM,by unfold IV;rw [yAA];lia,λv hv=>by obtain ⟨m,_,rfl⟩:=yAr.mp hv;exact UAl.int m,λD H2 ys hD l2 pm b2 a2=>?_];obtain ⟨ns,rfl,pn⟩:=zDU pm;have nlen:ns.length<=100:=by rw [pn.length_eq];exact h100
 have okn:MsOk xs.length ns:=#[pn.nodup_iff.mpr ok.nd,λm hm=>ok.ok m (pn.mem_iff.mp hm)];have aw2:Away b H H2:=(zAE g1).trans a2;have Db:D≠b:=((hb.same g1).ne hD).symm;have DL:D≠L:=λe=>by rw [e,c1] at hD;cases hD
 refine#[D,rfl,?_]
 refine zC5 (K:=K) (ys:=IV ns) (.inl (SqL.of l2)) (λi σ H'=>∃ v4 v5 vs,σ=[some (.ref b),some (.ref nm),some (.ref M),some (.ref L),v4,v5]/\Away b H H'/\H' D=some (.lst (IV ns))/\UAG H' b/\vs.length=i/\UAR b xs ns vs L H H')
  #[_,_,[],rfl,aw2,l2,b2,rfl,#[(a2 L _ c1 Lb),(λ_ h=>nomatch h),λj v m h=>by cases h]] (λi σ H' hP o ho=>?_) (λi σ H' x hi hx hP=>?_) (λσ H' hP=>?_)
 ·obtain ⟨_,_,_,_,_,a,_⟩:=hP
  rw [l2] at ho
  cases ho
  exact a
 ·refine gNs (sR eb (dH λD0 eD=>sH λB1 e1=>?_))
  obtain ⟨v4,v5,vs,rfl,aw,awD,bx,lz,R⟩:=hP;unfold IV at hx hi;rw [yAA] at hi;rw [yAa,yAB hi] at hx
  cases hx
  have hm:=okn.ok _ (yAi hi);refine#[_,rfl,_,rfl,_,rfl,nm,xs,_,rfl,.inl (SqL.of (aw _ _ hnm nmb)),hG.hi,hm.1,hm.2,λS3 H3 hS3 g3 l3=>?_];refine#[b,S3,_,rfl,bx.same g3,l3,yAp (zDB xs _) dQ,(zBY hG hm.1 hm.2).plain,λD4 H4 ys hD4 l4 pm4 b4 a4=>?_];have a14:Away b H' H4:=(zAE g3).trans a4;have hD4':H' D4=none:=g3.free hD4;refine gNs (sR e1 ?_);refine#[_,rfl,.inl #[rfl,_,SqL.of (a14 _ _ R.top Lb)],_,rfl,_,rfl,D4,ys,rfl,.inl #[SqL.of l4,λt ht=>#[(by show 2<=eA5;decide),λl hl=>?_]]];have g5:=(UAB ht (.tup ys)).trans (UAB hl (.lst [.ref D4,.ref t]));have t5:(upd (upd H4 t (.tup ys)) l (.lst [.ref D4,.ref t])) t=some (.tup ys):=UAB hl _ _ _ zA0;have l5:(upd (upd H4 t (.tup ys)) l (.lst [.ref D4,.ref t])) l=some (.lst [.ref D4,.ref t]):=zA0;have ht':H' t=none:=a14.free b4 ht;have hl':H' l=none:=a14.free b4 ((UAB ht (.tup ys)).free hl);generalize upd (upd H4 t (.tup ys)) l (.lst [.ref D4,.ref t])=H5 at g5 t5 l5 ⊢;refine#[_,rfl,b,2,rfl,dQ,dQ,b4.same g5,λk H6 k0 k1 b6 t6=>?_];have nb:∀ {c:Addr},H' c=none->c≠b:=λh=>(bx.ne h).symm;obtain ⟨j,hj,ej,hat⟩:=zeN (xs:=[V.ref D4,V.ref t]) k0 (by show k<2;lia);refine#[l,_,_,_,rfl,rfl,SqL.of ((t6 l (nb hl')).trans l5),hat,?_];have a16:Away b H' H6:=(a14.trans (zAE g5)).trans t6.away;have small:(vs.map V.ref).length<eA5:=by rw [yAA];lia
  have hmi:ns[i]?=some ns[i]:=yAB hi
  have stepK:∀ r ys',H' r=none->Row H6 (.ref r) (some ys')->ys'.Perm (ZBT xs ns[i])->∃ v4' v5' vs',[some (V.ref b),some (.ref nm),some (.ref M),some (.ref L),some (.int ns[i]),some (.ref D4)]=[some (.ref b),some (.ref nm),some (.ref M),some (.ref L),v4',v5']/\Away b H (upd H6 L (.lst (vs.map V.ref++[.ref r])))/\(upd H6 L (.lst (vs.map V.ref++[.ref r]))) D=some (.lst (IV ns))/\UAG (upd H6 L (.lst (vs.map V.ref++[.ref r]))) b/\vs'.length=i+1/\UAR b xs ns vs' L H (upd H6 L (.lst (vs.map V.ref++[.ref r]))):=λr ys' hr row pm=>by
   refine#[_,_,vs++[r],rfl,λc o hc n=>?_,by rw [zA6 DL];exact a16 _ _ awD Db,b6.same2 Lb.symm,by rw [yAV,lz];rfl,R.snoc hb lz hmi aw bx a16 hr row pm]
   ·rw [zA6 (zA3 hc hL)];exact a16 c o (aw c o hc n) n
  have hj2:j=0 \/ j=1:=by
   have:j<2:=hj
   lia
  rcases hj2 with rfl|rfl
  ·refine#[L,_,_,rfl,rfl,a16 _ _ R.top Lb,small,?_]
   subst eD;exact stepK D4 ys hD4' (.lst ((t6 D4 (nb hD4')).trans (g5 _ _ l4))) pm4
  ·refine#[L,_,_,rfl,rfl,a16 _ _ R.top Lb,small,?_]
   subst eD;exact stepK t ys ht' (.tup ((t6 t (nb ht')).trans t5)) pm4
 ·refine sR f2 ?_
  obtain ⟨v4,v5,vs,rfl,aw,awD,bx,lz,R⟩:=hP;have lz:vs.length=ns.length:=by rw [lz];unfold IV;rw [yAA]
  refine#[_,rfl,_,rfl,L,_,rfl,.inl #[SqL.of R.top,λt ht=>#[(by show 2<=eA5;decide),λl hl=>?_]]];have g5:=(UAB ht (.tup (vs.map V.ref))).trans (UAB hl (.lst [.ref L,.ref t]));have t5:(upd (upd H' t (.tup (vs.map V.ref))) l (.lst [.ref L,.ref t])) t=some (.tup (vs.map V.ref)):=UAB hl _ _ _ zA0;have l5:(upd (upd H' t (.tup (vs.map V.ref))) l (.lst [.ref L,.ref t])) l=some (.lst [.ref L,.ref t]):=zA0;have ht':H t=none:=aw.free bx ht;have hl':H l=none:=aw.free bx ((UAB ht (.tup (vs.map V.ref))).free hl);generalize upd (upd H' t (.tup (vs.map V.ref))) l (.lst [.ref L,.ref t])=H5 at g5 t5 l5 ⊢;refine#[_,rfl,b,2,rfl,dQ,dQ,bx.same g5,λk H6 k0 k1 b6 t6=>?_];have nb:∀ {c:Addr},H c=none->c≠b:=λh=>(hb.ne h).symm;obtain ⟨j,hj,ej,hat⟩:=zeN (xs:=[V.ref L,V.ref t]) k0 (by show k<2;lia);refine#[l,_,_,_,rfl,rfl,SqL.of ((t6 l (nb hl')).trans l5),hat,?_];have a16:Away b H' H6:=(zAE g5).trans t6.away
  have R1:UA4 b xs ns vs H H6:=#[lz,λv hv=>(R.new v hv).1,λj v m h1 h2=>by
   obtain ⟨ys,r,p⟩:=R.rows j v m h1 h2;have nv:=(R.new v (yAk h1)).1;exact#[ys,r.keep λo e=>a16 v o e (nb nv),p]]
  have hj2:j=0 \/ j=1:=by
   have:j<2:=hj
   lia
  rcases hj2 with rfl|rfl
  ·exact q L H6 vs ns hL (.lst (a16 _ _ R.top Lb)) pn R1 b6 (aw.trans a16)
  ·exact q t H6 vs ns ht' (.tup ((t6 t (nb ht')).trans t5)) pn R1 b6 (aw.trans a16)
def zDN {K:Frag}{ns:List Str}{fv:List (Str×Nat)}{g:TG}{tt:TT}{tb:TB}{σ:St}{H1:Hp}{Q:VK}{a:Addr}{ms:List Int}(p:Int->Bool)(sq:Sq K H1 a (IV ms))(hlen:ms.length<=1000)
  (step:∀ m,m∈ms->∀ (D:Addr) (H':Hp) (N:Hp->Prop),Same H1 H'->(∀ H3,Same H' H3->if p m=true then (∃ ys,H3 D=some (.lst ys)/\ys.length<eA5/\N (upd H3 D (.lst (ys++[.int m])))) else N H3) ->
   g (.int m) (ρT ns fv σ) H' λσ2 H2=>ZIK ns (ρT ns fv σ) σ2/\tt σ2 H2 λb H3=>if b=true then tb D σ2 H3 N else N H3)
  (hd:∀ D H',H1 D=none->Same H1 H'->H' D=some (.lst (IV (ms.filter p)))->Q (.ref D) H') :
  (∃ xs,SqL K H1 a xs)/\ZCY (.lst []) ns fv g tt tb σ (Itl K a) H1 Q \/ (∃ xs,SqT K H1 a xs)/\ZCY (.lst []) ns fv g tt tb σ (Itt K a) H1 Q:=by
 have s1000:1000<eA5:=by decide
 refine zC6 (K:=K) (ys:=IV ms) sq (λi D H'=>Same H1 H'/\H' D=some (.lst (IV ((ms.take i).filter p)))) (λD hD=>#[UAB hD _,zA0]) (λi D H' hD hP=>hP.1.at1 a) (λi D H' x hD hi hx hP=>?_) (λD H' hD hP=>?_)
 ·obtain ⟨g2,lD⟩:=hP
  unfold IV at hx hi;rw [yAA] at hi;rw [yAa,yAB hi] at hx
  cases hx
  have et:ms.take (i+1)=ms.take i++[ms[i]]:=by rw [List.take_succ,yAB hi];rfl
  refine step ms[i] (yAi hi) D H' _ g2 λH3 g3=>?_;have lD3:=g3 _ _ lD;refine zD2 (λc=>?_) (λc=>?_)
  ·refine#[_,lD3,?_,λb o e=>?_,?_]
   ·unfold IV
    rw [yAA]
    have:=yCN p (ms.take i)
    rw [yAe] at this;lia
   ·rw [zA6 (zA3 e hD)];exact (g2.trans g3) _ _ e
   ·rw [zA0,et,yCi,yCc c]
    unfold IV;rw [yAQ];rfl
  ·refine#[g2.trans g3,?_]
   rw [lD3,et,yCi,yCd c,List.filter_nil,yBh]
 ·obtain ⟨g2,lD⟩:=hP
  have el:(IV ms).length=ms.length:=by unfold IV;rw [yAA]
  rw [el,yCz] at lD;exact hd D H' hD g2 lD
def zG8 {K:Frag}{neg:Bool}{a b:Addr}{ms:List Int}{H:Hp}{Q:VK}(ha:H a=some (.lst (IV ms)))(hb:H b=some (.lst []))(h:Q (.bl (if neg then !ms.isEmpty else ms.isEmpty)) H):KC2 K neg (.ref a) (.ref b) H Q:=by
 have lay:∀ l:List Int,eAk (l.map eAf)=true:=λl=>by
  induction l with
  | nil=>rfl
  | cons m r ih=>
   show (true&&eAk (r.map eAf))=true;rw [ih];rfl
 have dep:∀ l:List Int,eAl (l.map eAf)<=1:=λl=>by
  induction l with
  | nil=>simp [eAl]
  | cons m r ih=>
   simp only [yAq,eAl,eAm];lia
 refine#[.list (ms.map .int),.list [],.lst (SqL.of ha) (DVs.ints ms),.lst (SqL.of hb) .nil,lay ms,rfl,?_,?_]
 ·have:=dep ms
  simp only [eAm];lia
 ·have e:eAh (.list (ms.map .int)) (.list [])=ms.isEmpty:=by cases ms<;>rfl
  rw [e];exact h
def ZJ6 (ms:List Int)(m:Int):List Int:=ms.filter λo=>!decide (o=m)&&decide (eA3 o m=o)
def ZJL (ms:List Int):List Int:=ms.filter λm=>(ZJ6 ms m).isEmpty
def zOS {ms:List Int}{m:Int}:m∈ZJL ms ↔ m∈ms/\∀ o∈ms,eA3 o m=o->o=m:=by
 unfold ZJL ZJ6;rw [yBF,List.isEmpty_iff,yEO];refine and_congr_right λ_=>forall_congr' λo=>forall_congr' λ_=>?_;rw [yAN,yBE,decide_eq_false_iff_not,yAI]
 constructor
 ·intro h e
  exact eAy λn=>h #[n,e]
 ·rintro h ⟨n,e⟩
  exact n (h e)
def zGY {n:Nat}{ms:List Int}(n12:n<=12)(ok:MsOk n ms):(ZJL ms).Perm (ZAA (ZAU ms) (2^n)):=by
 have LO:=zMI n12 ok.ok;refine (List.perm_ext_iff_of_nodup (ok.nd.sublist yCb) LO.ok.nd).mpr λm=>?_;show m∈ZJL ms ↔ _;rw [zOS]
 constructor
 ·rintro ⟨h,f⟩
  obtain ⟨l,hl,e⟩:=LO.below m h;rw [<- f l (LO.sub l hl) e];exact hl
 ·exact λh=>#[LO.sub m h,λo ho e=>LO.least m h o ho e]
def zKG (p:Int->Bool)(ms:List Int):(!(ms.filter p).isEmpty)=ms.any p:=by
 rw [yAd,yBE,yDu,ne_eq,yEO,yAw]
 constructor
 ·intro h
  exact eAy λn=>h λa ha hb=>n #[a,ha,hb]
 ·rintro ⟨a,ha,hb⟩ h
  exact h a ha hb
def zPH (p:Int->Bool)(ms:List Int):(ms.filter p).isEmpty=!ms.any p:=by
 rw [<- zKG,Bool.not_not]
def zVW {ms zs:List Int}(h:zs.Perm ms)(p:Int->Bool):zs.any p=ms.any p:=by
 rw [yAd,yAw,yAw];exact#[λ⟨a,ha,hb⟩=>#[a,h.mem_iff.mp ha,hb],λ⟨a,ha,hb⟩=>#[a,h.mem_iff.mpr ha,hb]]
def zDV {ms zs:List Int}(h:zs.Perm ms):ZAU zs=ZAU ms:=funext λm=>zVW h _
def ZaH (ms:List Int)(m:Int):Bool:=ms.any λl=>decide (eA3 l m=l)
def ZEL (ms:List Int)(m:Int):Bool:=!ms.any λl=>decide (eA3 l m=0)
def zN3 (ms:List Int)(m:Nat):ZaH ms (m:Int)=ZAU ms m:=rfl
abbrev zHR (zs:List Int):Prop:=zs.Pairwise λa b=>ZBQ (kOf (.int b)) (kOf (.int a))=false
def zO9 {l m:Int}(l0:0<=l)(m0:0<=m)(m1:m<4096)(h:eA3 l m=l)(ne:l≠m):ZBQ (kOf (.int l)) (kOf (.int m))=true:=by
 obtain ⟨a,rfl⟩:=yAR l0;obtain ⟨c,rfl⟩:=yAR m0
 have sb:Sb a c:=UAJ.mp (by
  have e:eA3 ((a:Nat):Int) ((c:Nat):Int)=((a &&& c:Nat):Int):=rfl;rw [e] at h;lia)
 have ac:a<=c:=sb.le
 have e:(eAJ 12).filter (λk=>a.testBit k)=((eAJ 12).filter λk=>c.testBit k).filter λk=>a.testBit k:=by
  rw [List.filter_filter];refine List.filter_congr λk _=>?_
  cases hk:a.testBit k with
  | false=>rfl
  | true=>rw [sb k hk];rfl
 have sl:((eAJ 12).filter λk=>a.testBit k).Sublist ((eAJ 12).filter λk=>c.testBit k):=by
  rw [e];exact yCb
 have na:(ZBS ((a:Nat):Int)).length=(ZDJ ((a:Nat):Int)).length:=by unfold ZBS;rw [yAA]
 have nc:(ZBS ((c:Nat):Int)).length=(ZDJ ((c:Nat):Int)).length:=by unfold ZBS;rw [yAA]
 have le:=sl.length_le;rw [<- zDQ,<- zDQ] at le sl
 have lt:(ZBS ((a:Nat):Int)).length<(ZBS ((c:Nat):Int)).length:=by
  rcases yBn (ZBS ((a:Nat):Int)).length (ZBS ((c:Nat):Int)).length with z|z
  ·exact z
  ·have:=sl.eq_of_length (Nat.le_antisymm le z)
   refine absurd ?_ ne;rw [<- zCT (m:=((a:Nat):Int)) oz oz,this,zCT oz oz]
 unfold ZBQ;have e1:(kOf (.int ((a:Nat):Int))).1=((ZDJ ((a:Nat):Int)).length:Int):=rfl;have e2:(kOf (.int ((c:Nat):Int))).1=((ZDJ ((c:Nat):Int)).length:Int):=rfl;rw [e1,e2,yAT oz];exact yAJ oz
def zRC {a b c:Int}(a0:0<=a)(b0:0<=b)(c0:0<=c)(h:eA3 a b=a)(g:eA3 b c=b):eA3 a c=a:=by
 obtain ⟨x,rfl⟩:=yAR a0;obtain ⟨y,rfl⟩:=yAR b0;obtain ⟨z,rfl⟩:=yAR c0;have e:∀ p q:Nat,eA3 ((p:Nat):Int) ((q:Nat):Int)=((p &&& q:Nat):Int):=λ_ _=>rfl;rw [e] at h g ⊢;have s1:Sb x y:=UAJ.mp oz;have s2:Sb y z:=UAJ.mp oz
 have:=UAJ.mpr (s1.trans s2)
 lia
def zW9 {a b:Int}(a0:0<=a)(b0:0<=b)(h:eA3 a b=a)(g:eA3 b a=b):a=b:=by
 obtain ⟨x,rfl⟩:=yAR a0;obtain ⟨y,rfl⟩:=yAR b0;have e:∀ p q:Nat,eA3 ((p:Nat):Int) ((q:Nat):Int)=((p &&& q:Nat):Int):=λ_ _=>rfl;rw [e] at h g;have s1:Sb x y:=UAJ.mp oz;have s2:Sb y x:=UAJ.mp oz
 have:=s1.le
 have:=s2.le
 lia
def lB (ms:List Int)(m:Int):Bool:=(ZJ6 ms m).isEmpty
def zQL (ms:List Int):ZJL ms=ms.filter (lB ms):=rfl
def zaP {n:Nat}(n12:n<=12){zs:List Int}(ok:MsOk n zs)(so:zHR zs){i:Nat}(hi:i<zs.length):ZaH ((zs.take i).filter (lB zs)) zs[i]=!lB zs zs[i]:=by
 have h4:=zKH n12;have hm:=ok.ok _ (yAi hi);rw [yAd,yBE];unfold ZaH;rw [yAw]
 constructor
 ·rintro ⟨l,hl,e⟩
  have e:=yAZ e;rw [yBF] at hl;obtain ⟨j,hj,ej⟩:=yBg hl.1;rw [yAe] at hj;rw [yEB] at ej
  have ne:l≠zs[i]:=λz=>by
   rw [<- ej] at z
   have:=(yCf ok.nd).mp z
   lia
  unfold lB;rw [yDu];intro z
  have:l∈ZJ6 zs zs[i]:=yBF.mpr #[yDX hl.1,by rw [yAG ne,yAJ e];rfl]
  rw [z] at this
  cases this
 ·intro h
  unfold lB at h;rw [yDu] at h;obtain ⟨o,ho⟩:=List.exists_mem_of_ne_nil _ h;have ho:=yBF.mp ho;have h2:=ho.2;rw [yAN,yBE,decide_eq_false_iff_not,yAI] at h2;have LO:=zMI n12 ok.ok;obtain ⟨l,hl,el⟩:=LO.below o ho.1;have hl:=(zGY n12 ok).mem_iff.mpr hl;rw [zQL] at hl;have hl:=yBF.mp hl;have l0:=(ok.ok l hl.1).1;have o0:=(ok.ok o ho.1).1;have lm:=zRC l0 o0 hm.1 el h2.2
  have ne:l≠zs[i]:=λz=>by
   rw [z] at el;exact h2.1 (zW9 o0 hm.1 h2.2 el)
  refine#[l,yBF.mpr #[?_,hl.2],yAJ lm];obtain ⟨j,hj,ej⟩:=yBg hl.1;have lt:=zO9 l0 hm.1 oz lm ne
  have ji:j<i:=by
   rcases Nat.lt_trichotomy j i with z|z|z
   ·exact z
   ·subst z
    exact absurd ej.symm ne
   ·have:=yDt.mp so i j hi hj z
    rw [ej,lt] at this
    cases this
  rw [<- ej];exact List.mem_take_iff_getElem.mpr #[j,oz,rfl]
structure UAZ (n:Nat)(ms F:List Int):Prop where
 so:zHR F
 pm:F.Perm (ZAA (ZAU ms) (2^n))
def zRJ {n:Nat}(n12:n<=12){ms zs:List Int}(ok:MsOk n zs)(so:zHR zs)(pz:zs.Perm ms):UAZ n ms (zs.filter (lB zs)):=by
 refine#[so.sublist yCb,?_]
 have:=zGY n12 ok
 rw [zDV pz] at this;exact this
def zLA {p:Int->Bool}{zs:List Int}{i:Nat}(hi:i<zs.length):(zs.take (i+1)).filter p=(zs.take i).filter p++if p zs[i]=true then [zs[i]] else []:=by
 rw [yBG,yAB hi,yCi]
 congr 1
 cases h:p zs[i] with
 | true=>show List.filter p [zs[i]]=_;rw [yCc h];rfl
 | false=>show List.filter p [zs[i]]=_;rw [yCd (by rw [h];simp)];rfl
def JE1 (K:Frag):=∀ a ms,vs=[.ref a]->Sq K H a (IV ms)->ms.length<=5000->(∀ m∈ms,OkM m)->(∀ D H' zs,H D=none->Same H H'->H' D=some (.lst (IV zs))->zs.Perm ms->zHR zs->Q (.ref D) H')->JE1 K vs H Q E
def JE2 (K:Frag):=∀ a ms m,vs=[.ref a,.int m]->Sq K H a (IV ms)->ms.length<=1000->(∀ H',Same H H'->Q (.bl (ZaH ms m)) H')->JE2 K vs H Q E
def JE3 (K:Frag):=∀ a ms m,vs=[.ref a,.int m]->Sq K H a (IV ms)->ms.length<=1000->(∀ H',Same H H'->Q (.bl (ZEL ms m)) H')->JE3 K vs H Q E
def JE4 (K:Frag):=∀ a n ms,vs=[.ref a]->n<=12->Sq K H a (IV ms)->ms.length<=1000->MsOk n ms->(∀ D H' F,H D=none->Same H H'->H' D=some (.lst (IV F))->UAZ n ms F->Q (.ref D) H')->JE4 K vs H Q E
def ZQB (ms:List Int)(n:Nat):List Int:=((eAJ (2^n)).map λ(k:Nat)=>(k:Int)).filter (ZEL ms)
def JE5 (K:Frag):=∀ a n ms,(vs=[.ref a,.int ((n:Nat):Int)])->n<=9->Sq K H a (IV ms)->H a≠none->ms.length<=1000->(∀ D H' F,H D=none->Same H H'->H' D=some (.lst (IV F))->UAZ n (ZQB ms n) F->Q (.ref D) H')->JE5 K vs H Q E
def zVJ:UAC ["_law_masks_here"] ["_law_masks_here"] (ZA4 zEF):=by trivial
def zPT (F:Fun K "_law_order" "_law_order" zEF f fd)(msr:mg "sorted"=none)(D2:Df 1 "_law_key" ["_law_mask"] (JC5 K) a2 d2):Fk 4 f fd ["_law_masks_here"] (JE1 K):=by
 refine fk F.ok zVJ;obtain ⟨a,ms,rfl,sq,h5,ok,q⟩:=h;have s1000:100000<eA5:=by decide
 refine#[_,zA2 (zA7 (zS1 (kf:=kOf) zY4 D2.ok hr D2.b rfl msr rfl D2.m (pv 0))),?_];refine#[_,rfl,a,IV ms,rfl,sq,by unfold IV;rw [yAA];lia,λy hy H2 g2=>?_,λD0 H1 ys hD0 g1 l1 pm so=>?_]
 ·obtain ⟨m,hm,rfl⟩:=yAr.mp hy
  exact#[m,rfl,ok m hm,λr H' g' hd=>#[g',hd]]
 obtain ⟨zs,rfl,pz⟩:=zDU pm;rw [yBl] at so;exact q D0 H1 zs hD0 g1 l1 pz so
def zbC:UAC ["_law_masks_here","_law_mask"] ["_law_masks_here","_law_mask"] (ZA4 zDE):=by trivial
def zZ6 (F:Fun K "_law_decides" "_law_decides" zDE f fd):Fk 1 f fd ["_law_masks_here","_law_mask"] (JE2 K):=by
 refine fk F.ok zbC;obtain ⟨a,ms,m,rfl,sq,h1000,q⟩:=h
 refine#[_,zA2 (zA7 (zAW (zFZ hr) (zAQ (xs:=["_law_one"]) (fv:=[("_law_mask",1)]) rfl dk #[#[rfl,Or.inl rfl,rfl],trivial] (zB2 (pv 0)) (λ_ _ _ _ _=>zAG (i:=0) (ndT dk) rfl (Or.inl rfl))
    (λ_ _ _ _ _=>zDP (zA9 zC3 (zAC zBU (pv 0) (pv 1)) (pv 0) (zAB _))) (λ_ _ _ _ _=>pv 0)) (zB1 zB5) (zAB _))),?_]
 refine#[_,rfl,a,rfl,?_];refine zDN (λo=>decide (eA3 o m=o)) sq h1000 (λo ho D2 H2 N2 g2 hN2=>?_) (λD2 H2 hD2 g2 lD2=>?_)
 ·refine#[rfl,_,rfl,_,rfl,_,_,rfl,rfl,_,rfl,rfl,_,rfl,?_]
  have h:=hN2 H2 (λ_ _ h=>h);dsimp only;rw [zHL];refine zD2 (λd=>?_) (λd=>?_)
  ·rw [yAS d] at h
   exact#[_,rfl,h]
  ·rw [yAT d] at h
   exact h
 ·refine#[(by show 0<=eA5;decide),λl hl=>?_]
  obtain ⟨H3,g3,c3,e0⟩:=zCM hl (.lst []);rw [e0];clear e0;refine zG8 (g3 _ _ lD2) c3 ?_;rw [yAS rfl,zKG];exact q H3 (g2.trans g3)
def zWK:UAC ["_law_masks_here","_law_mask"] ["_law_masks_here","_law_mask"] (ZA4 zEG):=by trivial
def zR5 (F:Fun K "_law_meets" "_law_meets" zEG f fd):Fk 1 f fd ["_law_masks_here","_law_mask"] (JE3 K):=by
 refine fk F.ok zWK;obtain ⟨a,ms,m,rfl,sq,h1000,q⟩:=h
 refine#[_,zA2 (zA7 (zAW (zF5 hr) (zAQ (xs:=["_law_one"]) (fv:=[("_law_mask",1)]) rfl dk #[#[rfl,Or.inl rfl,rfl],trivial] (zB2 (pv 0)) (λ_ _ _ _ _=>zAG (i:=0) (ndT dk) rfl (Or.inl rfl))
    (λ_ _ _ _ _=>zDP (zA9 zC3 (zAC zBU (pv 0) (pv 1)) zA5 (zAB _))) (λ_ _ _ _ _=>pv 0)) (zB1 zB5) (zAB _))),?_]
 refine#[_,rfl,a,rfl,?_];refine zDN (λo=>decide (eA3 o m=0)) sq h1000 (λo ho D2 H2 N2 g2 hN2=>?_) (λD2 H2 hD2 g2 lD2=>?_)
 ·refine#[rfl,_,rfl,_,rfl,_,_,rfl,rfl,rfl,_,rfl,?_]
  have h:=hN2 H2 (λ_ _ h=>h);dsimp only;rw [zHL];refine zD2 (λd=>?_) (λd=>?_)
  ·rw [yAS d] at h
   exact#[_,rfl,h]
  ·rw [yAT d] at h
   exact h
 ·refine#[(by show 0<=eA5;decide),λl hl=>?_]
  obtain ⟨H3,g3,c3,e0⟩:=zCM hl (.lst []);rw [e0];clear e0;refine zG8 (g3 _ _ lD2) c3 ?_;rw [yAT (by simp:¬false=true),zPH];exact q H3 (g2.trans g3)
def zIS:UAC ["_law_masks_here","_law_found","_law_mask"] ["_law_masks_here"] (ZA4 zEE):=by trivial
def zRO (F:Fun K "_law_least" "_law_least" zEE f fd)(D1:Df 4 "_law_order" ["_law_masks_here"] (JE1 K) a1 d1)(D2:Df 1 "_law_decides" ["_law_masks_here","_law_mask"] (JE2 K) a2 d2):Fk 5 f fd ["_law_masks_here"] (JE4 K):=by
 refine fk F.ok zIS;obtain ⟨a,n,ms,rfl,n12,sq,h1000,ok,q⟩:=h;have hr1:Room 1 _:=hr.mono dQ;have s1000:100000<eA5:=by decide
 have h4:=zKH n12
 refine#[_,zA1 (kS9 1 zIS (zB1 zB5))
  (zA1 (zBK eAx rfl (zB2 (kq D1 hr #v[(pv 0)])) (kG9 2 zIS)
   (zA2 (zAK (zBH (zB4 (kq D2 hr1 #v[(pv 1),(pv 2)]))) (zA2 (zBC (zH4 yBU yBY yBX zBN (pv 1) #v[(pv 2)]))) zA8)))
  (zA2 (zA7 (pv 1)))),?_]
 refine#[(by show 0<=eA5;decide),λL hL=>?_];obtain ⟨H1,g1,c1,e0⟩:=zCM hL (.lst []);rw [e0];clear e0;refine#[_,rfl,a,ms,rfl,sq.at1 (g1.at1 a),oz,λm hm=>#[(ok.ok m hm).1,by have:=(ok.ok m hm).2;lia],λD H2 zs hD g2 l2 pz so=>?_];have okz:MsOk n zs:=#[pz.nodup_iff.mpr ok.nd,λm hm=>ok.ok m (pz.mem_iff.mp hm)];have zl:zs.length<=1000:=by rw [pz.length_eq];exact h1000
 have DL:D≠L:=λe=>by rw [e,c1] at hD;cases hD
 have g12:=g1.trans g2;refine#[D,rfl,?_]
 refine zC5 (K:=K) (ys:=IV zs) (.inl (SqL.of l2)) (λi σ H'=>∃ v2,σ=[some (.ref a),some (.ref L),v2]/\Same H H'/\H' D=some (.lst (IV zs))/\H' L=some (.lst (IV ((zs.take i).filter (lB zs)))))
  #[_,rfl,g12,l2,g2 _ _ c1] (λi σ H' hP o ho=>?_) (λi σ H' x hi hx hP=>?_) (λσ H' hP=>?_)
 ·obtain ⟨_,_,_,e,_⟩:=hP
  rw [l2] at ho
  cases ho
  exact e
 ·obtain ⟨v2,rfl,g,lD,lL⟩:=hP
  unfold IV at hx hi;rw [yAA] at hi;rw [yAa,yAB hi] at hx
  cases hx
  have fl:((zs.take i).filter (lB zs)).length<=1000:=by
   have:=yCN (lB zs) (zs.take i)
   rw [yAe] at this;lia
  refine#[_,rfl,_,rfl,L,_,_,rfl,.inl (SqL.of lL),fl,λH3 g3=>#[_,rfl,?_]];rw [zaP n12 okz so hi];dsimp only;rw [Bool.not_not];have st:=zLA (p:=lB zs) hi;refine zD2 (λc=>?_) (λc=>?_)
  ·rw [yAS c] at st
   refine#[_,rfl,.inl #[rfl,_,SqL.of (g3 _ _ lL)],_,rfl,L,_,_,rfl,rfl,g3 _ _ lL,by unfold IV;rw [yAA];lia,_,rfl,λb o e=>?_,?_,?_]
   ·rw [zA6 (zA3 e hL)];exact g3 _ _ (g _ _ e)
   ·rw [zA6 DL];exact g3 _ _ lD
   ·rw [zA0,st]
    unfold IV;rw [yAQ];rfl
  ·rw [yAT c,yBh] at st
   exact#[_,rfl,g.trans g3,g3 _ _ lD,by rw [st];exact g3 _ _ lL]
 ·obtain ⟨v2,rfl,g,lD,lL⟩:=hP
  have e:(IV zs).length=zs.length:=by unfold IV;rw [yAA]
  rw [e,yCz] at lL;exact#[_,rfl,q L H' _ hL g lL (zRJ n12 okz so pz)]
def zUR:UAC ["_law_masks_here","_law_many"] ["_law_masks_here","_law_many"] (ZA4 zER):=by trivial
def zMK (ms:List Int)(n:Nat):MsOk n (ZQB ms n):=by
 refine#[?_,λm hm=>?_]
 ·refine List.Nodup.sublist yCb (yBl.mpr (List.nodup_range.imp λh e=>h ?_))
  exact Int.ofNat.inj e
 ·obtain ⟨k,hk,rfl⟩:=yAr.mp (yBF.mp hm).1
  have:=yBC.mp hk
  exact#[ oz,by exact_mod_cast this]
def zR0 (F:Fun K "_law_other" "_law_other" zER f fd)(T:Txt mg)(D1:Df 5 "_law_least" ["_law_masks_here"] (JE4 K) a1 d1)(D2:Df 1 "_law_meets" ["_law_masks_here","_law_mask"] (JE3 K) a2 d2):Fk 6 f fd ["_law_masks_here","_law_many"] (JE5 K):=by
 refine fk F.ok zUR;obtain ⟨a,n,ms,rfl,n9,sq,hne,h1000,q⟩:=h;have hr1:Room 1 _:=hr.mono dQ
 refine#[_,zA2 (zA7 (kq D1 hr (zBP (zAQ (xs:=["_law_mask"]) (fv:=[("_law_masks_here",0)]) rfl dk #[#[rfl,Or.inl rfl,rfl],trivial] (zBG rfl T.range #v[(zAC zDF zA5 (pv 1))]) (λ_ _ _ _ _=>zAG (i:=0) (ndT dk) rfl (Or.inl rfl))
  (λ_ _ _ _ _=>zDP (zB4 (kq D2 hr1 #v[(pv 1),(pv 0)]))) (λ_ _ _ _ _=>pv 0)) zB5))),?_]
 have hsh:ZXA 1 (n:Int):=#[ oz,oz,dQ];have es:((1:Int)*2^((n:Nat):Int).toNat)=((2^n:Nat):Int):=by rw [yAW,yCe,yBi];rfl
 have p12:2^n<=512:=yAu (n:=2) dQ n9;have s1000:16000000<=eA5:=by decide
 refine#[_,rfl,_,_,rfl,rfl,hsh,?_];refine#[_,rfl,by rw [es];exact Int.le_trans dQ (yBw _),by rw [es];have:((2^n:Nat):Int)<=512:=Int.ofNat_le.mpr p12;exact Int.lt_of_le_of_lt this dQ,?_];rw [es,yAW]
 have pre:∀ i,((eAJ (i+1)).map λ(k:Nat)=>(k:Int)).filter (ZEL ms)=((eAJ i).map λ(k:Nat)=>(k:Int)).filter (ZEL ms)++if ZEL ms ((i:Nat):Int)=true then [((i:Nat):Int)] else []:=λi=>by
  rw [yDf,yAQ,yCi]
  congr 1
  cases h:ZEL ms ((i:Nat):Int) with
  | true=>show List.filter (ZEL ms) [((i:Nat):Int)]=_;rw [yCc h];rfl
  | false=>show List.filter (ZEL ms) [((i:Nat):Int)]=_;rw [yCd (by rw [h];simp)];rfl
 refine zE5 (λi D H'=>Same H H'/\H' D=some (.lst (IV (((eAJ i).map λ(k:Nat)=>(k:Int)).filter (ZEL ms))))) (λD hD=>#[UAB hD _,zA0]) (λi D H' hD hi hP=>?_) (λD H' hD hP=>?_)
 ·obtain ⟨g1,lD⟩:=hP
  refine#[rfl,_,rfl,_,rfl,a,ms,_,rfl,sq.at1 (g1.at1 a),h1000,λH3 g3=>#[_,rfl,?_]];rw [yEY];have pi:=pre i;refine zD2 (λc=>?_) (λc=>?_)
  ·rw [yAS c] at pi
   refine#[_,rfl,_,g3 _ _ lD,?_,λb o e=>?_,?_]
   ·unfold IV
    rw [yAA]
    have:=yCN (ZEL ms) ((eAJ i).map λ(k:Nat)=>(k:Int))
    rw [yAA,yBc] at this;lia
   ·rw [zA6 (zA3 e hD)];exact g3 _ _ (g1 _ _ e)
   ·rw [zA0,pi]
    unfold IV;rw [yAQ];rfl
  ·rw [yAT c,yBh] at pi
   exact#[g1.trans g3,by rw [pi];exact g3 _ _ lD]
 ·obtain ⟨g1,lD⟩:=hP
  have ml:(ZQB ms n).length<=1000:=by
   unfold ZQB
   have:=yCN (ZEL ms) ((eAJ (2^n)).map λ(k:Nat)=>(k:Int))
   rw [yAA,yBc] at this;lia
  exact#[D,n,ZQB ms n,rfl,oz,.inl (SqL.of lD),ml,zMK ms n,λD2 H2 F hD2 g2 l2 LF=>q D2 H2 F (g1.free hD2) (g1.trans g2) l2 LF]
structure UA7 (k:Nat)(CS C b:Addr)(H H':Hp)(r nm M p:Addr)(xs:List V)(ms zs:List Int):Prop where
 rb:r≠b
 nmb:nm≠b
 Mb:M≠b
 top:H' r=some (.lst [.ref nm,.ref M,.ref p])
 nmA:H' nm=some (.lst xs)
 are:ZFY (some xs)=true
 hi8:xs.length<=8
 MA:H' M=some (.lst (IV ms))
 few:ms.length<=k
 ok:MsOk xs.length ms
 sys:UAH CS C H' p xs zs
 pz:zs.Perm ms
 O:Ord xs zs
 bx:UAG H' b
 aw:Away b H H'
def JE6 (CS C:Addr):=∀ b,vs=[.ref b]->UAG H b->(∀ r nm M p H' xs ms zs,UA7 22 CS C b H H' r nm M p xs ms zs->Q (.ref r) H')->JE6 CS C vs H Q E
def zV8 (n:Nat):(1:Int)*2^((n:Nat):Int).toNat-1=((2^n-1:Nat):Int):=by
 have h:=eAw n;have e:(1:Int)*2^((n:Nat):Int).toNat=((2^n:Nat):Int):=by rw [yAW,yCe,yBi];rfl
 rw [e];lia
def zDO {n m k:Nat}(hm:m<2^n):(2^n-1-m).testBit k=(decide (k<n) && !m.testBit k):=by
 rw [show 2^n-1-m=2^n-(m+1) by lia,Nat.testBit_two_pow_sub_succ hm]
def zJE {n m:Nat}(hm:m<2^n):eA4 ((2^n-1:Nat):Int) ((m:Nat):Int)=((2^n-1-m:Nat):Int):=by
 rw [zLR]
 congr 1
 refine yBR λk=>?_;rw [Nat.testBit_xor,zDO hm,Nat.testBit_two_pow_sub_one]
 by_cases h:k<n
 ·rw [yAJ h];simp
 ·rw [yAG h]
  have:m.testBit k=false:=by
   cases e:m.testBit k with
   | false=>rfl
   | true=>
    have h1:=yCx e;have h2:2^n<=2^k:=yAu dQ oz;lia
  rw [this];rfl
def ZaJ (ms:List Int)(n:Nat):Bool:=(eAJ (2^n)).all λm=>ZAU ms m != ZAU ms (2^n-1-m)
def zIF:UAC ["_law_box_here","_law_many","_law_names_here","_law_masks_here"] ["_law_box_here"] (ZA4 zEI):=by trivial
def zW8 (F:Fun K "_law_drawn" "_law_drawn" zEI f fd)(DZ:Df 2 "_law_size" ["_law_box_here"] JC3 c1 e1)(DN:Df 3 "_law_names" ["_law_box_here","_law_many"] JD2 c2 e2)(DM:Df 2 "_law_masks" ["_law_box_here","_law_many"] JC4 c3 e3)
  (DH:Df 3 "_law_handed" ["_law_box_here","_law_names_here","_law_masks_here"] (JE0 K) c4 e4) (MS:Mk K CS fS) (OS:Fk 6 fS dS' ["self","houses","lots"] (JB6 CS C)) (bS:UAD K dS' ["self","houses","lots"] []) (mS:mg "System"=some (.ref CS)) :
  Fk 8 f fd ["_law_box_here"] (JE6 CS C):=by
 refine fk F.ok zIF;obtain ⟨b,rfl,hb,q⟩:=h;have hr2:Room 2 _:=hr.mono dQ;have hr3:Room 3 _:=hr.mono dQ
 refine#[_,zA1 (kS9 1 zIF (kq DZ hr2 #v[(pv 0)]))
  (zA1 (kS9 2 zIF (kq DN hr3 #v[(pv 0),(pv 1)]))
  (zA1 (kS9 3 zIF (kq DM hr2 #v[(pv 0),(pv 1)]))
  (zA2 (zA7 (zB1 #v[(pv 2),(pv 3),(zGP MS OS hr rfl mS bS .nil zAT #v[(pv 2),(kq DH hr3 #v[(pv 0),(pv 2),(pv 3)])])]))))),?_]
 refine#[_,rfl,b,rfl,hb,λr H1 r1 r8 b1 a1=>?_];obtain ⟨n,rfl⟩:=yAR (show 0<=r by lia);refine#[_,rfl,_,rfl,b,n,rfl,oz,oz,b1,λnm H2 xs hnm lnm xl are b2 a2=>?_];have hG:=zF3 are;have nmb:nm≠b:=(b1.ne hnm).symm;refine#[_,rfl,_,rfl,b,n,rfl,oz,oz,b2,λM H3 ms hM lM ml ok b3 a3=>?_];have Mb:M≠b:=(b2.ne hM).symm;have ok:MsOk xs.length ms:=by rw [xl];exact ok
 refine#[_,rfl,_,rfl,_,rfl,_,rfl,_,rfl,_,rfl,b,nm,M,xs,ms,rfl,b3,nmb,Mb,a3 _ _ lnm nmb,hG,lM,oz,ok,λr4 H4 vs ns hr4 row4 pn R b4 a4 p dx hp hdx ne=>?_];have nm4:=a4 _ _ (a3 _ _ lnm nmb) nmb;have M4:=a4 _ _ lM Mb;have okn:MsOk xs.length ns:=#[pn.nodup_iff.mpr ok.nd,λm hm=>ok.ok m (pn.mem_iff.mp hm)];refine zII (b:=b) (H0:=H3) hG are okn (by rw [pn.length_eq];lia) (.lst nm4) row4 R hp hdx λH5 zs g5 S5 pz O=>#[rfl,?_];refine#[(by show 3<=eA5;decide),λq0 hq0=>?_];have g6:=UAB hq0 (.lst [.ref nm,.ref M,.ref p]);have aw:Away b H H4:=((a1.trans a2).trans a3).trans a4;have g56:=g5.trans g6;refine q q0 nm M p _ xs ms zs #[(b4.ne (g5.free hq0)).symm,nmb,Mb,zA0,g56 _ _ nm4,are,oz,g56 _ _ M4,oz,ok,S5.same g6,pz.trans pn,O,b4.same g56,aw.trans (zAE g56)]
def ZHH (n:Nat)(f:Nat->Bool)(m:Nat):Bool:=!f (2^n-1-m)
def zU2 (n:Nat)(f:Nat->Bool):(ZCL n f).reverse=ZCL n λm=>f (2^n-1-m):=by
 have p0:=eAw n;refine yEC λi=>?_
 rcases yBn i (2^n) with h|h
 ·rw [List.getElem?_reverse (by rw [zAX];exact h),zAX,zCO (show 2^n-1-i<2^n by lia),zCO h]
 ·rw [yCO (by rw [List.length_reverse,zAX];exact h),yCO (by rw [zAX];exact h)]
def JE7:=∀ a n f,vs=[.ref a]->n<=12->H a=some (.lst (ZCL n f))->(∀ D H',H D=none->Same H H'->H' D=some (.lst (ZCL n (ZHH n f)))->Q (.ref D) H')->JE7 vs H Q E
def Zd1 (n:Nat)(ms:List Int):Prop:=(ZAA (ZHH n (ZAU ms)) (2^n)).length<=1000
def Zd3 (n:Nat)(ms:List Int):Bool:=decide (ZJI n (ZAU ms)=ZJI n (ZHH n (ZAU ms)))
def JE8 (CS C:Addr):=∀ p xs ms,vs=[.ref p]->UAH CS C H p xs ms->Ord xs ms->(∀ H',Same H H'->Q (.bl (Zd3 xs.length ms)) H')->JE8 CS C vs H Q E
def zWD:UAC ["table"] ["table"] (ZA4 zLI):=by trivial
def zQG (F:Fun K "other_table" "other_table" zLI f fd):Fk 1 f fd ["table"] JE7:=by
 refine fk F.ok zWD;obtain ⟨a,n,tf,rfl,n12,ha,q⟩:=h;have p12:2^n<=4096:=yAu (n:=2) dQ n12;have s1000:16000000<=eA5:=by decide
 refine#[_,zA2 (zA7 (zAQ (xs:=["decides"]) (fv:=[]) rfl dk trivial (zB2 (zcJ (p4:=#[0,0,0,0]) (pv 0))) (λ_ _ _ _ _=>zAG (i:=0) (ndT dk) rfl (Or.inl rfl)) (λ_ _ _ _ _=>zBD) (λ_ _ _ _ _=>zNK (pv 0)))),?_];refine#[_,rfl,a,_,rfl,SqL.of ha,λR hR=>?_];rw [zU2];obtain ⟨H1,g1,c1,e0⟩:=zCM hR (.lst (ZCL n λm=>tf (2^n-1-m)));rw [e0];clear e0;refine#[R,rfl,?_];refine zC6 (K:=K) (ys:=ZCL n λm=>tf (2^n-1-m)) (.inl (SqL.of c1)) (λi D H'=>Same H1 H'/\H' D=some (.lst ((eAJ i).map λm=>V.bl (ZHH n tf m)))) (λD hD=>#[UAB hD _,zA0]) (λi D H' hD hP=>hP.1.at1 R) (λi D H' x hD hi hx hP=>?_) (λD H' hD hP=>?_)
 ·obtain ⟨g2,lD⟩:=hP
  rw [zAX] at hi;rw [zCO hi] at hx
  cases hx
  refine#[rfl,?_];unfold ZHP;dsimp only;rw [yAS rfl];refine#[_,rfl,_,rfl,_,lD,?_,λb o e=>?_,?_]
  ·rw [yAA,yBc];lia
  ·rw [zA6 (zA3 e hD)];exact g2 _ _ e
  ·rw [zA0,yDf,yAQ];rfl
 ·obtain ⟨g2,lD⟩:=hP
  rw [zAX] at lD;exact q D H' (g1.free hD) (g1.trans g2) lD
def zcD:UAC ["system","table"] ["system"] (ZA4 ze1):=by trivial
def zc6 (F:Fun K "is_own_side" "is_own_side" ze1 f fd)(clS:Cls K CS)
  (M2:Meth K CS "table" a2) (O2:Fk 2 a2 d2 ["self"] (JD5 CS C)) (b2:UAD K d2 ["self"] []) (D4:Df 1 "other_table" ["table"] JE7 a4 d4):Fk 3 f fd ["system"] (JE8 CS C):=by
 refine fk F.ok zcD;obtain ⟨p,xs,ms,rfl,hS,hO,q⟩:=h;have hr1:Room 1 _:=hr.mono dQ;obtain ⟨dx,g,t,hp,hH,ht⟩:=id hS;refine#[_,zA1 (kS9 1 zcD (zBE (pv 0) clS M2 O2 hr b2 .nil zAT)) (zA2 (zA7 (zAW (zF5 hr) (pv 1) (kq D4 hr1 #v[(pv 1)]) (zAB _)))),?_];refine#[_,rfl,p,dx,_,rfl,hp,rfl,p,xs,ms,rfl,hS,hO,λD H2 hD g2 lD=>?_];refine#[_,rfl,_,rfl,D,xs.length,ZAU ms,rfl,hO.gn.hi,lD,λD3 H3 hD3 g3 lD3=>?_];exact zW6 (g3 _ _ lD) lD3 (q H3 (g2.trans g3))
def JE9 (CS C:Addr):=∀ p xs ms,vs=[.ref p]->UAH CS C H p xs ms->Ord xs ms->ZFY (some xs)=true->Zd1 xs.length ms->(∀ p' H' zs,H p'=none->Same H H'->UAH CS C H' p' xs zs->zs.Perm (ZAA (ZHH xs.length (ZAU ms)) (2^xs.length))->Ord xs zs->Q (.ref p') H')->JE9 CS C vs H Q E
def zZV:UAC ["system"] ["system"] (ZA4 zSS):=by trivial
def zUH (F:Fun K "other_side" "other_side" zSS f fd)(clS:Cls K CS)(M1:Meth K CS "houses" a1)(O1:Fk 2 a1 d1 ["self"] (JB7 CS C))(b1:UAD K d1 ["self"] [])
  (M2:Meth K CS "table" a2) (O2:Fk 2 a2 d2 ["self"] (JD5 CS C)) (b2:UAD K d2 ["self"] []) (D3:Df 8 "system_by_table" ["names","table"] (JD6 CS C) a3 d3) (D4:Df 1 "other_table" ["table"] JE7 a4 d4):Fk 9 f fd ["system"] (JE9 CS C):=by
 refine fk F.ok zZV;obtain ⟨p,xs,ms,rfl,hS,hO,are,few,q⟩:=h;have hr1:Room 1 _:=hr.mono dQ;have hr2:Room 2 _:=hr.mono dQ;obtain ⟨dx,g,t,hp,hH,ht⟩:=id hS;refine#[_,zA2 (zA7 (kq D3 hr #v[(zBE (pv 0) clS M1 O1 hr2 b1 .nil zAT),(kq D4 hr1 #v[(zBE (pv 0) clS M2 O2 hr2 b2 .nil zAT)])])),?_];refine#[_,rfl,p,dx,_,rfl,hp,rfl,p,xs,ms,rfl,hS,λl hl=>?_];obtain ⟨H1,g1,c1,e0⟩:=zCM hl (.lst xs);rw [e0];clear e0;refine#[_,rfl,p,dx,_,rfl,g1 _ _ hp,rfl,p,xs,ms,rfl,hS.same g1,hO,λD H2 hD g2 lD=>?_];refine#[D,xs.length,ZAU ms,rfl,hO.gn.hi,lD,λD3 H3 hD3 g3 lD3=>?_];have g13:=(g1.trans g2).trans g3;exact#[l,D3,xs,_,rfl,g3 _ _ (g2 _ _ c1),are,lD3,few,λp' H4 zs hp' g4 hS4 pz O=>q p' H4 zs (g13.free hp') (g13.trans g4) hS4 pz O]
end
end S
namespace L2
open PySem PySem.Spec PyProof.Rows
section
variable {X:Cx}
def KC4:=∀ a b,x=.bl a->y=.bl b->Q (.bl (a==b)) H->KC4 x y H Q
def KC5:=∀ a b,x=.bl a->y=.bl b->Q (.bl (a != b)) H->KC5 x y H Q
end
end L2
namespace S
open PySem L2
def zdO:∀ xs:List V,eAz (dS xs) (dS xs)=true
 | []=>rfl
 | v::r=>by
  show ((ZAM v==ZAM v)&&eAz (dS r) (dS r))=true;rw [zdO r];simp
def ZdK (zs:List (List V)):Prop:=∀ z∈zs,Strs z/\z.length<=12
def zVT {xs:List V}{ms:List Int}(hO:Ord xs ms):ZdK (ms.map (ZBT xs)):=λz hz=>by
 obtain ⟨m,hm,rfl⟩:=yAr.mp hz
 have:=hO.ok m hm
 exact#[zBY hO.gn this.1 this.2,zDB xs m]
theorem UAH.away {CS C b p:Addr}{H H':Hp}{xs:List V}{zs:List Int}(bx:UAG H b)(g:Away b H H')(h:UAH CS C H p xs zs):UAH CS C H' p xs zs:=by
 obtain ⟨d,s,c,hl,_⟩:=bx;have kn:∀ c o,H c=some o->(∀ xs,o≠.lst xs)->H' c=some o:=λc o hc n=>g c o hc λe=>by rw [e,hl] at hc;cases hc;exact n _ rfl
 obtain ⟨dx,gg,t,h1,⟨ex,rt,dd,k1,k2,k3⟩,h3⟩:=h;exact#[dx,gg,t,kn _ _ h1 (λ_ z=>nomatch z),#[ex,rt,dd,kn _ _ k1 (λ_ z=>nomatch z),kn _ _ k2 (λ_ z=>nomatch z),kn _ _ k3 (λ_ z=>nomatch z)],kn _ _ h3 (λ_ z=>nomatch z)]
def zFV {n:Nat}{ms zs:List Int}(n12:n<=12)(ok:∀ m∈ms,0<=m/\m<2^n)(pz:zs.Perm (ZAA (ZAU ms) (2^n))):ZAU zs=ZAU ms:=by
 have LO:=zMI n12 ok
 funext k
 unfold ZAU;rw [yAd,yAw,yAw]
 constructor
 ·rintro ⟨l,hl,e⟩
  exact#[l,LO.sub l (pz.mem_iff.mp hl),e]
 ·rintro ⟨m,hm,e⟩
  obtain ⟨l,hl,e2⟩:=LO.below m hm;refine#[l,pz.mem_iff.mpr hl,?_];have e:=yAZ e;refine yAJ ?_;obtain ⟨x,rfl⟩:=yAR (ok l (LO.sub l hl)).1;obtain ⟨y,rfl⟩:=yAR (ok m hm).1;rw [zB7] at e e2 ⊢;have e:y &&& k=y:=by lia
  have e2:x &&& y=x:=by lia
  have:x &&& k=x:=by rw [<- e2,Nat.and_assoc,e]
  rw [this]
abbrev dT (zs:List (List V)):List PyData:=zs.map λz=>.tuple (dS z)
section
variable {K:Frag}{H:Hp}
end
def zM3 {ms:List Int}(h0:∀ m∈ms,0<=m){a c:Nat}(sb:Sb a c)(h:ZAU ms a=true):ZAU ms c=true:=by
 obtain ⟨ns,rfl⟩:=zLX h0;rw [zID] at h ⊢;rw [yAw] at h ⊢;obtain ⟨l,hl,e⟩:=h;exact#[l,hl,yAJ ((yAZ e).trans sb)]
def zD4 {n:Nat}(n12:n<=12){f g:Nat->Bool}(h:∀ m,m<2^n->f m=g m):ZAA f (2^n)=ZAA g (2^n):=by
 unfold ZAA
 congr 1
 refine List.filter_congr λm hm=>?_;have hm:=yBC.mp hm;rw [yAd,zCA n12 hm,zCA n12 hm,h m hm];refine and_congr_right λ_=>forall_congr' λk=>forall_congr' λhk=>?_;rw [h _ (Nat.lt_trans (zO2 hk) hm)]
def zIC {n:Nat}(n12:n<=12){f:Nat->Bool}(mono:∀ m k,m<2^n->k<2^n->Sb m k->f m=true->f k=true){zs:List Int}(pz:zs.Perm (ZAA f (2^n))){m:Nat}(hm:m<2^n):ZAU zs m=f m:=by
 have e1:∀ m,m<2^n->ZP7 ((eAJ (2^n)).filter f) m=f m:=λm hm=>by
  rw [yAd,UAY]
  constructor
  ·rintro ⟨l,hl,sb⟩
   rw [yBF,yBC] at hl;exact mono l m hl.1 hm sb hl.2
  ·exact λh=>#[m,yBF.mpr #[yBC.mpr hm,h],Sb.refl m]
 rw [zDV pz,yAd];unfold ZAU;rw [yAw]
 constructor
 ·rintro ⟨x,hx,e⟩
  obtain ⟨k,rfl,hk,lk⟩:=UAK.mp hx;have e:=yAZ e;rw [zB7] at e;exact mono k m hk hm (UAJ.mp oz) ((zCA n12 hk).mp lk).1
 ·intro h
  obtain ⟨k,k1,k2,k3⟩:=zEO (ns:=(eAJ (2^n)).filter f) n12 (λl hl=>yBC.mp (yBF.mp hl).1) m m (yAF _) (yBF.mpr #[yBC.mpr hm,h]);refine#[((k:Nat):Int),?_,?_]
  ·rw [<- zD4 n12 e1]
   exact UAK.mpr #[k,rfl,k1,k2]
  ·refine yAJ ?_
   rw [zB7,UAJ.mpr k3]
def zFQ {n m:Nat}(hm:m<2^n):2^n-1-m<2^n:=by lia
def zQ8 {n m:Nat}(hm:m<2^n):2^n-1-(2^n-1-m)=m:=by lia
def zMA {n m k:Nat}(hm:m<2^n)(hk:k<2^n)(h:Sb m k):Sb (2^n-1-k) (2^n-1-m):=λj hj=>by
 rw [zDO hk,yAN,yBE] at hj;rw [zDO hm,yAN,yBE];refine#[hj.1,?_]
 cases e:m.testBit j with
 | false=>rfl
 | true=>rw [h j e] at hj;exact absurd hj.2 (by simp)
def zNN {n:Nat}{ms:List Int}(h0:∀ m∈ms,0<=m):∀ m k,m<2^n->k<2^n->Sb m k->ZHH n (ZAU ms) m=true->ZHH n (ZAU ms) k=true:=λm k hm hk sb h=>by
 unfold ZHH at h ⊢;rw [yBE] at h ⊢
 cases e:ZAU ms (2^n-1-k) with
 | false=>rfl
 | true=>rw [zM3 h0 (zMA hm hk sb) e] at h;cases h
def zTB {n:Nat}(n12:n<=12){ms zs:List Int}(h0:∀ m∈ms,0<=m)(pz:zs.Perm (ZAA (ZHH n (ZAU ms)) (2^n))){m:Nat}(hm:m<2^n):ZAU zs m=!ZAU ms (2^n-1-m):=zIC n12 (zNN h0) pz hm
def zWU {n:Nat}(n9:n<=9)(ms:List Int):Zd1 n ms:=by
 unfold Zd1
 have:=zDC (ZHH n (ZAU ms)) (2^n)
 have p:2^n<=2^9:=yAu (n:=2) dQ n9;lia
def zaV (n:Nat)(ms:List Int):Zd3 n ms=ZaJ ms n:=by
 unfold Zd3 ZaJ ZJI ZHH;rw [yAd,yAI,yBA]
 constructor
 ·intro h m hm
  have:=List.map_inj_left.mp h m hm
  rw [this]
  cases ZAU ms (2^n-1-m)<;>rfl
 ·intro h
  refine List.map_congr_left λm hm=>?_
  have:=h m hm
  revert this
  cases ZAU ms m<;>cases ZAU ms (2^n-1-m)<;>simp
def zRU {n:Nat}{ms ns:List Int}(h:∀ m,m<2^n->ZAU ms m=ZAU ns m):ZaJ ms n=ZaJ ns n:=by
 unfold ZaJ;rw [yAd,yBA,yBA]
 constructor<;>intro g m hm<;>have hl:=yBC.mp hm
 ·rw [<- h m hl,<- h _ (zFQ hl)];exact g m hm
 ·rw [h m hl,h _ (zFQ hl)];exact g m hm
def zEZ {n:Nat}{ms:List Int}(ok:∀ m∈ms,0<=m/\m<2^n){m:Nat}(hm:m<2^n):ZEL ms ((m:Nat):Int)=!ZAU ms (2^n-1-m):=by
 unfold ZEL ZAU
 congr 1
 rw [yAd,yAw,yAw];refine exists_congr λl=>and_congr_right λhl=>?_;rw [yAI,yAI];obtain ⟨k,rfl⟩:=yAR (ok l hl).1;have hk:k<2^n:=by have:=(ok _ hl).2;exact_mod_cast this
 rw [zB7,zB7]
 constructor
 ·intro h
  have h:k &&& m=0:=by lia
  have:Sb k (2^n-1-m):=λj hj=>by
   rw [zDO hm,yAN,yBE];have t:(k &&& m).testBit j=false:=by rw [h,yCJ]
   rw [yBz,hj,yBx] at t;refine#[yAJ ?_,t]
   rcases yBn j n with z|z
   ·exact z
   ·have h1:=yCx hj
    have h2:2^n<=2^j:=yAu dQ z;lia
  rw [UAJ.mpr this]
 ·intro h
  have sb:Sb k (2^n-1-m):=UAJ.mp oz
  have:k &&& m=0:=by
   refine yBR λj=>?_;rw [yBz,yCJ]
   cases e:k.testBit j with
   | false=>rfl
   | true=>
    have:=sb j e
    rw [zDO hm,yAN,yBE] at this;rw [this.2];rfl
  rw [this];rfl
def zE2 {n:Nat}(n12:n<=12){ms F:List Int}(ok:∀ m∈ms,0<=m/\m<2^n)(LF:UAZ n (ZQB ms n) F){m:Nat}(hm:m<2^n):ZAU F m=!ZAU ms (2^n-1-m):=by
 have h0:∀ m∈ms,0<=m:=λm hm=>(ok m hm).1;rw [zFV n12 (zMK ms n).ok LF.pm,yAd];unfold ZAU;rw [yAw]
 constructor
 ·rintro ⟨x,hx,e⟩
  have hx:=yBF.mp hx;obtain ⟨k,hk,rfl⟩:=yAr.mp hx.1;have hk:=yBC.mp hk;have e:=yAZ e;rw [zB7] at e;have h2:=hx.2;rw [zEZ ok hk] at h2;exact zNN (n:=n) h0 k m hk hm (UAJ.mp oz) h2
 ·intro h
  refine#[((m:Nat):Int),yBF.mpr #[yAr.mpr #[m,yBC.mpr hm,rfl],?_],?_]
  ·rw [zEZ ok hm];exact h
  ·refine yAJ ?_
   rw [zB7,Nat.and_self]
def zRK (zs:List Int)(m:Nat):(ZG3 ((m:Nat):Int) zs).isSome=ZAU zs m:=by
 unfold ZG3 ZAU;rw [yAd,List.find?_isSome,yAw]
def Zf9 (n:Nat)(ms:List Int)(m:Int)(w:Str)(l:Int):Prop:=
 (ZG3 (eA4 (2^n-1) m) ms=some l/\w="stands") \/ (ZG3 (eA4 (2^n-1) m) ms=none/\w="falls"/\∀ zs,zs.Perm (ZAA (ZHH n (ZAU ms)) (2^n))->ZG3 m zs=some l)
def JF0 (CS C:Addr):=∀ p x xs ms m w l,vs=[.ref p,x]->UAH CS C H p xs ms->Ord xs ms->ZFY (some xs)=true->Zd1 xs.length ms->UAQ H x xs m->0<=m->m<2^xs.length->Zf9 xs.length ms m w l->(∀ t D H',Same H H'->H' t=some (.tup [.str w,.ref D])->H' D=some (.lst (ZBT xs l))->Q (.ref t) H')->JF0 CS C vs H Q E
def JF1 (C:Addr):=∀ g D xs m,vs=[.ref g,.ref D]->UAF C H g xs->GN xs->H D=some (.lst (ZBT xs m))->0<=m->m<2^xs.length->(∀ H',Same H H'->Q (.int m) H')->JF1 C vs H Q E
def JF2 (CS C:Addr):=∀ p x t D xs ms m l,vs=[.ref p,x,.ref t]->UAH CS C H p xs ms->Ord xs ms->UAQ H x xs m->0<=m->m<2^xs.length->H t=some (.tup [.str "falls",.ref D])->H D=some (.lst (ZBT xs l))->0<=l->l<2^xs.length->eA3 l m=l->(∀ o∈ms,0<eA3 l o)->(∀ H',Same H H'->Q (.bl true) H')->JF2 CS C vs H Q E
section
variable {P:eAD}{w:World}{K:Frag}{mg:Str->Option Value}{base:Heap}
def zEW:UAC ["system","fallen","lot"] ["system","fallen"] (ZA4 zG7):=by trivial
def hit (o:Int)(ms:List Int):Option Int:=ms.find? λx=>decide (eA3 o x=0)
def ap:List Int->Option (Int×Int)
 | []=>none
 | m::r=>match hit m (m::r) with
  | some x=>some (m,x)
  | none=>ap r
def zY1 {ms:List Int}{i:Nat}(h:i<ms.length)(n:hit ms[i] (ms.drop i)=none):ap (ms.drop i)=ap (ms.drop (i+1)):=by
 rw [yAz h] at n ⊢;show (match hit ms[i] (ms[i]::ms.drop (i+1)) with|some x=>some (ms[i],x)|none=>ap (ms.drop (i+1)))=_;rw [n]
def zcM {ms:List Int}{i:Nat}{x:Int}(h:i<ms.length)(n:hit ms[i] (ms.drop i)=some x):ap (ms.drop i)=some (ms[i],x):=by
 rw [yAz h] at n ⊢;show (match hit ms[i] (ms[i]::ms.drop (i+1)) with|some x=>some (ms[i],x)|none=>ap (ms.drop (i+1)))=_;rw [n]
def zU8 {o:Int}{ms:List Int}{i:Nat}(h:i<ms.length)(n:¬eA3 o ms[i]=0):hit o (ms.drop i)=hit o (ms.drop (i+1)):=by
 rw [yAz h];unfold hit;rw [yDM (by simpa using n)]
def zZI {o:Int}{ms:List Int}{i:Nat}(h:i<ms.length)(n:eA3 o ms[i]=0):hit o (ms.drop i)=some ms[i]:=by
 rw [yAz h];unfold hit;rw [yDL (by simpa using n)]
def zfA {x:Int}:decide (V.int x=V.int 0)=decide (x=0):=by
 rw [yAd,yAI,yAI];exact#[λh=>by injection h,λh=>by rw [h]]
structure Two (H H':Hp)(t:Addr)(xs ys:List V):Prop where
 ex:∃ r1 r2,H' t=some (.tup [.ref r1,.ref r2])/\H r1=none/\H r2=none/\r1≠r2/\H' r1=some (.lst xs)/\H' r2=some (.lst ys)
def ZZH (H:Hp)(Q:VK)(xs:List V):Option (Int×Int)->Prop
 | none=>∀ H',Same H H'->Q .non H'
 | some (m,n)=>∀ t H',Same H H'->Two H H' t (ZBT xs m) (ZBT xs n)->Q (.ref t) H'
def JF3 (CS C:Addr):=∀ p xs ms,vs=[.ref p]->UAH CS C H p xs ms->Ord xs ms->ZZH H Q xs (ap ms)->JF3 CS C vs H Q E
def JF4 (CS C:Addr):=∀ p xs ms,vs=[.ref p]->UAH CS C H p xs ms->Ord xs ms->(∀ H',Same H H'->Q (.bl (ap ms).isNone) H')->JF4 CS C vs H Q E
def zIV:UAC ["self","at","one","other"] ["self"] (ZA4 zSJ):=by trivial
def zUK (F:Fun K "apart" "System.apart" zSJ f fd)(me:mg "enumerate"=none)(clS:Cls K CS)(nG:UAE K CS "ground")(nM:UAE K CS "masks")(cl:Cls K C)(M1:Meth K C "set_of" a1)(O1:Fk 3 a1 d1 ["self","mask"] (JB4 C))(b1:UAD K d1 ["self","mask"] []) :
  Fk 4 f fd ["self"] (JF3 CS C):=by
 refine fk F.ok zIV;obtain ⟨p,xs,ms,rfl,hS,hO,q⟩:=h;obtain ⟨dx,g,t,hp,hH,ht⟩:=id hS
 refine#[_,zA1 (zBK eAx rfl (zF7 rfl me #v[(zAO (pv 0) rfl)]) (zT9 (n:=2) rfl (zBJ (kG9 1 zIV) (zBJ (kG9 2 zIV) zFP)))
   (zA2 (zBK eAx rfl (zB2 (zD9 zUD (zAO (pv 0) rfl) (zDR (pv 1)) zDD)) (kG9 3 zIV)
    (zA2 (zAK (zA9 zC3 (zAC zBU (pv 2) (pv 3)) zA5 (zAB _)) (zA2 (zA7 (zB9 #v[(zAS (zAO (pv 0) rfl) cl M1 O1 hr b1 .nil zAT #v[(pv 2)]),(zAS (zAO (pv 0) rfl) cl M1 O1 hr b1 .nil zAT #v[(pv 3)])]))) zA8)))))
  (zA2 (zA7 zBV)),?_]
 refine sfH λbd eb C1 f1=>?_;refine#[_,rfl,p,CS,dx,_,_,rfl,hp,clS,nM,rfl,t,rfl,?_]
 refine zND (K:=K) (ys:=IV ms) (.inr (SqT.of ht)) (λi σ H'=>∃ v1 v2 v3,σ=[some (.ref p),v1,v2,v3]/\Same H H'/\ap ms=ap (ms.drop i)) #[_,_,_,rfl,λ_ _ h=>h,rfl]
  (λi σ H' hP=>?_) (λi σ H' x r hi hx hP hr'=>?_) (λσ H' hP=>?_)
 ·obtain ⟨_,_,_,_,g',_⟩:=hP
  exact g'.at1 t
 ·obtain ⟨v1,v2,v3,rfl,g1,e1⟩:=hP
  unfold IV at hx hi;rw [yAA] at hi;rw [yAa,yAB hi] at hx
  cases hx
  have g2:=g1.trans (UAB hr' (.tup [.int (i:Nat),.int ms[i]]));have c2:(upd H' r (.tup [.int (i:Nat),.int ms[i]])) r=some (.tup [.int (i:Nat),.int ms[i]]):=zA0;generalize upd H' r (.tup [.int (i:Nat),.int ms[i]])=H2 at g2 c2 ⊢;refine#[r,_,rfl,SqT.of c2,rfl,_,_,rfl,_,_,rfl,rfl,?_];refine sR eb (dH λD0 eD=>fH λb2 e2=>?_);refine#[_,rfl,p,CS,dx,_,_,rfl,g2 _ _ hp,clS,nM,rfl,_,rfl,_,rfl,t,IV ms,i,rfl,rfl,rfl,.inr (SqT.of (g2 _ _ ht)),by unfold IV;rw [yAA];lia,λp3 H3 g3 sq3=>#[p3,rfl,?_]];have g13:=g2.trans g3;have el:((IV ms).drop i).length=ms.length-i:=by unfold IV;rw [yCK,yAA]
  refine zC5 (K:=K) (ys:=(IV ms).drop i) sq3 (λj σ H'=>∃ v3,σ=[some (.ref p),some (.int (i:Nat)),some (.int ms[i]),v3]/\Same H3 H'/\hit ms[i] (ms.drop i)=hit ms[i] (ms.drop (i+j))) #[_,rfl,λ_ _ h=>h,rfl]
   (λj σ H' hP=>?_) (λj σ H' x hj hx hP=>?_) (λσ H' hP=>?_)
  ·obtain ⟨_,_,g',_⟩:=hP
   exact g'.at1 p3
  ·obtain ⟨v4,rfl,g4,e4⟩:=hP
   rw [el] at hj;have hij:i+j<ms.length:=by lia
   have ex:x=.int ms[i+j]:=by
    unfold IV at hx;rw [yCP,yAa,yAB hij] at hx;exact (eAH hx).symm
   subst ex;refine gNs (sR e2 (dH λD9 e9=>?_));refine#[_,rfl,_,rfl,_,_,rfl,rfl,rfl,_,rfl,?_];rw [zfA];have g5:=g13.trans g4;refine zD2 (λc=>?_) (λc=>?_)
   ·have c:=yAZ c
    rw [e1,zcM hi (by rw [e4];exact zZI hij c)] at q;have hH':=hH.same g5;obtain ⟨gx,t',d,h1,h2,h3⟩:=id hH';have m1:=hO.ok ms[i] (yAi hi);have m2:=hO.ok ms[i+j] (yAi hij);refine#[_,rfl,p,CS,dx,_,_,rfl,g5 _ _ hp,clS,nG,rfl,g,gx,_,rfl,h1,rfl,_,rfl,g,xs,ms[i],rfl,hH',hO.gn.hi,m1.1,m1.2,λD6 H6 hD6 g6 l6=>?_];refine#[_,rfl,p,CS,dx,_,_,rfl,g6 _ _ (g5 _ _ hp),clS,nG,rfl,g,gx,_,rfl,g6 _ _ h1,rfl,_,rfl,g,xs,ms[i+j],rfl,hH'.same g6,hO.gn.hi,m2.1,m2.2,λD7 H7 hD7 g7 l7=>?_];refine#[(by show 2<=eA5;decide),λu hu=>?_];have g8:=UAB hu (.tup [.ref D6,.ref D7]);have n67:D6≠D7:=λe=>by rw [<- e,l6] at hD7;cases hD7
    subst e9;subst eD;exact q u _ (((g5.trans g6).trans g7).trans g8) #[D6,D7,zA0,g5.free hD6,(g5.trans g6).free hD7,n67,g8 _ _ (g7 _ _ l6),g8 _ _ l7]
   ·have c:¬eA3 ms[i] ms[i+j]=0:=λz=>c (yAJ z)
    subst e9;exact#[_,rfl,g4,by rw [e4,zU8 hij c];rfl]
  ·obtain ⟨v4,rfl,g4,e4⟩:=hP
   rw [el,show i+(ms.length-i)=ms.length by lia,yDA] at e4;subst eD;exact#[_,_,_,rfl,g13.trans g4,by rw [e1];exact zY1 hi (by rw [e4];rfl)]
 ·obtain ⟨_,_,_,rfl,g1,e1⟩:=hP
  have el:(IV ms).length=ms.length:=by unfold IV;rw [yAA]
  rw [el,yDA] at e1;rw [e1] at q;refine sR f1 ?_;exact q H' g1
def zZR:UAC ["self"] ["self"] (ZA4 zSX):=by trivial
def zUU (F:Fun K "meets" "System.meets" zSX f fd)(clS:Cls K CS)(M1:Meth K CS "apart" a1)(O1:Fk 4 a1 d1 ["self"] (JF3 CS C))(b1:UAD K d1 ["self"] []) :
  Fk 5 f fd ["self"] (JF4 CS C):=by
 refine fk F.ok zZR;obtain ⟨p,xs,ms,rfl,hS,hO,q⟩:=h;obtain ⟨dx,g,t,hp,hH,ht⟩:=id hS;refine#[_,zA2 (zA7 (zAW zNQ (zBE (pv 0) clS M1 O1 hr b1 .nil zAT) zBV (zAB _))),?_];refine#[_,rfl,p,dx,_,rfl,hp,rfl,p,xs,ms,rfl,hS,hO,?_]
 cases e:ap ms with
 | none=>
  rw [e] at q;exact λH' g'=>#[rfl,by simpa using q H' g']
 | some mn=>
  obtain ⟨m,n⟩:=mn;rw [e] at q;exact λt H' g' _=>#[rfl,by simpa using q H' g']
def ZEB (n:Nat)(f:Nat->Bool)(m:Nat):Bool:=decide (0<m)&&(!f m && !f (2^n-1-m))
def ZBL (n:Nat)(f:Nat->Bool)(m:Int):Bool:=ZEB n f m.toNat
def JF5:=∀ a n f m,(vs=[.ref a,.int ((m:Nat):Int)])->n<=12->m<2^n->H a=some (.lst (ZCL n f))->Q (.bl (ZEB n f m)) H->JF5 vs H Q E
def ZS6 (n:Nat):List Int:=(eAJ (2^n)).map λ(k:Nat)=>(k:Int)
def zJD (n:Nat):MsOk n (ZS6 n):=by
 refine#[yBl.mpr (List.nodup_range.imp λh e=>h (Int.ofNat.inj e)),λm hm=>?_];obtain ⟨k,hk,rfl⟩:=yAr.mp hm
 have:=yBC.mp hk
 exact#[ oz,by exact_mod_cast this]
def JF6:=∀ a n f,vs=[.ref a]->n<=12->H a=some (.lst (ZCL n f))->(∀ D H' zs,H D=none->Same H H'->H' D=some (.lst (IV zs))->zs.Perm (ZS6 n)->zHR zs->Q (.ref D) H')->JF6 vs H Q E
def JF7 (CS C:Addr):=∀ p xs ms,vs=[.ref p]->UAH CS C H p xs ms->Ord xs ms->xs.length<=12->(∀ zs,zs.Perm (ZS6 xs.length)->zHR zs->UAO H Q xs (zs.find? (ZBL xs.length (ZAU ms))))->JF7 CS C vs H Q E
def zPS:UAC ["table","mask"] ["table","mask"] (ZA4 zIO):=by trivial
def zP3 (F:Fun K "is_spare" "is_spare" zIO f fd)(T:Txt mg):Fk 1 f fd ["table","mask"] JF5:=by
 refine fk F.ok zPS;obtain ⟨a,n,tf,m,rfl,n12,hm,ha,q⟩:=h;have pp:=eAw n;refine#[_,zA2 (zA7 (zDH (zAW zJO (pv 1) zA5 (zAB _)) (zDH (zNK (zBF zAJ (pv 0) (pv 1) (λ_ _=>rfl))) (zEA (zNK (zBF zAJ (pv 0) (zAC zKB (zAC zKB (kL9 (pv 0)) zA5) (pv 1)) (λ_ _=>rfl))))))),?_];refine#[_,rfl,_,_,rfl,rfl,_,rfl,?_];unfold ZEB at q;refine zD2 (λc=>?_) (λc=>?_)
 ·have c0:0<m:=by have:=yAZ c;lia
  rw [yAJ c0,yBx] at q;refine#[_,rfl,_,rfl,a,_,_,_,rfl,rfl,SqL.of ha,zIM hm,_,rfl,_,rfl,?_];refine zD2 (λd=>?_) (λd=>?_)
  ·rw [d,yBx] at q
   have e:((((ZCL n tf).length:Nat):Int)-1-((m:Nat):Int))=((2^n-1-m:Nat):Int):=by rw [zAX];lia
   refine#[_,rfl,_,rfl,a,_,rfl,.inl (SqL.of ha),_,_,rfl,rfl,_,rfl,_,_,rfl,rfl,a,_,_,_,rfl,rfl,SqL.of ha,(by rw [e];exact zIM (zFQ hm)),_,rfl,q]
  ·rw [yEM] at d
   rw [d,yBu] at q;exact q
 ·have c0:¬0<m:=λz=>c (yAJ oz)
  rw [yAG c0,yBu] at q;exact q
def zR2:UAC ["table"] ["table"] (ZA4 zJH):=by trivial
def zOW (F:Fun K "masks_in_order" "masks_in_order" zJH f fd)(T:Txt mg)(D2:Df 5 "in_order" ["masks"] (JB2 K) a2 d2):Fk 6 f fd ["table"] JF6:=by
 refine fk F.ok zR2;obtain ⟨a,n,tf,rfl,n9,ha,q⟩:=h;have p9:2^n<=4096:=yAu (n:=2) dQ n9;refine#[_,zA2 (zA7 (kq D2 hr #v[(zB6 (zKV rfl) rfl T.list yBQ #v[(zB6 zQI rfl T.range PyProof.Rows.boot_range #v[(kL9 (pv 0))])])])),?_];refine#[_,rfl,a,_,rfl,.inl (SqL.of ha),_,rfl,λpr hpr=>?_];rw [zAX];obtain ⟨H1,g1,c1,e0⟩:=zCM hpr (.rng 0 ((2^n:Nat):Int));rw [e0];clear e0;refine#[pr,2^n,rfl,c1,oz,λl hl=>?_];have el:((eAJ (2^n)).map λ(k:Nat)=>V.int (k:Int))=List.map V.int (ZS6 n):=by unfold ZS6;rw [yCA];rfl
 rw [el];obtain ⟨H2,g2,c2,e0⟩:=zCM hl (.lst (List.map V.int (ZS6 n)));rw [e0];clear e0;have g12:=g1.trans g2;refine#[l,ZS6 n,rfl,.inl (SqL.of c2),by unfold ZS6;rw [yAA,yBc];lia,λm hm=>?_,λD H3 zs hD g3 l3 pz so=>q D H3 zs (g12.free hD) (g12.trans g3) l3 pz so]
 have:=(zJD n).ok m hm
 have h4:=zKH (n:=n) oz;exact#[this.1,oz]
def zMC:UAC ["system","table","mask"] ["system"] (ZA4 zT0):=by trivial
def zVH (F:Fun K "spare_set" "spare_set" zT0 f fd)(clS:Cls K CS)(nG:UAE K CS "ground")(cl:Cls K C)(M1:Meth K CS "table" a1)(O1:Fk 2 a1 d1 ["self"] (JD5 CS C))(b1:UAD K d1 ["self"] [])
  (M2:Meth K C "set_of" a2) (O2:Fk 3 a2 d2 ["self","mask"] (JB4 C)) (b2:UAD K d2 ["self","mask"] []) (D3:Df 6 "masks_in_order" ["table"] JF6 a3 d3) (D4:Df 1 "is_spare" ["table","mask"] JF5 a4 d4):Fk 7 f fd ["system"] (JF7 CS C):=by
 refine fk F.ok zMC;obtain ⟨p,xs,ms,rfl,hS,hO,n9,q⟩:=h;have hr1:Room 1 _:=hr.mono dQ;have hr2:Room 2 _:=hr.mono dQ;have hr3:Room 3 _:=hr.mono dQ;obtain ⟨dx,g,t,hp,hH,ht⟩:=id hS
 refine#[_,zA1 (kS9 1 zMC (zBE (pv 0) clS M1 O1 hr2 b1 .nil zAT))
  (zA1 (zBK eAx rfl (zB2 (kq D3 hr #v[(pv 1)])) (kG9 2 zMC)
   (zA2 (zAK (zB4 (kq D4 hr1 #v[(pv 1),(pv 2)])) (zA2 (zA7 (zAS (zAO (pv 0) rfl) cl M2 O2 hr3 b2 .nil zAT #v[(pv 2)]))) zA8)))
  (zA2 (zA7 zBV))),?_]
 refine#[_,rfl,p,dx,_,rfl,hp,rfl,p,xs,ms,rfl,hS,hO,λD H2 hD g2 lD=>?_];refine#[_,rfl,D,xs.length,ZAU ms,rfl,n9,lD,λZ H3 zs hZ g3 lZ pz so=>?_];have q:=q zs pz so;have g13:=g2.trans g3;have okz:∀ m∈zs,0<=m/\m<2^xs.length:=λm hm=>(zJD xs.length).ok m (pz.mem_iff.mp hm);have lD3:=g3 _ _ lD;refine#[Z,rfl,?_]
 refine zC5 (K:=K) (ys:=IV zs) (.inl (SqL.of lZ)) (λi σ H'=>∃ v2,σ=[some (.ref p),some (.ref D),v2]/\Same H3 H'/\zs.find? (ZBL xs.length (ZAU ms))=(zs.drop i).find? (ZBL xs.length (ZAU ms))) #[_,rfl,Same.refl _,rfl]
  (λi σ H' hP=>?_) (λi σ H' x hi hx hP=>?_) (λσ H' hP=>?_)
 ·obtain ⟨_,_,g',_⟩:=hP
  exact g'.at1 Z
 ·obtain ⟨v2,rfl,g4,e4⟩:=hP
  unfold IV at hx hi;rw [yAA] at hi;rw [yAa,yAB hi] at hx
  cases hx
  have hm:=okz _ (yAi hi);rw [yAz hi] at e4;generalize hz:zs[i]=m at hm e4 ⊢;obtain ⟨k,rfl⟩:=yAR hm.1;have hk:k<2^xs.length:=by have:=hm.2;exact_mod_cast this
  refine#[_,rfl,_,rfl,D,xs.length,ZAU ms,k,rfl,hO.gn.hi,hk,g4 _ _ lD3,_,rfl,?_];have es:ZBL xs.length (ZAU ms) ((k:Nat):Int)=ZEB xs.length (ZAU ms) k:=by unfold ZBL;rw [yAW]
  refine zD2 (λc=>?_) (λc=>?_)
  ·rw [yDL (by rw [es];exact c)] at e4
   rw [e4] at q;have g5:=g13.trans g4;have hH':=hH.same g5;obtain ⟨gx,t',d,h1,h2,h3⟩:=id hH';exact#[_,rfl,p,CS,dx,_,_,rfl,g5 _ _ hp,clS,nG,rfl,g,gx,_,rfl,h1,rfl,_,rfl,g,xs,_,rfl,hH',hO.gn.hi,hm.1,hm.2,λD6 H6 hD6 g6 l6=>q D6 H6 (g5.free hD6) (g5.trans g6) l6]
  ·rw [yDM (by rw [es];exact c)] at e4
   exact#[_,rfl,g4,e4]
 ·obtain ⟨v2,rfl,g4,e4⟩:=hP
  have el:(IV zs).length=zs.length:=by unfold IV;rw [yAA]
  rw [el,yDA] at e4;rw [e4] at q;exact q H' (g13.trans g4)
def JF8 (K:Frag):=∀ a ma xs ms,vs=[.ref a,.ref ma]->Sq K H a xs->xs.length<=12->Sq K H ma (IV ms)->ms.length<=1000->(∀ m∈ms,0<=m/\m<2^xs.length)->(∀ D H' rs,H D=none->Same H H'->LL H H' D rs (ms.map (ZBT xs))->Q (.ref D) H')->JF8 K vs H Q E
def zYT:UAC ["_law_names_here","_law_masks_here"] ["_law_names_here","_law_masks_here"] (ZA4 zFR):=by trivial
def zUX (F:Fun K "_law_lots" "_law_lots" zFR f fd)(D3:Df 1 "_law_set" ["_law_names_here","_law_mask"] (JC6 K) a3 d3):Fk 2 f fd ["_law_names_here","_law_masks_here"] (JF8 K):=by
 refine fk F.ok zYT;obtain ⟨a,ma,xs,zs,rfl,ha,h12,hma,h1000,ok,q⟩:=h;have s1000:100000<eA5:=by decide
 refine#[_,zA2 (zA7 (zAQ (xs:=["_law_mask"]) (fv:=[("_law_names_here",0)]) rfl dk #[#[rfl,Or.inl rfl,rfl],trivial] (zB2 (pv 1)) (λ_ _ _ _ _=>zAG (i:=0) (ndT dk) rfl (Or.inl rfl)) (λ_ _ _ _ _=>zBD)
   (λ_ _ _ _ _=>zEK D3.ok hr rfl D3.m D3.k D3.b .nil zAT #v[(pv 1),(pv 0)]))),?_]
 refine#[_,rfl,ma,rfl,?_]
 refine zC6 (K:=K) (ys:=IV zs) hma (λi D H'=>Same H H'/\∃ rs,LL H H' D rs ((zs.take i).map (ZBT xs))) (λD hD=>#[UAB hD _,[],zA0,λr hr=>(nomatch hr),.nil,rfl,λi r z h=>by cases h])
  (λi D H' hD hP=>hP.1.at1 ma) (λi D H' x hD hi hx hP=>?_) (λD H' hD hP=>?_)
 ·obtain ⟨g',rs,L⟩:=hP
  unfold IV at hx hi;rw [yAA] at hi;rw [yAa,yAB hi] at hx
  cases hx
  have hm:=ok zs[i] (yAi hi);refine#[rfl,?_];unfold ZHP
  (try dsimp only)
  rw [yAS rfl];refine#[_,rfl,_,rfl,a,xs,zs[i],rfl,ha.at1 (g'.at1 a),h12,hm.1,hm.2,λD2 H2 hD2 g2 l2=>?_];have top2:=g2 _ _ L.top;have lz:rs.length=i:=by have:=L.len;rw [yAA,yAe,Nat.min_eq_left (yDU hi)] at this;exact this
  have nD:D2≠D:=λz=>by rw [z,L.top] at hD2;cases hD2
  have nrs:D2∉rs:=λhm2=>by
   obtain ⟨j,hj,ej⟩:=yBg hm2
   have:=L.at_ j D2 (((zs.take i).map (ZBT xs))[j]'(by rw [<- L.len];exact hj)) (by rw [yAB hj,ej]) (yAB (by rw [<- L.len];exact hj))
   rw [this] at hD2;cases hD2
  refine#[_,top2,?_,λc o hc=>?_,rs++[D2],?_,?_,?_,?_,?_]
  ·rw [yAA];lia
  ·rw [zA6 (zA3 hc hD)];exact g2 _ _ (g' _ _ hc)
  ·rw [zA0,yAQ];rfl
  ·intro r hr'
   rcases yAb.mp hr' with z|z
   ·exact L.new r z
   ·rw [yAE.mp z];exact#[g'.free hD2,nD]
  ·rw [yCG]
   exact#[L.nd,by simp,λa ha b hb e=>nrs (by rw [yAE.mp hb] at e;rw [<- e];exact ha)]
  ·rw [yAV,lz,yAA,yAe]
   simp
   lia
  ·intro j r z hj hz
   have et:(zs.take (i+1)).map (ZBT xs)=(zs.take i).map (ZBT xs)++[ZBT xs zs[i]]:=by rw [yBG,yAB hi,yAQ];rfl
   rw [et] at hz
   rcases yBn j i with c|c
   ·rw [yAv oz] at hj
    rw [yAv (by rw [<- L.len];lia)] at hz;have hm2:=yAk hj;rw [zA6 (L.new r hm2).2];exact g2 _ _ (L.at_ j r z hj hz)
   ·have ej:j=i:=by
     have:=(yAH.mp hj).1
     rw [yAV] at this
     simp at this
     lia
    subst ej;rw [yAt oz,lz,yCn] at hj;rw [yAt (by rw [<- L.len];lia),<- L.len,lz,yCn] at hz
    cases hj
    cases hz
    rw [zA6 nD];exact l2
 ·obtain ⟨g',rs,L⟩:=hP
  have e:(IV zs).length=zs.length:=by unfold IV;rw [yAA]
  rw [e,yAs (yAF _)] at L;exact q D H' rs hD g' L
def putF (f:Nat->Bool)(m:Nat):Nat->Bool:=λk=>f k||decide (k &&& m=m)
def widF (n:Nat):(Nat->Bool)->List Int->Nat->Bool
 | f,[]=>f
 | f,m::r=>widF n (if ZBL n f m=true then putF f m.toNat else f) r
def ZPF (n:Nat):(Nat->Bool)->List Int->List Int
 | _,[]=>[]
 | f,m::r=>if ZBL n f m=true then m::ZPF n (putF f m.toNat) r else ZPF n f r
def JF9:=∀ a n f m,(vs=[.ref a,.int ((m:Nat):Int)])->n<=12->H a=some (.lst (ZCL n f))->(∀ D H',H D=none->Same H H'->H' D=some (.lst (ZCL n (putF f m)))->Q (.ref D) H')->JF9 vs H Q E
def JG0 (CS C:Addr):=∀ p xs ms,vs=[.ref p]->UAH CS C H p xs ms->Ord xs ms->ap ms=none->(∀ H',Same H H'->Q .non H')->JG0 CS C vs H Q E
def zX8:UAC ["table","mask"] ["table","mask"] (ZA4 zSN):=by trivial
def zUF (F:Fun K "put_in" "put_in" zSN f fd)(me:mg "enumerate"=none):Fk 1 f fd ["table","mask"] JF9:=by
 refine fk F.ok zX8;obtain ⟨a,n,tf,m,rfl,n12,ha,q⟩:=h;have p12:2^n<=4096:=yAu (n:=2) dQ n12;have s1000:16000000<=eA5:=by decide
 refine#[_,zA2 (zA7 (zAQ (xs:=["at","decides"]) (fv:=[("mask",1)]) rfl dk #[#[rfl,Or.inl rfl,rfl],trivial] (zF7 rfl me #v[(pv 0)])
   (λ_ _ _ _ _=>zLE (K:=K) (n:=2) rfl rfl (zBJ (zAG (i:=0) (ndT dk) rfl (Or.inl rfl)) (zBJ (zAG (i:=1) (ndT dk) rfl (Or.inl rfl)) zFP)))
   (λ_ _ _ _ _=>zBD) (λ_ _ _ _ _=>zdS (pv 1) (zEA (zAW zC3 (zAC zBU (pv 0) (pv 2)) (pv 2) (zAB _)))))),?_]
 refine#[_,rfl,a,rfl,?_];refine zKO (ys:=ZCL n tf) (.inl (SqL.of ha)) (λi D H'=>Same H H'/\H' D=some (.lst ((eAJ i).map λk=>V.bl (putF tf m k)))) (λD hD=>#[UAB hD _,zA0]) (λi D H' hD hP=>hP.1.at1 a) (λi D H' x r hD hi hx hP hr'=>?_) (λD H' hD hP=>?_)
 ·obtain ⟨g,hl⟩:=hP
  rw [zAX] at hi;rw [zCO hi] at hx
  cases hx
  have g2:=UAB hr' (.tup [.int (i:Nat),.bl (tf i)]);have c2:(upd H' r (.tup [.int (i:Nat),.bl (tf i)])) r=some (.tup [.int (i:Nat),.bl (tf i)]):=zA0;generalize upd H' r (.tup [.int (i:Nat),.bl (tf i)])=H2 at g2 c2 ⊢;have fin:H2 D=some (.lst ((eAJ i).map λk=>V.bl (putF tf m k))):=g2 _ _ hl;refine#[r,_,rfl,SqT.of c2,rfl,_,_,rfl,_,_,rfl,rfl,rfl,?_];unfold ZHP;dsimp only;rw [yAS rfl]
  have app:∀ b:Bool,b=putF tf m i->∃ zs,H2 D=some (.lst zs)/\zs.length<eA5/\(Same H (upd H2 D (.lst (zs++[.bl b])))/\(upd H2 D (.lst (zs++[.bl b]))) D=some (.lst ((eAJ (i+1)).map λk=>V.bl (putF tf m k)))):=λb e=>by
   refine#[_,fin,?_,λc o hc=>?_,?_]
   ·rw [yAA,yBc];lia
   ·rw [zA6 (zA3 hc hD)];exact g2 _ _ (g _ _ hc)
   ·rw [zA0,yDf,yAQ,e];rfl
  refine#[_,rfl,_,rfl,?_];refine zD2 (λc=>?_) (λc=>?_)
  ·exact app _ (by unfold putF;rw [c];rfl)
  ·refine#[_,rfl,_,rfl,_,_,rfl,rfl,_,rfl,rfl,?_]
   refine app _ ?_;rw [yEM] at c;unfold putF;rw [c,Bool.false_or];show decide (V.int (eA3 ((i:Nat):Int) ((m:Nat):Int))=V.int ((m:Nat):Int))=_;rw [zB7,yAd,yAI,yAI];exact#[λh=>by injection h with h;exact_mod_cast h,λh=>by rw [h]]
 ·obtain ⟨g,hl⟩:=hP
  rw [zAX] at hl;exact q D H' hD g hl
def zbE:UAC ["system","pair"] ["system"] (ZA4 zGV):=by trivial
def zaX (F:Fun K "check_meets" "check_meets" zGV f fd)(clS:Cls K CS)(M1:Meth K CS "apart" a1)(O1:Fk 4 a1 d1 ["self"] (JF3 CS C))(b1:UAD K d1 ["self"] []):Fk 5 f fd ["system"] (JG0 CS C):=by
 refine fk F.ok zbE;obtain ⟨p,xs,ms,rfl,hS,hO,e,q⟩:=h;have hr4:Room 4 _:=hr.mono dQ;obtain ⟨dx,_,_,hp,_⟩:=id hS
 refine#[_,zA1 (kS9 1 zbE (zBE (pv 0) clS M1 O1 hr4 b1 .nil zAT))
  (zA2 (zAK (zA9 zLT (pv 1) zBV (zAB _)) zC4 zA8)),?_]
 refine#[_,rfl,p,dx,_,rfl,hp,rfl,p,xs,ms,rfl,hS,hO,?_];rw [e];intro H1 g1;refine#[_,rfl,rfl,_,rfl,zAY ?_];exact q H1 g1
def JG1 (CS C:Addr):=∀ p xs ms,vs=[.ref p]->UAH CS C H p xs ms->Ord xs ms->ZFY (some xs)=true->xs.length<=9->ap ms=none->(∀ t p' Z rs zs as H',as.Perm (ZS6 xs.length)->zHR as->Same H H'->H' t=some (.tup [.ref p',.ref Z])->UAH CS C H' p' xs zs->zs.Perm (ZAA (widF xs.length (ZAU ms) as) (2^xs.length))->Ord xs zs->LL H H' Z rs ((ZPF xs.length (ZAU ms) as).map (ZBT xs))->Q (.ref t) H')->JG1 CS C vs H Q E
theorem LL.put {H0 H H1:Hp}{D r:Addr}{rs:List Addr}{zs:List (List V)}{ys:List V}(h:LL H0 H D rs zs)(g:Same H H1)(fr:H r=none)(f0:H0 r=none)(hr:H1 r=some (.lst ys)):LL H0 (upd H1 D (.lst ((rs++[r]).map V.ref))) D (rs++[r]) (zs++[ys]):=by
 have rD:r≠D:=λe=>by rw [e,h.top] at fr;cases fr
 have nrs:r∉rs:=λhm=>by
  obtain ⟨j,hj,ej⟩:=yBg hm
  have:=h.at_ j r (zs[j]'(by rw [<- h.len];exact hj)) (by rw [yAB hj,ej]) (yAB (by rw [<- h.len];exact hj))
  rw [this] at fr;cases fr
 refine#[zA0,λq hq=>?_,?_,?_,λj q z hj hz=>?_]
 ·rcases yAb.mp hq with z|z
  ·exact h.new q z
  ·rw [yAE.mp z];exact#[f0,rD]
 ·rw [yCG]
  exact#[h.nd,by simp,λa ha b hb e=>nrs (by rw [yAE.mp hb] at e;rw [<- e];exact ha)]
 ·rw [yAV,yAV,h.len];rfl
 ·have l:=h.len
  rcases yBn j rs.length with c|c
  ·rw [yAv c] at hj
   rw [yAv oz] at hz;rw [zA6 (h.new q (yAk hj)).2];exact g _ _ (h.at_ j q z hj hz)
  ·rw [yAt c] at hj
   rw [yAt oz] at hz
   have j0:j-rs.length=0:=by
    have:=(yAH.mp hj).1
    rw [yBZ] at this;lia
   rw [j0] at hj;rw [show j-zs.length=0 by lia] at hz
   cases hj;cases hz
   rw [zA6 rD];exact hr
def zUL {n:Nat}{f:Nat->Bool}{as:List Int}{m:Int}:widF n f (as++[m])=(if ZBL n (widF n f as) m=true then putF (widF n f as) m.toNat else widF n f as)/\ZPF n f (as++[m])=ZPF n f as++(if ZBL n (widF n f as) m=true then [m] else []):=by
 induction as generalizing f with
 | nil=>
  refine#[rfl,?_];show ZPF n f [m]=[]++(if ZBL n f m=true then [m] else []);unfold ZPF
  by_cases c:ZBL n f m=true
  ·rw [yAS c,yAS c];rfl
  ·rw [yAT c,yAT c];rfl
 | cons a r ih=>
  obtain ⟨i1,i2⟩:=ih (f:=if ZBL n f a=true then putF f a.toNat else f);refine#[i1,?_];show ZPF n f (a::(r++[m]))=ZPF n f (a::r)++_
  by_cases c:ZBL n f a=true
  ·rw [yAS c] at i2
   have e:widF n f (a::r)=widF n (putF f a.toNat) r:=by show widF n (if _ then _ else _) r=_;rw [yAS c]
   rw [e];unfold ZPF;rw [yAS c,yAS c,i2];rfl
  ·rw [yAT c] at i2
   have e:widF n f (a::r)=widF n f r:=by show widF n (if _ then _ else _) r=_;rw [yAT c]
   rw [e];unfold ZPF;rw [yAT c,yAT c];exact i2
def zCX:UAC ["system","table","masks","sets","mask"] ["system"] (ZA4 zIQ):=by trivial
def zON (F:Fun K "widened" "widened" zIQ f fd)(clS:Cls K CS)(nG:UAE K CS "ground")(cl:Cls K C)(M1:Meth K CS "table" a1)(O1:Fk 2 a1 d1 ["self"] (JD5 CS C))(b1:UAD K d1 ["self"] [])
  (M2:Meth K C "set_of" a2) (O2:Fk 3 a2 d2 ["self","mask"] (JB4 C)) (b2:UAD K d2 ["self","mask"] []) (D3:Df 6 "masks_in_order" ["table"] JF6 a3 d3) (D4:Df 1 "is_spare" ["table","mask"] JF5 a4 d4)
  (D5:Df 1 "put_in" ["table","mask"] JF9 a5 d5) (D6:Df 5 "check_meets" ["system"] (JG0 CS C) a6 d6) (M7:Meth K CS "houses" a7) (O7:Fk 2 a7 d7 ["self"] (JB7 CS C)) (b7:UAD K d7 ["self"] []) (D8:Df 8 "system_by_table" ["names","table"] (JD6 CS C) a8 d8):Fk 9 f fd ["system"] (JG1 CS C):=by
 refine fk F.ok zCX;obtain ⟨p,xs,ms,rfl,hS,hO,are,n9,hap,q⟩:=h;have hr1:Room 1 _:=hr.mono dQ;have hr2:Room 2 _:=hr.mono dQ;have hr3:Room 3 _:=hr.mono dQ;have hr5:Room 5 _:=hr.mono dQ;have hr6:Room 6 _:=hr.mono dQ;have n12:=hO.gn.hi;have p9:2^xs.length<=512:=yAu (n:=2) dQ n9;have s1000:16000000<=eA5:=by decide
 obtain ⟨dx,g,t,hp,hH,ht⟩:=id hS
 refine#[_,zA1 (zBC (kq D6 hr5 #v[(pv 0)]))
  (zA1 (kS9 1 zCX (zBE (pv 0) clS M1 O1 hr2 b1 .nil zAT))
  (zA1 (kS9 2 zCX (kq D3 hr6 #v[(pv 1)]))
  (zA1 (kS9 3 zCX (zB1 zB5))
  (zA1 (zBK eAx rfl (zB2 (pv 2)) (kG9 4 zCX)
   (zA2 (zAK (zB4 (kq D4 hr1 #v[(pv 1),(pv 4)]))
    (zA1 (kS9 1 zCX (kq D5 hr1 #v[(pv 1),(pv 4)]))
    (zA2 (zBC (zH4 yBU yBY yBX zBN (pv 3) #v[(zAS (zAO (pv 0) rfl) cl M2 O2 hr3 b2 .nil zAT #v[(pv 4)])])))) zA8)))
  (zA2 (zA7 (zB9 #v[(kq D8 hr #v[(zBE (pv 0) clS M7 O7 hr2 b7 .nil zAT),(pv 1)]),(pv 3)]))))))),?_]
 refine#[_,rfl,p,xs,ms,rfl,hS,hO,hap,λH0 g0=>?_];refine#[_,rfl,p,dx,_,rfl,g0 _ _ hp,rfl,p,xs,ms,rfl,hS.same g0,hO,λD H2 hD g2 lD=>?_];refine#[_,rfl,D,xs.length,ZAU ms,rfl,n12,lD,λZ H3 as hZ g3 lZ pz so=>?_];refine#[(by show 0<=eA5;decide),λW hW=>?_];obtain ⟨H4,g4,c4,e0⟩:=zCM hW (.lst []);rw [e0];clear e0;have g24:=(g2.trans g3).trans g4;have g04:=g0.trans g24;have hWH:H W=none:=(g0.trans (g2.trans g3)).free hW;have okz:∀ m∈as,0<=m/\m<2^xs.length:=λm hm=>(zJD xs.length).ok m (pz.mem_iff.mp hm);have ZW:Z≠W:=λe=>by rw [e,hW] at lZ;cases lZ
 have DW:D≠W:=λe=>by have:=g3 _ _ lD;rw [e,hW] at this;cases this
 have len_as:as.length<=512:=by rw [pz.length_eq];unfold ZS6;rw [yAA,yBc];exact p9
 refine#[_,rfl,Z,rfl,?_]
 refine zC5 (K:=K) (ys:=IV as) (.inl (SqL.of (g4 _ _ lZ))) (λi σ H'=>∃ Dt v4 rs,σ=[some (.ref p),some (.ref Dt),some (.ref Z),some (.ref W),v4]/\Same H H'/\Dt≠W/\H' Dt=some (.lst (ZCL xs.length (widF xs.length (ZAU ms) (as.take i))))/\H' Z=some (.lst (IV as))/\LL H H' W rs ((ZPF xs.length (ZAU ms) (as.take i)).map (ZBT xs))/\rs.length<=i)
  #[D,_,[],rfl,g04,DW,g4 _ _ (g3 _ _ lD),g4 _ _ lZ,#[c4,λr hr=>(nomatch hr),.nil,rfl,λi r z h=>by cases h],yBN _]
  (λi σ H' hP=>?_) (λi σ H' x hi hx hP=>?_) (λσ H' hP=>?_)
 ·obtain ⟨_,_,_,_,_,_,_,z,_⟩:=hP
  intro o ho;rw [g4 _ _ lZ] at ho
  cases ho
  exact z
 ·refine gNs (dH λD0 eD=>?_)
  obtain ⟨Dt,v4,rs,rfl,gH,dW,tD,zD,L,rl⟩:=hP;unfold IV at hx hi;rw [yAA] at hi;rw [yAa,yAB hi] at hx
  cases hx
  have hm:=okz _ (yAi hi);have et:as.take (i+1)=as.take i++[as[i]]:=by rw [yBG,yAB hi];rfl
  obtain ⟨s1,s2⟩:=zUL (n:=xs.length) (f:=ZAU ms) (as:=as.take i) (m:=as[i]);rw [<- et] at s1 s2;generalize hz:as[i]=m at hm s1 s2 ⊢;obtain ⟨k,rfl⟩:=yAR hm.1;have hk:k<2^xs.length:=by have:=hm.2;exact_mod_cast this
  generalize widF xs.length (ZAU ms) (as.take i)=tf at s1 s2 tD;refine#[_,rfl,_,rfl,Dt,xs.length,tf,k,rfl,n12,hk,tD,_,rfl,?_];have es:ZBL xs.length tf ((k:Nat):Int)=ZEB xs.length tf k:=by unfold ZBL;rw [yAW]
  rw [es] at s1 s2;refine zD2 (λc=>?_) (λc=>?_)
  ·rw [yAS c,yAW] at s1
   rw [yAS c] at s2;refine#[_,rfl,_,rfl,Dt,xs.length,tf,k,rfl,n12,tD,λD6 H6 hD6 g6 l6=>?_];have g06:=gH.trans g6;have hH':=hH.same g06;obtain ⟨gx,t',d,h1,h2,h3⟩:=id hH';have top6:=g6 _ _ L.top;have D6W:D6≠W:=λe=>by rw [e,L.top] at hD6;cases hD6
   refine#[_,rfl,.inl #[rfl,_,SqL.of top6],_,rfl,p,CS,dx,_,_,rfl,g06 _ _ hp,clS,nG,rfl,g,gx,_,rfl,h1,rfl,_,rfl,g,xs,_,rfl,hH',hO.gn.hi,hm.1,hm.2,λD7 H7 hD7 g7 l7=>?_];have g67:=g6.trans g7;have top7:=g67 _ _ L.top;have D7W:D7≠W:=λe=>by rw [e,top6] at hD7;cases hD7
   have L':=L.put g67 (g6.free hD7) (g06.free hD7) l7;have er:(rs.map V.ref)++[V.ref D7]=(rs++[D7]).map V.ref:=by rw [yAQ];rfl
   refine#[W,_,_,rfl,rfl,top7,?_,?_]
   ·rw [yAA];lia
   rw [er]
   have nb:∀ c o,H c=some o->upd H7 W (.lst ((rs++[D7]).map V.ref)) c=some o:=λc o hc=>by
    rw [zA6 (zA3 hc hWH)];exact g7 _ _ (g06 _ _ hc)
   subst eD;refine#[D6,_,rs++[D7],rfl,nb,D6W,?_,?_,?_,?_]
   ·rw [zA6 D6W,s1];exact g7 _ _ l6
   ·rw [zA6 ZW];exact g67 _ _ zD
   ·rw [s2,yAQ (f:=ZBT xs)];exact L'
   ·rw [yAV,yBZ];lia
  ·rw [yAT c] at s1 s2
   rw [yBh] at s2;subst eD;refine#[Dt,_,rs,rfl,gH,dW,?_,zD,?_,oz]
   ·rw [s1];exact tD
   ·rw [s2];exact L
 ·obtain ⟨Dt,v4,rs,rfl,gH,dW,tD,zD,L,rl⟩:=hP
  have el:(IV as).length=as.length:=by unfold IV;rw [yAA]
  rw [el,yCz] at tD L;refine#[_,rfl,p,dx,_,rfl,gH _ _ hp,rfl,p,xs,ms,rfl,hS.same gH,λl hl=>?_];have g7:=UAB hl (.lst xs);have c7:(upd H' l (.lst xs)) l=some (.lst xs):=zA0;generalize upd H' l (.lst xs)=H7 at g7 c7 ⊢;have few:(ZAA (widF xs.length (ZAU ms) as) (2^xs.length)).length<=1000:=yAp (zDC _ _) oz;refine#[_,rfl,l,Dt,xs,_,rfl,c7,are,g7 _ _ tD,few,λp' H8 zs hp' g8 hS8 pz8 O8=>?_];refine#[_,rfl,(by show 2<=eA5;decide),λt9 ht9=>?_];have g9:=UAB ht9 (.tup [.ref p',.ref W]);have g79:=(g7.trans g8).trans g9;exact q t9 p' W rs zs as _ pz so (gH.trans g79) zA0 (hS8.same g9) pz8 O8 #[g79 _ _ L.top,L.new,L.nd,L.len,λi r z a b=>g79 _ _ (L.at_ i r z a b)]
def Mo (n:Nat)(f:Nat->Bool):Prop:=∀ a b,a<2^n->b<2^n->Sb a b->f a=true->f b=true
def Me (n:Nat)(f:Nat->Bool):Prop:=∀ a,a<2^n->f a=true->f (2^n-1-a)=false
def zTR {a b c:Nat}(h1:Sb a b)(h2:Sb b c):Sb a c:=λk hk=>h2 k (h1 k hk)
theorem UAa {f:Nat->Bool}{m k:Nat}:putF f m k=true ↔ f k=true \/ Sb m k:=by
 unfold putF;rw [yCq,yAI,Nat.and_comm,UAJ]
def zYC {n m:Nat}{f:Nat->Bool}(h:Mo n f):Mo n (putF f m):=λa b ha hb s e=>by
 rcases UAa.mp e with e|e
 ·exact UAa.mpr (.inl (h a b ha hb s e))
 ·exact UAa.mpr (.inr (zTR e s))
theorem UAg {n m:Nat}{f:Nat->Bool}:ZEB n f m=true ↔ 0<m/\f m=false/\f (2^n-1-m)=false:=by
 unfold ZEB;rw [yAN,yAN,yAI,yBE,yBE]
def zSL {n m a:Nat}(hm:0<m)(ha:a<2^n)(h1:Sb m a)(h2:Sb m (2^n-1-a)):False:=by
 obtain ⟨k,hk⟩:∃ k,m.testBit k=true:=by
  by_cases h:∃ k,m.testBit k=true
  ·exact h
  ·exfalso
   have:m=0:=yBR λk=>by
    rw [yCJ]
    cases e:m.testBit k with
    | false=>rfl
    | true=>exact absurd #[k,e] h
   lia
 have b1:=h1 k hk;have b2:=h2 k hk;rw [zDO ha,b1] at b2
 simp at b2
def zX6 {n m:Nat}{f:Nat->Bool}(mo:Mo n f)(me:Me n f)(hm:m<2^n)(s:ZEB n f m=true):Me n (putF f m):=λa ha e=>by
 obtain ⟨m0,s1,s2⟩:=UAg.mp s;have ca:=zFQ ha;have cm:=zFQ hm
 cases c:putF f m (2^n-1-a) with
 | false=>rfl
 | true=>
  exfalso
  rcases UAa.mp e with e|e
  ·rcases UAa.mp c with c|c
   ·rw [me a ha e] at c;cases c
   ·have t:=zMA hm ca c
    rw [zQ8 ha] at t;rw [mo a _ ha cm t e] at s2
    cases s2
  ·rcases UAa.mp c with c|c
   ·have t:=zMA hm ha e
    rw [mo _ _ ca cm t c] at s2
    cases s2
   ·exact zSL m0 ha e c
def zHA {n:Nat}:∀ {as:List Int} {f:Nat->Bool},(∀ m∈as,0<=m/\m<2^n)->Mo n f->Me n f->Mo n (widF n f as)/\Me n (widF n f as)
 | [],f,_,mo,me=>#[mo,me]
 | m::r,f,ok,mo,me=>by
  have hm:=ok m (yAU ..);have ok':=λx hx=>ok x (yAL _ hx);obtain ⟨k,rfl⟩:=yAR hm.1;have hk:k<2^n:=by have:=hm.2;exact_mod_cast this
  show Mo n (widF n (if ZBL n f ((k:Nat):Int)=true then putF f ((k:Nat):Int).toNat else f) r)/\Me n (widF n (if ZBL n f ((k:Nat):Int)=true then putF f ((k:Nat):Int).toNat else f) r);have es:ZBL n f ((k:Nat):Int)=ZEB n f k:=by unfold ZBL;rw [yAW]
  rw [es,yAW]
  by_cases c:ZEB n f k=true
  ·rw [yAS c]
   exact zHA ok' (zYC mo) (zX6 mo me hk c)
  ·rw [yAT c]
   exact zHA ok' mo me
def zM0 {a b:Int}(a0:0<=a)(b0:0<=b):eA3 a b=eA3 b a:=by
 obtain ⟨x,rfl⟩:=yAR a0;obtain ⟨y,rfl⟩:=yAR b0;rw [zB7,zB7,Nat.and_comm]
def zS2:∀ {l:List Int},(∀ m∈l,0<=m)->ap l=none->∀ a∈l,∀ b∈l,eA3 a b≠0
 | [],_,_,a,ha,_,_=>by cases ha
 | m::r,h0,h,a,ha,b,hb=>by
  have e:ap (m::r)=match hit m (m::r) with|some x=>some (m,x)|none=>ap r:=rfl
  rw [e] at h
  cases q:hit m (m::r) with
  | some x=>rw [q] at h;cases h
  | none=>
   rw [q] at h
   have all:∀ x∈m::r,eA3 m x≠0:=λx hx z=>by
    have:=List.find?_eq_none.mp q x hx
    exact this (yAJ z)
   have ih:=zS2 (λx hx=>h0 x (yAL _ hx)) h
   rcases yAf.mp ha with rfl|ha'
   ·exact all b hb
   ·rcases yAf.mp hb with rfl|hb'
    ·rw [zM0 (h0 a ha) (h0 b hb)]
     exact all a ha
    ·exact ih a ha' b hb'
def zUC {n:Nat}{zs:List Int}(ok:∀ m∈zs,0<=m/\m<2^n)(h:ap zs=none){m:Nat}(hm:m<2^n)(a:ZAU zs m=true):ZAU zs (2^n-1-m)=false:=by
 cases e:ZAU zs (2^n-1-m) with
 | false=>rfl
 | true=>
  unfold ZAU at a e;rw [yAw] at a e;obtain ⟨x,hx,ex⟩:=a;obtain ⟨y,hy,ey⟩:=e;have ex:=yAZ ex;have ey:=yAZ ey;have ne:=zS2 (λm hm=>(ok m hm).1) h x hx y hy;obtain ⟨i,rfl⟩:=yAR (ok x hx).1;obtain ⟨j,rfl⟩:=yAR (ok y hy).1;rw [zB7] at ex ey ne;have s1:Sb i m:=UAJ.mp oz;have s2:Sb j (2^n-1-m):=UAJ.mp oz;refine absurd ?_ ne
  have:i &&& j=0:=by
   refine yBR λk=>?_;rw [yBz,yCJ]
   cases p:i.testBit k with
   | false=>rfl
   | true=>
    cases q:j.testBit k with
    | false=>rfl
    | true=>
     have t1:=s1 k p;have t2:=s2 k q;rw [zDO hm,t1] at t2
     simp at t2
  rw [this];rfl
def zRB:∀ {l:List Int},(∀ a∈l,∀ b∈l,eA3 a b≠0)->ap l=none
 | [],_=>rfl
 | m::r,h=>by
  show (match hit m (m::r) with|some x=>some (m,x)|none=>ap r)=none;have e:hit m (m::r)=none:=List.find?_eq_none.mpr λx hx z=>h m (yAU ..) x hx (yAZ z);rw [e];exact zRB λa ha b hb=>h a (yAL _ ha) b (yAL _ hb)
def zLG {n:Nat}(n12:n<=12){f:Nat->Bool}(mo:Mo n f)(me:Me n f){zs:List Int}(ok:∀ m∈zs,0<=m/\m<2^n)(pz:zs.Perm (ZAA f (2^n))):ap zs=none:=zRB λa ha b hb z=>by
 obtain ⟨x,rfl⟩:=yAR (ok a ha).1;obtain ⟨y,rfl⟩:=yAR (ok b hb).1;have hx:x<2^n:=by have:=(ok _ ha).2;exact_mod_cast this
 have hy:y<2^n:=by have:=(ok _ hb).2;exact_mod_cast this
 have self:∀ k:Nat,((k:Nat):Int)∈zs->ZAU zs k=true:=λk hk=>by
  unfold ZAU;rw [yAw];exact#[_,hk,yAJ (by rw [zB7,Nat.and_self])]
 have fx:=self x ha;have fy:=self y hb;rw [zIC n12 mo pz hx] at fx;rw [zIC n12 mo pz hy] at fy
 have sb:Sb y (2^n-1-x):=λj hj=>by
  rw [zDO hx,yAN,yBE];rw [zB7] at z;have z:x &&& y=0:=by exact_mod_cast z
  have t:(x &&& y).testBit j=false:=by rw [z,yCJ]
  rw [yBz,hj,Bool.and_true] at t;refine#[yAJ ?_,t]
  rcases yBn j n with q|q
  ·exact q
  ·have h1:=yCx hj
   have h2:2^n<=2^j:=yAu dQ q;lia
 have:=me x hx fx
 rw [mo _ _ hy (zFQ hx) sb fy] at this
 cases this
def zbD {n:Nat}{ms:List Int}(ok:∀ m∈ms,0<=m/\m<2^n):Mo n (ZAU ms):=λ_ _ _ _ s h=>zM3 (λm hm=>(ok m hm).1) s h
def zc3 {n:Nat}{ms:List Int}(ok:∀ m∈ms,0<=m/\m<2^n)(h:ap ms=none):Me n (ZAU ms):=λ_ ha e=>zUC ok h ha e
def zQD {n:Nat}(n12:n<=12){ms as zs:List Int}(ok:∀ m∈ms,0<=m/\m<2^n)(h:ap ms=none)(oka:∀ m∈as,0<=m/\m<2^n)(okz:∀ m∈zs,0<=m/\m<2^n)(pz:zs.Perm (ZAA (widF n (ZAU ms) as) (2^n))):ap zs=none:=
 let ⟨mo,me⟩:=zHA oka (zbD ok) (zc3 ok h)
 zLG n12 mo me okz pz
def ZdU (xs:List V)(ms:List Int)(m:Int)(w:Str)(l:Int):Prop:=
 (ZG3 (eA4 (2^xs.length-1) m) ms=some l/\w="stands") \/ (ZG3 (eA4 (2^xs.length-1) m) ms=none/\w="falls"/\∃ os,Ord xs os/\os.Perm (ZAA (ZHH xs.length (ZAU ms)) (2^xs.length))/\ZG3 m os=some l)
def JG2 (CS C:Addr):=∀ p x xs ms m,vs=[.ref p,x]->UAH CS C H p xs ms->Ord xs ms->ZFY (some xs)=true->xs.length<=9->UAQ H x xs m->0<=m->m<2^xs.length->(∀ w l t D H',ZdU xs ms m w l->0<=l->l<2^xs.length->Same H H'->H t=none->H D=none->H' t=some (.tup [.str w,.ref D])->H' D=some (.lst (ZBT xs l))->Q (.ref t) H')->JG2 CS C vs H Q E
def zX0 {xs:List V}{ms:List Int}(h:Ord xs ms):∀ m∈ms,0<=m/\m<2^xs.length:=λm hm=>h.ok m hm
def zMM {n:Nat}{ms:List Int}(ok:∀ m∈ms,0<=m/\m<2^n){m l:Int}(m0:0<=m)(m1:m<2^n)(h:ZG3 (eA4 (2^n-1) m) ms=some l):l∈ms/\eA3 l m=0:=by
 have hm:=yCy h;have hl:=List.find?_some h;have hl:=yAZ hl;obtain ⟨x,rfl⟩:=yAR m0;have hx:x<2^n:=by exact_mod_cast m1
 have e1:(2:Int)^n-1=((2^n-1:Nat):Int):=by
  have:=eAw n
  rw [Int.natCast_sub oz,yBi];rfl
 rw [e1,zJE hx] at hl
 have d:ZAU [l] (2^n-1-x)=true:=by
  unfold ZAU;rw [yAw];exact#[l,yAE.mpr rfl,yAJ hl]
 have e:=zEZ (ms:=[l]) (λm hm'=>by rw [yAE.mp hm'];exact ok l hm) hx;rw [d] at e;unfold ZEL at e;refine#[hm,?_]
 by_cases c:eA3 l ((x:Nat):Int)=0
 ·exact c
 ·exfalso
  have:([l].any λl=>decide (eA3 l ((x:Nat):Int)=0))=false:=by
   rw [yED];intro o ho;rw [yAE.mp ho,yAI];exact c
  rw [this] at e
  cases e
def zNX {n:Nat}(n12:n<=12){ms zs:List Int}(ok:∀ m∈ms,0<=m/\m<2^n)(pz:zs.Perm (ZAA (ZHH n (ZAU ms)) (2^n))){m:Int}(m0:0<=m)(m1:m<2^n)(h:ZG3 (eA4 (2^n-1) m) ms=none):∃ l,ZG3 m zs=some l:=by
 obtain ⟨x,rfl⟩:=yAR m0;have hx:x<2^n:=by exact_mod_cast m1
 have e1:(2:Int)^n-1=((2^n-1:Nat):Int):=by
  have:=eAw n
  rw [Int.natCast_sub oz,yBi];rfl
 rw [e1,zJE hx] at h;have d:=zRK ms (2^n-1-x);rw [h] at d;have d2:=zTB n12 (λm h=>(ok m h).1) pz hx;rw [<- d] at d2;have d3:=zRK zs x;rw [d2] at d3;exact yBt.mp d3
def zL9 (F:Fun K "settled" "settled" zG7 f fd)(clS:Cls K CS)(M1:Meth K CS "standing" a1)(O1:Fk 5 a1 d1 ["self","fallen"] (JD1 CS C))(b1:UAD K d1 ["self","fallen"] [])
  (M2:Meth K CS "within" a2) (O2:Fk 5 a2 d2 ["self","names"] (JC9 CS C)) (b2:UAD K d2 ["self","names"] []) (D3:Df 9 "other_side" ["system"] (JE9 CS C) a3 d3):Fk 10 f fd ["system","fallen"] (JG2 CS C):=by
 refine fk F.ok zEW;obtain ⟨p,x,xs,ms,m,rfl,hS,hO,are,n9,hx,m0,m1,q⟩:=h;have hr5:Room 5 _:=hr.mono dQ;have okm:=zX0 hO;obtain ⟨dx,_,_,hp,_⟩:=id hS
 refine#[_,zA1 (kS9 2 zEW (zAS (pv 0) clS M1 O1 hr5 b1 .nil zAT #v[(pv 1)]))
  (zA1 (zAK (zA9 zLT (pv 2) zBV (zAB _)) (zA2 (zA7 (zB9 #v[zAL,(pv 2)]))) zA8)
  (zA2 (zA7 (zB9 #v[zAL,(zAS (kq D3 hr #v[(pv 0)]) clS M2 O2 hr5 b2 .nil zAT #v[(pv 1)])])))),?_]
 refine#[_,rfl,p,dx,_,rfl,hp,rfl,_,rfl,p,x,xs,ms,m,rfl,hS,hO,hx,m0,m1,?_]
 cases e:ZG3 (eA4 (2^xs.length-1) m) ms with
 | some l=>
  obtain ⟨f1,f2⟩:=zMM okm m0 m1 e;have okl:=okm l f1;intro D H1 hD g1 lD;refine#[_,rfl,rfl,_,rfl,?_];rw [yAG (λz=>nomatch z)];refine zCQ #[_,rfl,(by show 2<=eA5;decide),λt ht=>?_];have g2:=UAB ht (.tup [.str "stands",.ref D]);exact q "stands" l t D _ (.inl #[e,rfl]) okl.1 okl.2 (g1.trans g2) (g1.free ht) hD zA0 (g2 _ _ lD)
 | none=>
  intro H1 g1;refine#[_,rfl,rfl,_,rfl,zAY ?_];refine#[_,rfl,p,xs,ms,rfl,hS.same g1,hO,are,zWU n9 ms,λo H2 zs ho g2 S2 p2 W2=>?_];obtain ⟨dx2,_,_,hp2,_⟩:=id S2;have okz:=zX0 W2;obtain ⟨l,el⟩:=zNX (zs:=zs) oz okm p2 m0 m1 e;have okl:=okz l (yCy el);refine#[o,dx2,_,rfl,hp2,rfl,_,rfl,o,x,xs,zs,m,rfl,S2,W2,(hx.same g1).same g2,m0,m1,?_];rw [el];intro D H3 hD g3 lD;refine#[(by show 2<=eA5;decide),λt ht=>?_];have g4:=UAB ht (.tup [.str "falls",.ref D]);have g12:=g1.trans g2;exact q "falls" l t D _ (.inr #[e,rfl,zs,W2,p2,el]) okl.1 okl.2 ((g12.trans g3).trans g4) ((g12.trans g3).free ht) (g12.free hD) zA0 (g4 _ _ lD)
def ZZ3 (zs os:List Int)(m:Int)(w:Str)(l:Int):Prop:=(zs.find? (λo=>decide (eA3 o m=0))=some l/\w="stands") \/ (zs.find? (λo=>decide (eA3 o m=0))=none/\w="falls"/\os.find? (λo=>decide (eA3 o m=o))=some l)
def JG3 (K:Frag):=∀ a ma oa xs ms zs os m,vs=[.ref a,.ref ma,.ref oa,.int m]->H a=some (.lst xs)->GN xs->Sq K H ma (IV ms)->ms.length<=1000->(∀ o∈ms,0<=o/\o<2^xs.length)->zs.Perm ms->zHR zs->Sq K H oa (IV os)->os.length<=1000->(∀ o∈os,0<=o/\o<2^xs.length)->(∃ w l,ZZ3 zs os m w l)->(∀ w l t D H',ZZ3 zs os m w l->0<=l->l<2^xs.length->Same H H'->H t=none->H D=none->H' t=some (.tup [.str w,.ref D])->H' D=some (.lst (ZBT xs l))->Q (.ref t) H')->JG3 K vs H Q E
def zES {p:Int->Bool}:∀ (zs:List Int),(zs.filter p).head?=zs.find? p
 | []=>rfl
 | z::r=>by
  cases h:p z with
  | true=>rw [yCc h,yDL h];rfl
  | false=>rw [yCd (by rw [h];simp),yDM (by rw [h];simp)];exact zES r
theorem UAr:UAC ["_law_names_here","_law_masks_here","_law_other_here","_law_fallen","_law_standing","_law_within"] ["_law_names_here","_law_masks_here","_law_other_here","_law_fallen"] (ZA4 zGT):=by trivial
def zZ5 (F:Fun K "_law_due" "_law_due" zGT f fd)(DO:Df 4 "_law_order" ["_law_masks_here"] (JE1 K) c1 e1)(DS:Df 1 "_law_set" ["_law_names_here","_law_mask"] (JC6 K) c2 e2) :
  Fk 5 f fd ["_law_names_here","_law_masks_here","_law_other_here","_law_fallen"] (JG3 K):=by
 refine fk F.ok UAr;obtain ⟨a,ma,oa,xs,ms,zs,os,m,rfl,ha,hG,hma,few,okm,pz,so,hoa,fewo,oko,ex,q⟩:=h;have hr1:Room 1 _:=hr.mono dQ;have hr4:Room 4 _:=hr.mono dQ;have n12:=hG.hi
 refine#[_,zA1 (zE0 (i:=4) (xs:=["_law_mask"]) (fv:=[("_law_fallen",3)]) UAr.nd rfl rfl rfl dk #[#[rfl,Or.inl rfl,rfl],trivial] (zB2 (kq DO hr4 #v[(pv 1)])) (λ_ _ _ _ _=>zAG (i:=0) (ndT dk) rfl (Or.inl rfl))
    (λ_ _ _ _ _=>zDP (zA9 zC3 (zAC zBU (pv 0) (pv 1)) zA5 (zAB _))) (λ_ _ _ _ _=>pv 0))
  (zA1 (zAK (zA9 (zFZ hr) (pv 4) (zB1 zB5) (zAB _)) (zA2 (zA7 (zB9 #v[zAL,(kq DS hr1 #v[(pv 0),(zBF zAJ (pv 4) zA5 (λ_ _=>rfl))])]))) zA8)
  (zA1 (zE0 (i:=5) (xs:=["_law_mask"]) (fv:=[("_law_fallen",3)]) UAr.nd rfl rfl rfl dk #[#[rfl,Or.inl rfl,rfl],trivial] (zB2 (pv 2)) (λ_ _ _ _ _=>zAG (i:=0) (ndT dk) rfl (Or.inl rfl))
    (λ_ _ _ _ _=>zDP (zA9 zC3 (zAC zBU (pv 0) (pv 1)) (pv 0) (zAB _))) (λ_ _ _ _ _=>pv 0))
  (zA2 (zA7 (zB9 #v[zAL,(kq DS hr1 #v[(pv 0),(zBF zAJ (pv 5) zA5 (λ_ _=>rfl))])]))))),?_]
 have s2:(2:Nat)<=eA5:=by decide
 refine#[_,rfl,ma,ms,rfl,hma,oz,λo ho=>?_,λZ H1 zs' hZ g1 lZ pz' so'=>?_]
 ·have:=okm o ho
  have h4:=zKH (n:=xs.length) n12;exact#[this.1,oz]
 obtain rfl:zs'=zs:=zDT n12 (pz'.trans pz.symm) (λo ho=>okm o (pz'.mem_iff.mp ho)) so' so;have lz:=pz.length_eq;refine#[Z,rfl,?_];refine zDN (λo=>decide (eA3 o m=0)) (.inl (SqL.of lZ)) oz (λo ho D2 H2 N2 g2 hN2=>?_) (λD2 H2 hD2 g2 lD2=>?_)
 ·refine#[rfl,_,rfl,_,rfl,_,_,rfl,rfl,rfl,_,rfl,?_]
  have h:=hN2 H2 (λ_ _ h=>h);dsimp only;rw [zHL];refine zD2 (λd=>?_) (λd=>?_)
  ·rw [yAS d] at h
   exact#[_,rfl,h]
  ·rw [yAT d] at h
   exact h
 have g12:=g1.trans g2;have okz:∀ o∈zs',0<=o/\o<2^xs.length:=λo ho=>okm o (pz.mem_iff.mp ho);refine#[_,rfl,(by show 0<=eA5;decide),λl3 hl3=>?_];obtain ⟨H3,g3,c3,e0⟩:=zCM hl3 (.lst []);rw [e0];clear e0;refine zG8 (g3 _ _ lD2) c3 ?_;rw [yAS rfl];have g13:=g12.trans g3
 have fin:∀ (w:Str) (l:Int) (H4:Hp) (D5:Addr) (H5:Hp),ZZ3 zs' os m w l->0<=l->l<2^xs.length->Same H H4->H4 D5=none->Same H4 H5->H5 D5=some (.lst (ZBT xs l))->2<=eA5/\∀ t,H5 t=none->Q (.ref t) (upd H5 t (.tup [.str w,.ref D5])):=λw l H4 D5 H5 dq l0 l1 g4 hD5 g5 l5=>#[s2,λt ht=>by
  have g6:=UAB ht (.tup [.str w,.ref D5]);exact q w l t D5 _ dq l0 l1 ((g4.trans g5).trans g6) ((g4.trans g5).free ht) (g4.free hD5) zA0 (g6 _ _ l5)]
 have hf:=zES (p:=λo=>decide (eA3 o m=0)) zs'
 cases e:zs'.filter (λo=>decide (eA3 o m=0)) with
 | cons l r=>
  rw [e] at hf;have fz:zs'.find? (λo=>decide (eA3 o m=0))=some l:=hf.symm;have okl:=okz l (yCy fz);rw [e] at lD2;refine#[_,rfl,?_];refine zCQ ?_;refine#[_,rfl,_,rfl,D2,IV (l::r),0,.int l,rfl,rfl,SqL.of (g3 _ _ lD2),zCE (j:=0) rfl,a,xs,l,rfl,.inl (SqL.of (g13 _ _ ha)),n12,okl.1,okl.2,λD5 H5 hD5 g5 l5=>?_];exact fin "stands" l H3 D5 H5 (.inl #[fz,rfl]) okl.1 okl.2 g13 hD5 g5 l5
 | nil=>
  rw [e] at hf;have fz:zs'.find? (λo=>decide (eA3 o m=0))=none:=hf.symm;refine#[_,rfl,zAY ?_]
  obtain ⟨l,fo⟩:∃ l,os.find? (λo=>decide (eA3 o m=o))=some l:=by
   obtain ⟨w',l,h|⟨_,_,h⟩⟩:=ex
   ·rw [fz] at h;cases h.1
   ·exact#[l,h]
  have okl:=oko l (yCy fo);refine#[_,rfl,oa,rfl,?_];refine zDN (λo=>decide (eA3 o m=o)) (hoa.at1 (g13.at1 oa)) fewo (λo ho D4 H4 N4 g4 hN4=>?_) (λD4 H4 hD4 g4 lD4=>?_)
  ·refine#[rfl,_,rfl,_,rfl,_,_,rfl,rfl,_,rfl,rfl,_,rfl,?_]
   have h:=hN4 H4 (λ_ _ h=>h);dsimp only;rw [zHL];refine zD2 (λd=>?_) (λd=>?_)
   ·rw [yAS d] at h
    exact#[_,rfl,h]
   ·rw [yAT d] at h
    exact h
  have ho:=zES (p:=λo=>decide (eA3 o m=o)) os;rw [fo] at ho
  cases e2:os.filter (λo=>decide (eA3 o m=o)) with
  | nil=>rw [e2] at ho;cases ho
  | cons l' r=>
   rw [e2] at ho
   cases ho
   rw [e2] at lD4;have g14:=g13.trans g4;refine#[_,rfl,_,rfl,D4,IV (l::r),0,.int l,rfl,rfl,SqL.of lD4,zCE (j:=0) rfl,a,xs,l,rfl,.inl (SqL.of (g14 _ _ ha)),n12,okl.1,okl.2,λD5 H5 hD5 g5 l5=>?_];exact fin "falls" l H4 D5 H5 (.inr #[fz,rfl,fo]) okl.1 okl.2 g14 hD5 g5 l5
abbrev dL (zs:List (List V)):List PyData:=zs.map λz=>.list (dS z)
section
variable {K:Frag}{H:Hp}
def zJ2:∀ {rs:List Addr} {zs:List (List V)},rs.length=zs.length->(∀ (i:Nat) r z,rs[i]?=some r->zs[i]?=some z->H r=some (.lst z))->ZdK zs->DVs K H (rs.map V.ref) (dL zs)
 | [],[],_,_,_=>.nil
 | [],_::_,h,_,_=>by cases h
 | _::_,[],h,_,_=>by cases h
 | r::rs,z::zs,h,f,s=>.cons (.lst (SqL.of (f 0 r z rfl rfl)) (zFI (s z (yAU ..)).1)) (zJ2 (by simpa using h) (λi r z a b=>f (i+1) r z a b) λy hy=>s y (yAL _ hy))
end
def ze5:∀ {zs:List (List V)},ZdK zs->eAk (dL zs)=true
 | [],_=>rfl
 | z::r,h=>by
  show (eAk (dS z)&&eAk (dL r))=true;rw [zDY (h z (yAU ..)).1,ze5 λy hy=>h y (yAL _ hy)];rfl
def zeR:∀ zs:List (List V),eAl (dL zs)<=2
 | []=>by simp [eAl]
 | z::r=>by
  have h1:=zeR r;have h2:=zDX z;simp only [dL,yAq,eAl,eAm] at h1 ⊢;lia
def zeP:∀ zs:List (List V),eAz (dL zs) (dL zs)=true
 | []=>rfl
 | z::r=>by
  show (eAz (dS z) (dS z)&&eAz (dL r) (dL r))=true;rw [zdO z,zeP r];rfl
def zQJ {K:Frag}{D E':Addr}{rs ss:List Addr}{xs:List V}{zs:List Int}{H0 H1 H:Hp}{Q:VK}(hO:Ord xs zs)(l1:LL H0 H D rs (zs.map (ZBT xs)))(l2:LL H1 H E' ss (zs.map (ZBT xs)))(neg:Bool)(h:Q (.bl (!neg)) H):KC2 K neg (.ref D) (.ref E') H Q:=by
 have al:=zVT hO;have dep:=zeR (zs.map (ZBT xs));refine#[.list (dL (zs.map (ZBT xs))),.list (dL (zs.map (ZBT xs))),.lst (SqL.of l1.top) (zJ2 l1.len l1.at_ al),.lst (SqL.of l2.top) (zJ2 l2.len l2.at_ al),ze5 al,ze5 al,by simp only [eAm];lia,?_];have e:eAh (.list (dL (zs.map (ZBT xs)))) (.list (dL (zs.map (ZBT xs))))=true:=zeP _;rw [e]
 cases neg<;>exact h
theorem LL.same {H0 H H':Hp}{D:Addr}{rs:List Addr}{zs:List (List V)}(g:Same H H')(h:LL H0 H D rs zs):LL H0 H' D rs zs:=#[g _ _ h.top,h.new,h.nd,h.len,λi r z a b=>g _ _ (h.at_ i r z a b)]
def zN8:∀ {as bs:List Int},eAz (as.map .int) (bs.map .int)=decide (as=bs)
 | [],[]=>rfl
 | [],b::r=>rfl
 | a::r,[]=>rfl
 | a::as,b::bs=>by
  show (eAh (.int a) (.int b)&&eAz (as.map .int) (bs.map .int))=_;rw [zN8];have e:eAh (.int a) (.int b)=(a==b):=rfl;rw [e,yAd,yAN,yAm,yAI,yAI,List.cons.injEq]
def zIR:∀ l:List Int,eAk (l.map eAf)=true
 | []=>rfl
 | m::r=>by
  show (true&&eAk (r.map eAf))=true;rw [zIR r];rfl
def zNP:∀ l:List Int,eAl (l.map eAf)<=1
 | []=>by simp [eAl]
 | m::r=>by
  have:=zNP r
  simp only [yAq,eAl,eAm];lia
def zTE {K:Frag}{neg:Bool}{a b:Addr}{ms ns:List Int}{H:Hp}{Q:VK}(ha:H a=some (.lst (IV ms)))(hb:H b=some (.lst (IV ns)))(h:Q (.bl (if neg then !decide (ms=ns) else decide (ms=ns))) H):KC2 K neg (.ref a) (.ref b) H Q:=by
 refine#[.list (ms.map .int),.list (ns.map .int),.lst (SqL.of ha) (DVs.ints ms),.lst (SqL.of hb) (DVs.ints ns),zIR ms,zIR ns,?_,?_]
 ·have:=zNP ms
  simp only [eAm];lia
 ·have e:eAh (.list (ms.map .int)) (.list (ns.map .int))=decide (ms=ns):=zN8
  rw [e];exact h
def zMV {n:Nat}(n12:n<=12){ms zs:List Int}(ok:∀ m∈ms,0<=m/\m<2^n)(pz:zs.Perm ms){F:List Int}(LF:UAZ n (ZQB ms n) F):F.Perm (ZAA (ZHH n (ZAU zs)) (2^n)):=by
 have e:ZAA (ZHH n (ZAU zs)) (2^n)=ZAA (ZAU (ZQB ms n)) (2^n):=zD4 n12 λm hm=>by
  have h1:=zE2 n12 ok LF hm;rw [zFV n12 (zMK ms n).ok LF.pm] at h1;unfold ZHH;rw [h1,zDV pz]
 rw [e];exact LF.pm
def zGC {n:Nat}{f:Nat->Bool}{F:List Int}(p:F.Perm (ZAA f (2^n))):∀ m∈F,0<=m/\m<2^n:=λm hm=>by
 obtain ⟨k,rfl,hk,_⟩:=UAK.mp (p.mem_iff.mp hm);exact#[ oz,by exact_mod_cast hk]
def zQ2 {n:Nat}(n12:n<=12){ms zs F os:List Int}(ok:∀ m∈ms,0<=m/\m<2^n)(pz:zs.Perm ms)(LF:UAZ n ms F)(LO:UAZ n (ZQB ms n) os):Zd3 n zs=decide (F=os):=by
 rw [zaV,zRU (ns:=ms) (λm _=>by rw [zDV pz]),yAd,yAI];unfold ZaJ;rw [yBA]
 constructor
 ·intro h
  have e:ZAA (ZAU ms) (2^n)=ZAA (ZHH n (ZAU ms)) (2^n):=zD4 n12 λm hm=>by
   have:=h m (yBC.mpr hm)
   unfold ZHH;revert this
   cases ZAU ms m<;>cases ZAU ms (2^n-1-m)<;>simp
  have p1:=LF.pm;rw [e] at p1;exact zDT n12 (p1.trans (zMV n12 ok (eAp _) LO).symm) (zGC p1) LF.so LO.so
 ·intro e m hm
  have hm:=yBC.mp hm;have h1:=zFV n12 ok LF.pm;have h2:=zE2 n12 ok LO hm;rw [<- e,h1] at h2;rw [h2]
  cases ZAU ms (2^n-1-m)<;>rfl
def za9 {n:Nat}(n12:n<=12){ms zs os az:List Int}(ok:∀ m∈ms,0<=m/\m<2^n)(pz:zs.Perm ms)(LO:UAZ n (ZQB ms n) os)(no0:(0:Int)∉os)(pa:az.Perm (ZS6 n)):(az.find? (ZBL n (ZAU zs))).isNone=(os.filter λm=>decide (0<m) && !ZaH ms m).isEmpty:=by
 rw [zDV pz,yAd,List.isEmpty_iff,Option.isNone_iff_eq_none,List.find?_eq_none,yEO];have oko:=zGC LO.pm
 constructor
 ·intro h o ho c
  rw [yAN,yAI,yBE] at c;have k0:=oko o ho;obtain ⟨k,rfl⟩:=yAR k0.1;have hk:k<2^n:=by have:=k0.2;exact_mod_cast this
  have d:ZAU os k=true:=by
   unfold ZAU;rw [yAw];exact#[_,ho,yAJ (by rw [zB7,Nat.and_self])]
  rw [zE2 n12 ok LO hk,yBE] at d;refine h ((k:Nat):Int) (pa.mem_iff.mpr (yAr.mpr #[k,yBC.mpr hk,rfl])) ?_;unfold ZBL;rw [yAW,UAg];have c2:=c.2;rw [zN3] at c2;exact#[by have:=c.1;lia,c2,d]
 ·intro h z hz sp
  obtain ⟨k,hk,rfl⟩:=yAr.mp (pa.mem_iff.mp hz);have hk:=yBC.mp hk;unfold ZBL at sp;rw [yAW,UAg] at sp;have d:ZAU os k=true:=by rw [zE2 n12 ok LO hk,sp.2.2];rfl
  unfold ZAU at d;rw [yAw] at d;obtain ⟨o,ho,e⟩:=d;have e:=yAZ e;have o0:=oko o ho;obtain ⟨j,rfl⟩:=yAR o0.1
  have jk:Sb j k:=by
   rw [zB7] at e;exact UAJ.mp (by exact_mod_cast e)
  have j0:(0:Int)<((j:Nat):Int):=by
   rcases yCM j with z|z
   ·subst z;exact absurd ho no0
   ·lia
  refine h _ ho ?_;rw [yAN,yAI,yBE,zN3];refine#[j0,?_]
  cases dj:ZAU ms j with
  | false=>rfl
  | true=>
   have:=zM3 (λm hm=>(ok m hm).1) jk dj
   rw [sp.2.1] at this
   cases this
def zT7 {n:Nat}{o m:Int}(o0:0<=o/\o<2^n)(m0:0<=m)(m1:m<2^n):decide (eA3 o (eA4 (2^n-1) m)=o)=decide (eA3 o m=0):=by
 obtain ⟨x,rfl⟩:=yAR m0;have hx:x<2^n:=by exact_mod_cast m1
 have e1:(2:Int)^n-1=((2^n-1:Nat):Int):=by
  have:=eAw n
  rw [Int.natCast_sub oz,yBi];rfl
 rw [e1,zJE hx];have h:=zEZ (ms:=[o]) (λm hm=>by rw [yAE.mp hm];exact o0) hx;unfold ZEL ZAU at h;simp only [yDb,List.any_nil,yEI] at h;have h:=congrArg Bool.not h;rw [Bool.not_not,Bool.not_not] at h;exact h.symm
def zR7 {n:Nat}{zs:List Int}(ok:∀ o∈zs,0<=o/\o<2^n){m:Int}(m0:0<=m)(m1:m<2^n):ZG3 (eA4 (2^n-1) m) zs=zs.find? λo=>decide (eA3 o m=0):=by
 unfold ZG3
 induction zs with
 | nil=>rfl
 | cons z r ih=>
  have e:=zT7 (ok z (yAU ..)) m0 m1;have ih:=ih λo ho=>ok o (yAL _ ho);rw [yCV,yCV,e,ih]
def zLV {xs:List V}{zs os:List Int}{m:Int}{w w':Str}{l l':Int}(hO:Ord xs zs)(p:os.Perm (ZAA (ZHH xs.length (ZAU zs)) (2^xs.length)))(so:zHR os)(m0:0<=m)(m1:m<2^xs.length)(h:ZdU xs zs m w l)(d:ZZ3 zs os m w' l'):w=w'/\l=l':=by
 unfold ZdU at h;rw [zR7 hO.ok m0 m1] at h
 rcases h with ⟨h1,rfl⟩|⟨h1,rfl,os',O',p',h2⟩
 ·rcases d with ⟨d1,rfl⟩|⟨d1,_⟩
  ·rw [h1] at d1;cases d1;exact#[rfl,rfl]
  ·rw [h1] at d1;cases d1
 ·rcases d with ⟨d1,_⟩|⟨_,rfl,d2⟩
  ·rw [h1] at d1;cases d1
  ·obtain rfl:os'=os:=zDT hO.gn.hi (p'.trans p.symm) O'.ok O'.ord so
   have h2:os'.find? (λo=>decide (eA3 o m=o))=some l:=h2;rw [h2] at d2;cases d2;exact#[rfl,rfl]
def zWM {xs:List V}{zs os:List Int}{m:Int}(hO:Ord xs zs)(p:os.Perm (ZAA (ZHH xs.length (ZAU zs)) (2^xs.length)))(m0:0<=m)(m1:m<2^xs.length):∃ w l,ZZ3 zs os m w l:=by
 cases e:zs.find? (λo=>decide (eA3 o m=0)) with
 | some l=>exact#["stands",l,.inl #[e,rfl]]
 | none=>
  obtain ⟨l,el⟩:=zNX hO.gn.hi hO.ok p m0 m1 ((zR7 hO.ok m0 m1).trans e);exact#["falls",l,.inr #[e,rfl,el]]
def zFJ {K:Frag}{t t' D D':Addr}{w:Str}{ys:List V}{H:Hp}{Q:VK}(hw:eAq w=true)(hy:Strs ys)(h1:H t=some (.tup [.str w,.ref D]))(h2:H D=some (.lst ys))(h3:H t'=some (.tup [.str w,.ref D']))(h4:H D'=some (.lst ys))(q:Q (.bl false) H):KC2 K true (.ref t) (.ref t') H Q:=by
 refine#[.tuple [.str w,.list (dS ys)],.tuple [.str w,.list (dS ys)],.tup (SqT.of h1) (.cons (.str _) (.cons (.lst (SqL.of h2) (zFI hy)) .nil)),.tup (SqT.of h3) (.cons (.str _) (.cons (.lst (SqL.of h4) (zFI hy)) .nil)),?_,?_,?_,?_]
 ·simp only [PyData.canLay0,eAk,zDY hy,hw];rfl
 ·simp only [PyData.canLay0,eAk,zDY hy,hw];rfl
 ·have:=zDX ys
  simp only [eAm,eAl];lia
 ·have e:eAh (.tuple [.str w,.list (dS ys)]) (.tuple [.str w,.list (dS ys)])=true:=by
   show (eAh (.str w) (.str w)&&(eAh (.list (dS ys)) (.list (dS ys))&&true))=true;have e1:eAh (.str w) (.str w)=true:=by show (w==w)=true;simp
   have e2:eAh (.list (dS ys)) (.list (dS ys))=true:=zdO ys;rw [e1,e2];rfl
  rw [e];exact q
def zQS {zs os:List Int}{m:Int}{w:Str}{l:Int}(h:ZZ3 zs os m w l):eAq w=true:=by
 rcases h with ⟨_,rfl⟩|⟨_,rfl,_⟩<;>decide +kernel
def UAV:Str:="abcdefghijkl"
def fr (c:Nat):List Nat:=[104,c,120]
def UAh:List (List Nat):=UAV.cps.toList.map fr
theorem UBA:UAc UAh:=#[dk,dk]
def zJC:UAh.length=12:=by decide +kernel
structure DefE (P:eAD)(w:World)(K:Frag)(mg:Str->Option Value)(base:Heap)(k:Nat)(x:Str)(ps:List Str)(sp:Sp)(g:Addr)(gd:eAY):Prop where
 ok:FnOk P w K mg base (CXE P w) k g gd ps sp
 b:UAD K gd ps []
 k:keepIn K (.ref g)=true
 m:mg x=some (.ref g)
structure Er (P:eAD)(w:World)(K:Frag)(mg:Str->Option Value)(base:Heap)(x:Str)(C:Addr):Prop where
 ex:∃ f bm fd,ErrC K C f bm/\Fk 2 f fd ["self","found"] (UAi C "found")/\UAD K fd ["self","found"] []
 m:mg x=some (.ref C)
 nf:eAB K (.ref C) "found"=some none
def Bad (H:Hp)(E:XK)(C:Addr)(v:V):Prop:=∀ dx H',Same H H'->H dx=none->H' dx=some (.xd [("found",v)])->E (.ref C) (some dx) H'
theorem Bad.mono {H H1:Hp}{E:XK}{C:Addr}{v:V}(g:Same H H1)(h:Bad H E C v):Bad H1 E C v:=λdx H' g' hd hx=>h dx H' (g.trans g') (g.free hd) hx
theorem Bad.go {H:Hp}{E:XK}{C:Addr}{v:V}(h:Bad H E C v):∀ dx,H dx=none->E (.ref C) (some dx) (upd H dx (.xd [("found",v)])):=λdx hd=>h dx _ (UAB hd _) hd zA0
def za0:UAC ["self","text"] ["self","text"] (ZA4 zCR):=by trivial
def zW1 (F:Fun K "__init__" "MeetError.__init__" zCR f fd)(mv:mg "ValueError"=none):Fk 1 f fd ["self","text"] (UAj K):=by
 refine fk F.ok za0;obtain ⟨e,C,u,f,bm,rfl,ec,hH,q⟩:=h;refine#[_,zA2 (zBC (zW0 rfl mv #v[(pv 0),(pv 1)])),?_];exact#[_,rfl,_,rfl,e,C,u,f,bm,rfl,ec,hH,q]
def zOD:UAC ["self","found"] ["self","found"] (ZA4 zDS):=by trivial
def zL3 {bm:List Value}(F:Fun K "__init__" "NoHouse.__init__" zDS f fd)(ec:ErrC K C f bm)(nf:eAB K (.ref C) "found"=some none)(cf:UAt K CM fM)(OM:Fk 1 fM fdM ["self","text"] (UAj K))(bM:UAD K fdM ["self","text"] [])(mM:mg "MeetError"=some (.ref CM)) :
  Fk 2 f fd ["self","found"] (UAi C "found"):=by
 refine fk F.ok zOD;obtain ⟨e,v,rfl,hH,q⟩:=h;refine#[_,zA1 (zBC (zIT cf OM hr bM zAT rfl mM #v[(pv 0),zAL])) (zA2 (zMF (pv 0) (pv 1) rfl)),?_];refine#[_,rfl,e,C,_,f,bm,rfl,ec,hH,?_];exact#[_,rfl,_,rfl,e,C,f,bm,rfl,ec,nf,hH,λdx hdx ne=>q dx hdx ne]
def zVA:UAC ["self","found"] ["self","found"] (ZA4 zFT):=by trivial
def zSD {bm:List Value}(F:Fun K "__init__" "NoSet.__init__" zFT f fd)(ec:ErrC K C f bm)(nf:eAB K (.ref C) "found"=some none)(cf:UAt K CM fM)(OM:Fk 1 fM fdM ["self","text"] (UAj K))(bM:UAD K fdM ["self","text"] [])(mM:mg "MeetError"=some (.ref CM)) :
  Fk 2 f fd ["self","found"] (UAi C "found"):=by
 refine fk F.ok zVA;obtain ⟨e,v,rfl,hH,q⟩:=h;refine#[_,zA1 (zBC (zIT cf OM hr bM zAT rfl mM #v[(pv 0),zAL])) (zA2 (zMF (pv 0) (pv 1) rfl)),?_];refine#[_,rfl,e,C,_,f,bm,rfl,ec,hH,?_];exact#[_,rfl,_,rfl,e,C,f,bm,rfl,ec,nf,hH,λdx hdx ne=>q dx hdx ne]
def zW7:UAC ["self","found"] ["self","found"] (ZA4 zFH):=by trivial
def zR4 {bm:List Value}(F:Fun K "__init__" "Twice.__init__" zFH f fd)(ec:ErrC K C f bm)(nf:eAB K (.ref C) "found"=some none)(cf:UAt K CM fM)(OM:Fk 1 fM fdM ["self","text"] (UAj K))(bM:UAD K fdM ["self","text"] [])(mM:mg "MeetError"=some (.ref CM)) :
  Fk 2 f fd ["self","found"] (UAi C "found"):=by
 refine fk F.ok zW7;obtain ⟨e,v,rfl,hH,q⟩:=h;refine#[_,zA1 (zBC (zIT cf OM hr bM zAT rfl mM #v[(pv 0),zAL])) (zA2 (zMF (pv 0) (pv 1) rfl)),?_];refine#[_,rfl,e,C,_,f,bm,rfl,ec,hH,?_];exact#[_,rfl,_,rfl,e,C,f,bm,rfl,ec,nf,hH,λdx hdx ne=>q dx hdx ne]
def ZAN (xs:List V)(x:V):Option Nat:=xs.findIdx? λv=>decide (v=x)
def zBI {xs:List V}{x:V}{i:Nat}(h:ZAN xs x=some i):xs[i]?=some x:=by
 unfold ZAN at h;rw [List.findIdx?_eq_some_iff_getElem] at h;obtain ⟨hi,h1,_⟩:=h;rw [yAB hi,yAZ h1]
theorem UAN {xs:List V}{x:V}:ZAN xs x=none ↔ x∉xs:=by
 unfold ZAN;rw [List.findIdx?_eq_none_iff];exact#[λh m=>absurd (h x m) (by simp),λh v hv=>yAG λe=>h (e ▸ hv)]
def zGW {xs:List V}(hk:∀ v∈xs,v=kV (.inr (ZAM v))){z:Str}:∀ n,n<=xs.length->.str z∉xs->ZFE (ZBB xs n) (.inr z)=none
 | 0,_,_=>rfl
 | n+1,hn,h=>by
  have hx:xs[n]?=some xs[n]:=by simp
  rw [zD1 hx,zNH,yAT,zGW hk n oz h];intro e;have e1:=hk xs[n] (yAi _);refine h ?_
  have:(V.str z)=xs[n]:=by
   rw [e1]
   have:z=ZAM xs[n]:=by injection e
   rw [this];rfl
  rw [this];exact yAi _
def JG4 (C Ch:Addr):=∀ p xs x,vs=[.ref p,x]->UAF C H p xs->(∀ v∈xs,v=kV (.inr (ZAM v)))->xs.Nodup->Th H x->(∀ i,ZAN xs x=some i->Q (.int (i:Nat)) H)->(ZAN xs x=none->Bad H E Ch x)->JG4 C Ch vs H Q E
def zP4 (F:Fun K "number" "Houses.number" zIW f fd)(T:Txt mg)(kk:Kit K)(cl:Cls K C)(n2:UAE K C "places")(er:Er P w K mg base "NoHouse" Ch):FnOk P w K mg base (CXE P w) 4 f fd ["self","name"] (JG4 C Ch):=by
 obtain ⟨fI,bm,dI,ec,OI,bI⟩:=er.ex;refine fk F.okE zMY;obtain ⟨p,xs,x,rfl,⟨dx,t,d,hp,ht,hd⟩,hk,nd,hx,q1,q2⟩:=h;have hu:=zXX hr
 refine#[_,zA1 (zAK (PW.pt (zGR (zBH (zB4 (zAD zBM rfl T.inst yAn #v[(pv 1),(zB3 (v:=.ty "str") rfl T.str yDS rfl)])))
   (zE9 (zRI (zKD hu (pv 1) (zAO (pv 0) rfl)) (by with_unfolding_all rfl))))) (zA2 (zH7 (E:=E) rfl ec OI hr bI rfl er.m zSB #v[(pv 1)])) zA8)
  (zA2 (zA7 (zST hu (zAO (pv 0) rfl) (pv 1) (λ_ _=>rfl)))),?_]
 obtain ⟨t',ty,ek⟩:=zL8 kk hx;refine#[_,rfl,_,t',"str",ZcR x,rfl,ty,ek,_,rfl,?_]
 cases hb:ZcR x with
 | false=>
  have e:ZAN xs x=none:=UAN.mpr λm=>by
   have:=hk x m
   rw [this] at hb
   cases hb
  exact zCQ (zCQ #[_,rfl,_,rfl,(q2 e).go])
 | true=>
  cases x with
  | str z=>
   refine zAY ?_
   cases e:ZAN xs (.str z) with
   | none=>
    have hv:=zGW hk (z:=z) xs.length (yAF _) (UAN.mp e);have hg:DGet H d (.str z) none:=by rw [<- hv];exact DGet.k (k:=.inr z) hd
    refine#[_,rfl,_,rfl,p,C,dx,_,_,rfl,hp,cl,n2,rfl,d,_,rfl,hg,_,rfl,?_];exact zCQ #[_,rfl,_,rfl,(q2 e).go]
   | some i=>
    obtain ⟨hlt,hx'⟩:=yAH.mp (zBI e);have hv:=zFF hk nd xs.length (yAF _) i hlt hlt;rw [hx'] at hv;have hv:ZFE (ZBB xs xs.length) (.inr z)=some (.int (i:Nat)):=hv;have hg:DGet H d (.str z) (some (.int (i:Nat))):=by rw [<- hv];exact DGet.k (k:=.inr z) hd
    refine#[_,rfl,_,rfl,p,C,dx,_,_,rfl,hp,cl,n2,rfl,d,_,rfl,hg,_,rfl,?_];refine zAY ?_;exact#[_,rfl,p,C,dx,_,_,rfl,hp,cl,n2,rfl,_,rfl,d,_,rfl,hg,q1 i e]
  | _=>cases hb
inductive MD where
 | told (m:Nat)
 | house (v:V)
 | twice (v:V)
def ZB8 (xs:List V):List V->Nat->MD
 | [],m=>.told m
 | y::r,m=>match ZAN xs y with
  | none=>.house y
  | some i=>if m.testBit i=true then .twice y else ZB8 xs r (m+2^i)
def MOut (H:Hp)(Q:VK)(E:XK)(Ch Ct:Addr):MD->Prop
 | .told m=>∀ H',Same H H'->Q (.int (m:Nat)) H'
 | .house v=>Bad H E Ch v
 | .twice v=>Bad H E Ct v
theorem MOut.mono {H H1:Hp}{Q:VK}{E:XK}{Ch Ct:Addr}(g:Same H H1):∀ {d:MD},MOut H Q E Ch Ct d->MOut H1 Q E Ch Ct d
 | .told _,h=>λH' g'=>h H' (g.trans g')
 | .house _,h=>Bad.mono g h
 | .twice _,h=>Bad.mono g h
def zXC (m k:Nat):eA3 (m:Int) ((2^k:Nat):Int)=if m.testBit k=true then ((2^k:Nat):Int) else 0:=by
 have e:m &&& 2^k=if m.testBit k=true then 2^k else 0:=by
  refine yBR λi=>?_;rw [yBz,yBr]
  by_cases e:k=i
  ·subst e
   cases h:m.testBit k
   ·simp
   ·simp [yBr]
  ·cases h:m.testBit k
   ·simp [e]
   ·simp [e,yBr]
 show ((m &&& 2^k:Nat):Int)=_;rw [e]
 split<;>rfl
def JG5 (C Ch Cs Ct:Addr):=∀ p xs x r,vs=[.ref p,x]->UAF C H p xs->(∀ v∈xs,v=kV (.inr (ZAM v)))->xs.Nodup->xs.length<=12->Row H x r->(∀ ys,r=some ys->∀ v∈ys,Th H v)->(r=none->Bad H E Cs x)->(∀ ys,r=some ys->MOut H Q E Ch Ct (ZB8 xs ys 0))->JG5 C Ch Cs Ct vs H Q E
def zV9 (F:Fun K "mask" "Houses.mask" zTO f fd)(T:Txt mg)(mt:mg "tuple"=none)(k:Kit2 K)(cl:Cls K C)(M1:Meth K C "number" a1)(O1:FnOk P w K mg base (CXE P w) 4 a1 d1 ["self","name"] (JG4 C Ch))(b1:UAD K d1 ["self","name"] [])
  (eS:Er P w K mg base "NoSet" Cs) (eT:Er P w K mg base "Twice" Ct):FnOk P w K mg base (CXE P w) 5 f fd ["self","names"] (JG5 C Ch Cs Ct):=by
 obtain ⟨fS,bmS,dS',ecS,OS,bS⟩:=eS.ex;obtain ⟨fT,bmT,dT',ecT,OT,bT⟩:=eT.ex;refine fk F.okE UAU;obtain ⟨p,xs,x,r,rfl,hH,hk,nd,h12,hR,hT,q1,q2⟩:=h;obtain ⟨t,ty,e⟩:=zHB k hR;have hr3:Room 3 _:=hr.mono dQ
 refine#[_,zA1 (zAK (zBH (zB4 (zAD zCW rfl T.inst yAn #v[(pv 1),(zB9 #v[(zB3 (v:=.ty "list") rfl T.list yBQ rfl),(zB3 (v:=.ty "tuple") rfl mt yAx rfl)])]))) (zA2 (zH7 (E:=E) rfl ecS OS hr3 bS rfl eS.m zSB #v[(pv 1)])) zA8)
  (zA1 (kS9 2 UAU zA5)
  (zA1 (zBK PassesOwn.leaving rfl (zB2 (pv 1)) (kG9 3 UAU)
   (zA1 (kS9 4 UAU (zAC zDF zA5 (zAS (E:=E) (pv 0) cl M1 O1 hr b1 .nil zTP #v[(pv 3)])))
   (zA1 (zAK (zGG (zAC zBU (pv 2) (pv 4)) (λ_=>rfl)) (zA2 (zH7 (E:=E) rfl ecT OT hr3 bT rfl eT.m zSB #v[(pv 3)])) zA8)
   (zA2 (zT4 (i:=2) UAU.nd rfl (Or.inl rfl) (pv 4) zSR)))))
  (zA2 (zA7 (pv 2))))),?_]
 refine#[_,rfl,(by show 2<=eA5;decide),λu hu=>?_];have g1:=UAB hu (.tup [.ty "list",.ty "tuple"]);have c1:(upd H u (.tup [.ty "list",.ty "tuple"])) u=_:=zA0;generalize upd H u (.tup [.ty "list",.ty "tuple"])=H1 at g1 c1 ⊢;refine#[_,t,u,["list","tuple"],_,rfl,TyOf.same g1 ty,c1,e,_,rfl,?_]
 cases r with
 | none=>exact zCQ #[_,rfl,_,rfl,((q1 rfl).mono g1).go]
 | some ys=>
  refine zAY ?_;have mo:=(q2 ys rfl).mono g1;have hT:=hT ys rfl
  obtain ⟨a,rfl,sq⟩:∃ a,x=.ref a/\Sq K H1 a ys:=by
   cases hR with
   | lst h=>exact#[_,rfl,.inl (SqL.of (g1 _ _ h))]
   | tup h=>exact#[_,rfl,.inr (SqT.of (g1 _ _ h))]
  have hH1:=hH.same g1;refine#[_,rfl,a,rfl,?_];refine zC5 (K:=K) (ys:=ys) sq (λi σ H'=>Same H1 H'/\∃ m nm bt,ZB8 xs ys 0=ZB8 xs (ys.drop i) m /\ σ=[some (.ref p),some (.ref a),some (.int (m:Nat)),nm,bt]) #[Same.refl _,0,_,_,rfl,rfl] (λi σ H' hP o ho=>hP.1 _ _ ho) (λi σ H' v hi hx hP=>?_) (λσ H' hP=>?_)
  ·obtain ⟨g,m,nm,bt,ew,rfl⟩:=hP
   have ed:ys.drop i=v::ys.drop (i+1):=by
    rw [yAz hi];rw [yAB hi] at hx
    injection hx with hx
    rw [hx]
   rw [ed] at ew;rw [ew] at mo;have mo':=mo.mono g;obtain ⟨dx,t,d,hp',_⟩:=hH1.same g;have thv:=(hT v (yAk hx)).mono (g1.trans g);refine#[_,rfl,p,dx,_,rfl,hp',rfl,_,rfl,p,xs,v,rfl,hH1.same g,hk,nd,thv,λj ej=>?_,λen=>?_]
   ·have hlt:j<xs.length:=(yAH.mp (zBI ej)).1
    refine#[_,_,rfl,rfl,#[ oz,oz,dQ],?_];have eb:(1:Int)*2^((j:Nat):Int).toNat=((2^j:Nat):Int):=by rw [yAW,yCe,yBi];rfl
    refine#[_,rfl,_,rfl,_,_,rfl,rfl,_,rfl,?_];rw [eb,zXC]
    have wv:ZB8 xs (v::ys.drop (i+1)) m=if m.testBit j=true then .twice v else ZB8 xs (ys.drop (i+1)) (m+2^j):=by
     show (match ZAN xs v with|none=>_|some i=>_)=_;rw [ej]
    rw [wv] at mo' ew
    by_cases tb:m.testBit j=true
    ·rw [yAS tb] at mo' ew ⊢
     have ne:(((2^j:Nat):Int) != 0)=true:=by
      have:0<2^j:=eAw j
      rw [bne_iff_ne];lia
     rw [ne];exact zCQ #[_,rfl,_,rfl,mo'.go]
    ·rw [yAT tb] at mo' ew ⊢
     refine zAY #[_,rfl,_,rfl,_,_,rfl,rfl,g,m+2^j,some v,some (.int ((2^j:Nat):Int)),ew,?_];rw [show ((m+2^j:Nat):Int)=(m:Int)+((2^j:Nat):Int) by rw [Int.natCast_add]];rfl
   ·have wv:ZB8 xs (v::ys.drop (i+1)) m=.house v:=by
     show (match ZAN xs v with|none=>_|some i=>_)=_;rw [en]
    rw [wv] at mo';exact mo'
  ·obtain ⟨g,m,nm,bt,ew,rfl⟩:=hP
   rw [yDA] at ew;rw [ew] at mo;exact#[_,rfl,mo H' g]
def hoL:Option HO->Option (List V)
 | some (.lst xs)=>some xs
 | _=>none
def ZG5 (H:Hp):V->Option (List V)
 | .ref a=>hoL (H a)
 | _=>none
def zSW {K:Frag}(k:Kit2 K){H:Hp}{x:V}{r:Option (List V)}(h:Row H x r):∃ t,TyOf K H x t/\eAC K t (.type "list")=some (ZG5 H x).isSome:=by
 cases h with
 | lst h=>exact#[_,.lst h,by show _=some (hoL (H _)).isSome;rw [h];rfl]
 | tup h=>exact#[_,.tup h,by show _=some (hoL (H _)).isSome;rw [h];exact k.l_tup]
 | dK h=>exact#[_,.dK h,by show _=some (hoL (H _)).isSome;rw [h];exact k.l_dict]
 | non=>exact#[_,.non,k.l_non]
 | bl b=>exact#[_,.bl b,k.l_bool]
 | int i=>exact#[_,.int i,k.l_int]
 | str z=>exact#[_,.str z,k.l_str]
def zOT {H:Hp}{x:V}{ys:List V}(h:ZG5 H x=some ys):∃ a,x=.ref a/\H a=some (.lst ys):=by
 cases x with
 | ref a=>
  refine#[a,rfl,?_];have h:hoL (H a)=some ys:=h
  cases e:H a with
  | none=>rw [e] at h;cases h
  | some o=>
   rw [e] at h
   cases o with
   | lst xs=>cases (show some xs=some ys from h);rfl
   | _=>cases h
 | _=>cases h
def zTJ {m j:Nat}(h:m.testBit j=false):m ||| 2^j=m+2^j:=by
 have hb:m % 2^j<2^j:=Nat.mod_lt _ (eAw j)
 have e0:m / 2^j % 2=0:=by
  rw [yBe] at h
  have:=yBO h
  lia
 have em:m=2^(j+1)*(m / 2^j / 2)+m % 2^j:=by
  have h1:=yET m (2^j);have h2:=yET (m / 2^j) 2;rw [e0,yEU] at h2;rw [yDn,Nat.mul_assoc,h2];exact h1.symm
 generalize m / 2^j / 2=a at em;generalize m % 2^j=b at em hb;have p:2^(j+1)=2^j*2:=yDn ..;have o1:2^(j+1)*a+b=2^(j+1)*a ||| b:=eA0 oz a;have o2:2^j*1+b=2^j*1 ||| b:=eA0 hb 1;have o3:2^(j+1)*a+(2^j*1+b)=2^(j+1)*a ||| (2^j*1+b):=eA0 oz a;rw [em];have e3:2^(j+1)*a+b+2^j=2^(j+1)*a+(2^j*1+b):=by lia
 rw [e3,o3,o2,o1,Nat.or_assoc,Nat.mul_one,Nat.or_comm b]
def zcK {m i n:Nat}(hm:m<2^n)(hi:i<n)(tb:¬m.testBit i=true):m+2^i<2^n:=by
 rw [<- zTJ (by simpa using tb)];exact Nat.or_lt_two_pow hm (Nat.pow_lt_pow_right dQ hi)
def zN0 {xs:List V}:∀ (ys:List V) (m m':Nat),ZB8 xs ys m=.told m'->m<2^xs.length->m'<2^xs.length/\∀ y∈ys,y∈xs
 | [],m,m',h,hm=>by cases h;exact#[hm,λy hy=>nomatch hy]
 | y::ys,m,m',h,hm=>by
  cases e:ZAN xs y with
  | none=>
   exfalso
   have:ZB8 xs (y::ys) m=.house y:=by
    show (match ZAN xs y with|none=>_|some i=>_)=_;rw [e]
   rw [this] at h
   cases h
  | some i=>
   have wv:ZB8 xs (y::ys) m=if m.testBit i=true then .twice y else ZB8 xs ys (m+2^i):=by
    show (match ZAN xs y with|none=>_|some i=>_)=_;rw [e]
   rw [wv] at h
   by_cases tb:m.testBit i=true
   ·rw [yAS tb] at h;cases h
   ·rw [yAT tb] at h
    have il:i<xs.length:=(yAH.mp (zBI e)).1;obtain ⟨a,b⟩:=zN0 ys _ _ h (zcK hm il tb);refine#[a,λz hz=>?_]
    rcases yAf.mp hz with rfl|hz
    ·exact yAk (zBI e)
    ·exact b z hz
def ZH0 (xs ys:List V):V:=match ZB8 xs ys 0 with
 | .told m=>if ZBT xs (m:Nat)=ys then .int (m:Nat) else .non
 | _=>.non
def ZKE (xs:List V):Option (List V)->V
 | none=>.non
 | some ys=>ZH0 xs ys
def JG6 (C:Addr):=∀ g x xs r,vs=[.ref g,x]->UAF C H g xs->GN xs->Row H x r->(∀ ys,ZG5 H x=some ys->∀ v∈ys,Th H v)->(∀ H',Same H H'->Q (ZKE xs (ZG5 H x)) H')->JG6 C vs H Q E
def zRL:UAC ["houses","thing","mask"] ["houses","thing"] (ZA4 zHF):=by trivial
def zVV (F:Fun K "told_mask" "told_mask" zHF f fd)(T:Txt mg)(k:Kit2 K)(cl:Cls K C)(M1:Meth K C "mask" a1)(O1:FnOk P w K mg base (CXE P w) 5 a1 d1 ["self","names"] (JG5 C Ch Cs Ct))(b1:UAD K d1 ["self","names"] [])
  (M2:Meth K C "set_of" a2) (O2:Fk 3 a2 d2 ["self","mask"] (JB4 C)) (b2:UAD K d2 ["self","mask"] []) (mh:mg "NoHouse"=some (.ref Ch)) (mt:mg "Twice"=some (.ref Ct))
  (xh:exmAny K (.ref Ch) [.ref Ch,.ref Ct]=some true) (xt:exmAny K (.ref Ct) [.ref Ch,.ref Ct]=some true):Fk 7 f fd ["houses","thing"] (JG6 C):=by
 refine fk F.ok zRL;obtain ⟨g,x,xs,r,rfl,hH,hG,hR,hT,q⟩:=h;have hr5:Room 5 _:=hr.mono dQ;have hr3:Room 3 _:=hr.mono dQ;obtain ⟨gx,_,_,h1,_⟩:=id hH;obtain ⟨t,ty,ek⟩:=zSW k hR
 refine#[_,zA1 (zAK (zBH (zB4 (zAD zBM rfl T.inst yAn #v[(pv 1),(zB3 (v:=.ty "list") rfl T.list yBQ rfl)]))) (zA2 (zA7 zBV)) zA8)
  (zA1 (zSI rfl rfl (λpn E=>zA2 (kS9 2 zRL (zAS (E:=E) (pv 0) cl M1 O1 hr5 b1 .nil zX9 #v[(pv 1)])))
   (zZ9 rfl mh rfl mt (λe=>zA2 (zA7 zBV)) zbR))
  (zA2 (zA7 (zU6 (zA9 (zF5 hr) (zAS (pv 0) cl M2 O2 hr3 b2 .nil zAT #v[(pv 2)]) (pv 1) (zAB _)) (pv 2) zBV)))),?_]
 refine#[_,rfl,x,t,"list",_,rfl,ty,ek,_,rfl,?_]
 cases hb:ZG5 H x with
 | none=>
  rw [hb] at q;exact zCQ (q H (Same.refl _))
 | some ys=>
  rw [hb] at q;obtain ⟨D,rfl,lD⟩:=zOT hb;refine zAY ?_;refine#[λcls od H'=>(cls=.ref Ch \/ cls=.ref Ct)/\Same H H'/\ZH0 xs ys=.non,?_,λC' dx σ' H' hE hl=>?_]
  ·refine#[_,rfl,g,gx,_,rfl,h1,rfl,_,rfl,g,xs,.ref D,some ys,rfl,hH,hG.str,hG.nd,hG.hi,.lst lD,λy hy=>by cases hy;exact hT ys hb,(λz=>nomatch z),λy hy=>?_]
   cases hy
   cases hw:ZB8 xs ys 0 with
   | house v=>exact λdx H' g' _ _=>#[.inl rfl,g',by unfold ZH0;rw [hw]]
   | twice v=>exact λdx H' g' _ _=>#[.inr rfl,g',by unfold ZH0;rw [hw]]
   | told m=>
    intro H1 g1;obtain ⟨lt,mem⟩:=zN0 ys 0 m hw (eAw _)
    have lt':((m:Nat):Int)<2^xs.length:=by
     have:=Int.ofNat_lt.mpr lt
     simpa using this
    have e0:ZH0 xs ys=if ZBT xs (m:Nat)=ys then .int (m:Nat) else .non:=by unfold ZH0;rw [hw]
    have st:=zBY hG (yBw m) lt';have sy:Strs ys:=λv hv=>hG.strs v (mem v hv);refine#[_,rfl,g,gx,_,rfl,g1 _ _ h1,rfl,_,rfl,g,xs,m,rfl,hH.same g1,hG.hi,yBw m,lt',λD2 H2 hD2 g2 l2=>#[_,rfl,zK9 st sy l2 (g2 _ _ (g1 _ _ lD)) #[_,rfl,?_]]];rw [yAT (by simp:¬false=true)];have qq:=q H2 (g1.trans g2)
    by_cases e:ZBT xs (m:Nat)=ys
    ·rw [yAJ e]
     refine zCQ #[_,rfl,?_];have e1:ZKE xs (some ys)=.int (m:Nat):=by show ZH0 xs ys=_;rw [e0,yAS e]
     rw [e1] at qq;exact qq
    ·rw [yAG e]
     refine zAY ?_;have e1:ZKE xs (some ys)=.non:=by show ZH0 xs ys=_;rw [e0,yAT e]
     rw [e1] at qq;exact qq
  ·obtain ⟨hc,g1,e0⟩:=hE
   have e1:ZKE xs (some ys)=.non:=e0;rw [e1] at q;refine#[true,?_,?_]
   ·rcases hc with hc|hc
    ·cases hc;exact xh
    ·cases hc;exact xt
   ·rw [yAS rfl]
    exact q H' g1
def hoT:Option HO->Option (List V)
 | some (.tup xs)=>some xs
 | _=>none
def ZL0 (H:Hp):V->Option (List V)
 | .ref a=>hoT (H a)
 | _=>none
def zWF {K:Frag}(k:Kit2 K){H:Hp}{x:V}{r:Option (List V)}(h:Row H x r):∃ t,TyOf K H x t/\eAC K t (.type "tuple")=some (ZL0 H x).isSome:=by
 cases h with
 | lst h=>exact#[_,.lst h,by show _=some (hoT (H _)).isSome;rw [h];exact k.t_list]
 | tup h=>exact#[_,.tup h,by show _=some (hoT (H _)).isSome;rw [h];rfl]
 | dK h=>exact#[_,.dK h,by show _=some (hoT (H _)).isSome;rw [h];exact k.t_dict]
 | non=>exact#[_,.non,k.t_non]
 | bl b=>exact#[_,.bl b,k.t_bool]
 | int i=>exact#[_,.int i,k.t_int]
 | str z=>exact#[_,.str z,k.t_str]
def zRX {H:Hp}{x:V}{ys:List V}(h:ZL0 H x=some ys):∃ a,x=.ref a/\H a=some (.tup ys):=by
 cases x with
 | ref a=>
  refine#[a,rfl,?_];have h:hoT (H a)=some ys:=h
  cases e:H a with
  | none=>rw [e] at h;cases h
  | some o=>
   rw [e] at h
   cases o with
   | tup xs=>cases (show some xs=some ys from h);rfl
   | _=>cases h
 | _=>cases h
def zFO {H H':Hp}(g:Same H H'){x:V}{r:Option (List V)}(h:Row H x r):ZG5 H' x=ZG5 H x:=by
 cases h with
 | lst h=>show hoL (H' _)=hoL (H _);rw [h,g _ _ h]
 | tup h=>show hoL (H' _)=hoL (H _);rw [h,g _ _ h]
 | dK h=>show hoL (H' _)=hoL (H _);rw [h,g _ _ h]
 | _=>rfl
def ZO1 (ms:List Int)(m:Int)(d:PyData):V->Bool
 | .int l=>if eAh d (.str "stands")=true then inV (.int l) (IV ms)&&decide (V.int (eA3 l m)=V.int 0) else eAh d (.str "falls")&&decide (V.int (eA3 l m)=V.int l)&&ms.all λo=>decide (0<eA3 l o)
 | _=>false
def ShW (K:Frag)(H:Hp)(xs:List V)(ms:List Int)(m:Int)(y:V)(u:Bool):Prop:=match ZL0 H y with
 | none=>u=false
 | some vs=>(vs.length≠2/\u=false) \/ ∃ a b rb d,vs=[a,b]/\Row H b rb/\(∀ ys,ZG5 H b=some ys->∀ v∈ys,Th H v)/\DV K H a d/\d.canLay0=true/\d.depth<=100/\u=ZO1 ms m d (ZKE xs (ZG5 H b))
def JG7 (K:Frag)(CS C:Addr):=∀ p x y xs ms m r u,vs=[.ref p,x,y]->UAH CS C H p xs ms->Ord xs ms->UAQ H x xs m->0<=m->m<2^xs.length->Row H y r->ShW K H xs ms m y u->(∀ H',Same H H'->Q (.bl u) H')->JG7 K CS C vs H Q E
theorem UAS:UAC ["system","fallen","thing","down","mask"] ["system","fallen","thing"] (ZA4 zJA):=by trivial
def zRM (ms:List Int):(IV ms).all ZEN=true:=by
 rw [yBA];intro v hv;obtain ⟨i,_,rfl⟩:=yAr.mp hv;rfl
def zML (xs:List V)(r:Option (List V)):ZKE xs r=.non \/ ∃ l:Nat,ZKE xs r=.int (l:Nat):=by
 cases r with
 | none=>exact .inl rfl
 | some ys=>
  show ZH0 xs ys=_ \/ ∃ l:Nat,ZH0 xs ys=_;unfold ZH0
  split
  ·split
   ·exact .inr #[_,rfl]
   ·exact .inl rfl
  ·exact .inl rfl
def zPY (F:Fun K "shows_settled" "shows_settled" zJA f fd)(T:Txt mg)(mt:mg "tuple"=none)(k:Kit2 K)(clS:Cls K CS)(nG:UAE K CS "ground")(nM:UAE K CS "masks")(cl:Cls K C)(M1:Meth K C "mask" a1)(O1:Fk 2 a1 d1 ["self","names"] (JA9 C))(b1:UAD K d1 ["self","names"] [])
  (D2:Df 7 "told_mask" ["houses","thing"] (JG6 C) a2 d2):Fk 8 f fd ["system","fallen","thing"] (JG7 K CS C):=by
 refine fk F.ok UAS;obtain ⟨p,x,y,xs,ms,m,r,u,rfl,hS,hO,hx,m0,m1,hR,hW,q⟩:=h;have hG:=hO.gn;have hr2:Room 2 _:=hr.mono dQ;obtain ⟨dx,g,tt,hp,hH,hm⟩:=id hS;obtain ⟨gx,_,_,h1,_⟩:=id hH;obtain ⟨ty,tyo,ek⟩:=zWF k hR
 refine#[_,zA1 (kS9 3 UAS (zAS (zAO (pv 0) rfl) cl M1 O1 hr2 b1 .nil zAT #v[(pv 1)]))
  (zA1 (zAK (PW.pt (zGR (zBH (zB4 (zAD zBM rfl T.inst yAn #v[(pv 2),(zB3 (v:=.ty "tuple") rfl mt yAx rfl)]))) (zE9 (zA9 zR6 (kL9 (pv 2)) zA5 (zAB _))))) (zA2 (zA7 zC0)) zA8)
  (zA1 (zE7 (i:=4) UAS.nd rfl (Or.inr rfl) (kq D2 hr #v[(zAO (pv 0) rfl),(zBF zF1 (pv 2) zA5 (λ_ _=>rfl))]))
  (zA1 (zAK (zA9 zNQ (pv 4) zBV (zAB _)) (zA2 (zA7 zC0)) zA8)
  (zA1 (zAK (zA9 (zF5 hr) (zBF zF1 (pv 2) zA5 (λ_ _=>rfl)) zAL (zAB _)) (zA2 (zA7 (zDH (zAW zH2 (pv 4) (zAO (pv 0) rfl) (by rfl)) (zEA (zAW zC3 (zAC zBU (pv 4) (pv 3)) zA5 (zAB _)))))) zA8)
  (zA2 (zA7 (zDH (zAW (zF5 hr) (zBF zF1 (pv 2) zA5 (λ_ _=>rfl)) zAL (zAB _)) (zDH (zAW zC3 (zAC zBU (pv 4) (pv 3)) (pv 4) (zAB _)) (zEA (zAD (zGI rfl) rfl T.all yDT (zBP (zAQ (xs:=["lot"]) (fv:=[("mask",4)]) rfl dk #[#[rfl,Or.inl rfl,rfl],trivial] (zB2 (zAO (pv 0) rfl)) (λ_ _ _ _ _=>zAG (i:=0) (ndT dk) rfl (Or.inl rfl)) (λ_ _ _ _ _=>zBD)
   (λ_ _ _ _ _=>zAW zJO (zAC zBU (pv 1) (pv 0)) zA5 (zAB _))) zB5))))))))))),?_]
 refine sH λC1 f1=>?_;obtain ⟨ys,ix,k1,k2,k3,k4,em⟩:=zLS hx;refine#[_,rfl,p,CS,dx,_,_,rfl,hp,clS,nG,rfl,g,gx,_,rfl,h1,rfl,_,rfl,g,xs,x,ys,ix,rfl,hH,hG.str,hG.nd,hG.hi,k1,k2,k3,k4,λH1 g1=>?_];rw [em];refine gNs (sR f1 (sH λC2 f2=>?_));refine#[_,rfl,y,ty,"tuple",_,rfl,TyOf.same g1 tyo,ek,_,rfl,?_];unfold ShW at hW
 cases hb:ZL0 H y with
 | none=>
  rw [hb] at hW;subst hW;exact zCQ (zCQ (q H1 g1))
 | some vs=>
  rw [hb] at hW;obtain ⟨t,rfl,ht⟩:=zRX hb;have t1:=g1 _ _ ht;refine zAY ?_;refine#[_,rfl,t,_,rfl,.inr (SqT.of t1),rfl,_,rfl,?_]
  rcases hW with ⟨ne,rfl⟩|⟨a,b,rb,d,rfl,hRb,hTb,hd,cl0,dp,rfl⟩
  ·rw [yAG (show ¬V.int (vs.length:Int)=V.int 2 from λz=>ne (by injection z with z;lia))]
   exact zCQ (q H1 g1)
  refine zAY (sR f2 (sH λC3 f3=>?_));refine#[_,rfl,p,CS,dx,_,_,rfl,g1 _ _ hp,clS,nG,rfl,_,rfl,t,_,1,_,rfl,rfl,SqT.of t1,rfl,g,b,xs,rb,rfl,hH.same g1,hG,hRb.same g1,?_,λH2 g2=>?_]
  ·rw [zFO g1 hRb];exact λys e v hv=>(hTb ys e v hv).mono g1
  rw [zFO g1 hRb];refine gNs (sR f3 (sH λC4 f4=>?_));have g12:=g1.trans g2;have t2:=g12 _ _ ht
  rcases zML xs (ZG5 H b) with e|⟨l,e⟩
  ·rw [e] at q ⊢
   refine#[_,rfl,rfl,_,rfl,?_];exact zCQ (q H2 g12)
  rw [e] at q ⊢;refine#[_,rfl,rfl,_,rfl,?_];rw [yAG (λz=>nomatch z)];refine zAY (sR f4 (sH λC5 f5=>?_));have hd2:=hd.mono g12;refine#[_,rfl,t,_,0,_,rfl,rfl,SqT.of t2,rfl,d,.str "stands",hd2,.str _,cl0,dk,dp,_,rfl,?_];rw [yAT (by simp:¬false=true)];have hm2:=g12 _ _ hm;have q2:=q H2 g12
  cases es:eAh d (.str "stands") with
  | true=>
   have ev:ZO1 ms m d (.int (l:Nat))=(inV (.int (l:Nat)) (IV ms)&&decide (V.int (eA3 (l:Nat) m)=V.int 0)):=by
    show (if eAh d (.str "stands")=true then _ else _)=_;rw [es];rfl
   rw [ev] at q2;refine zCQ ?_;refine#[_,rfl,_,rfl,p,CS,dx,_,_,rfl,g12 _ _ hp,clS,nM,rfl,tt,_,rfl,.inr (SqT.of hm2),rfl,zRM ms,_,rfl,?_];rw [yAT (by simp:¬false=true)]
   cases hi:inV (.int (l:Nat)) (IV ms) with
   | false=>rw [hi] at q2;exact zAY q2
   | true=>
    rw [hi] at q2;refine zCQ #[_,rfl,_,rfl,_,_,rfl,rfl,rfl,?_];rw [yBx] at q2;exact q2
  | false=>
   have ev:ZO1 ms m d (.int (l:Nat))=(eAh d (.str "falls")&&decide (V.int (eA3 (l:Nat) m)=V.int (l:Nat))&&ms.all λo=>decide (0<eA3 (l:Nat) o)):=by
    show (if eAh d (.str "stands")=true then _ else _)=_;rw [es];rfl
   rw [ev] at q2;have qa:=λH' g'=>q H' g';rw [ev] at qa;refine zAY (sR f5 ?_);refine#[_,rfl,t,_,0,_,rfl,rfl,SqT.of t2,rfl,d,.str "falls",hd2,.str _,cl0,dk,dp,_,rfl,?_];rw [yAT (by simp:¬false=true)]
   cases ef:eAh d (.str "falls") with
   | false=>rw [ef] at q2;exact zAY q2
   | true=>
    rw [ef] at q2 qa;refine zCQ #[_,rfl,_,rfl,_,_,rfl,rfl,_,rfl,rfl,_,rfl,?_]
    cases el:decide (V.int (eA3 (l:Nat) m)=V.int (l:Nat)) with
    | false=>rw [el] at q2;exact zAY q2
    | true=>
     rw [el] at qa;refine zCQ ?_;refine#[_,rfl,p,CS,dx,_,_,rfl,g12 _ _ hp,clS,nM,rfl,tt,rfl,?_];refine zC6 (K:=K) (ys:=IV ms) (.inr (SqT.of hm2)) (λi D H'=>Same H2 H'/\H' D=some (.lst (((ms.take i).map λo=>decide (0<eA3 (l:Nat) o)).map V.bl))) (λD hD=>#[UAB hD _,zA0]) (λi D H' hD hP=>hP.1.at1 tt) (λi D H' x hD hi hx hP=>?_) (λD H' hD hP=>?_)
     ·obtain ⟨g3,lD3⟩:=hP
      unfold IV at hx hi;rw [yAA] at hi;rw [yAa,yAB hi] at hx
      cases hx
      have few:=hO.few;have s1000:1000<eA5:=by decide
      refine#[rfl,?_];unfold ZHP;dsimp only;rw [yAS rfl];refine#[_,rfl,_,rfl,_,_,rfl,rfl,_,_,rfl,rfl,_,lD3,?_,λb o e=>?_,?_]
      ·rw [yAA,yAA,yAe];lia
      ·rw [zA6 (zA3 e hD)];exact g3 _ _ e
      ·rw [zA0,List.take_succ_eq_append_getElem hi,yAQ,yAQ]
       rfl
     ·obtain ⟨g3,lD3⟩:=hP
      refine#[D,_,rfl,SqL.of lD3,?_];have e9:(IV ms).length=ms.length:=by unfold IV;rw [yAA]
      rw [e9,yCz]
      have:=qa H' (g12.trans g3)
      rw [List.all_map];exact this
theorem UAO.of {H:Hp}{Q:VK}{xs:List V}:∀ {o:Option Int},(∀ v H4,Same H H4->decide (v=V.non)=o.isNone->Q v H4)->UAO H Q xs o
 | none,h=>λH' g=>h _ H' g (yAJ rfl)
 | some _,h=>λD H' _ g _=>h _ H' g (yAG λz=>nomatch z)
def JG8 (CS C:Addr):=∀ b a M O p xs ms os zs,vs=[.ref b,.ref a,.ref M,.ref O,.ref p]->UAG H b->a≠b->M≠b->O≠b->H a=some (.lst xs)->H M=some (.lst (IV ms))->ms.length<=40->MsOk xs.length ms->H O=some (.lst (IV os))->os.length<=1000->UAZ xs.length (ZQB ms xs.length) os->UAH CS C H p xs zs->zs.Perm ms->Ord xs zs->ZFY (some xs)=true->xs.length<=8->(∀ H',UAG H' b->Away b H H'->Q (.bl true) H')->JG8 CS C vs H Q E
theorem UAe:UAC ["_law_box_here","_law_names_here","_law_masks_here","_law_other_here","_law_system","_law_spares","_law_way","_law_none"] ["_law_box_here","_law_names_here","_law_masks_here","_law_other_here","_law_system"] (ZA4 zDL):=by trivial
def zQM (F:Fun K "_law_beside" "_law_beside" zDL f fd)(T:Txt mg)(clS:Cls K CS)
  (D1:Df 1 "_law_decides" ["_law_masks_here","_law_mask"] (JE2 K) c1 e1) (D2:Df 2 "_law_mixed" ["_law_box_here","_law_some"] JC7 c2 e2) (D3:Df 9 "other_side" ["system"] (JE9 CS C) c3 e3) (D4:Df 2 "_law_lots" ["_law_names_here","_law_masks_here"] (JF8 K) c4 e4)
  (D5:Df 3 "is_own_side" ["system"] (JE8 CS C) c5 e5) (D6:Df 5 "_law_least" ["_law_masks_here"] (JE4 K) c6 e6) (D7:Df 7 "spare_set" ["system"] (JF7 CS C) c7 e7) (D8:Df 9 "widened" ["system"] (JG1 CS C) c8 e8)
  (M1:Meth K CS "lots" m1) (O1:Fk 4 m1 d1 ["self"] (JB8 CS C)) (b1:UAD K d1 ["self"] []) (M2:Meth K CS "meets" m2) (O2:Fk 5 m2 d2 ["self"] (JF4 CS C)) (b2:UAD K d2 ["self"] []) :
  Fk 10 f fd ["_law_box_here","_law_names_here","_law_masks_here","_law_other_here","_law_system"] (JG8 CS C):=by
 refine fk F.ok UAe;obtain ⟨b,a,M,O,p,xs,ms,os,zs,rfl,hb,nab,nMb,nOb,ha,hM,h40,ok,hO',lo,LO,hS,pz,hO,are,h8,q⟩:=h;have hG:=hO.gn;have n12:=hG.hi;have n1:=hG.lo;have hr1:Room 1 _:=hr.mono dQ;have hr2:Room 2 _:=hr.mono dQ;have hr3:Room 3 _:=hr.mono dQ;have hr4:Room 4 _:=hr.mono dQ;have hr5:Room 5 _:=hr.mono dQ;have hr7:Room 7 _:=hr.mono dQ
 refine#[_,zA1 (zE0 (i:=5) (xs:=["_law_mask"]) (fv:=[("_law_masks_here",2)]) UAe.nd rfl rfl rfl dk #[#[rfl,Or.inl rfl,rfl],trivial] (zB2 (pv 3)) (λ_ _ _ _ _=>zAG (i:=0) (ndT dk) rfl (Or.inl rfl))
    (λ_ _ _ _ _=>zDP (PW.pt (zEC (zA9 zJO (pv 0) zA5 (zAB _)) (zD6 (zBH (zB4 (kq D1 hr1 #v[(pv 1),(pv 0)]))))))) (λ_ _ _ _ _=>pv 0))
  (zA1 (zBK eAx rfl (zB2 (kq D2 hr2 #v[(pv 0),(zB1 #v[zA5,zA5,zA5,zA5])])) (kG9 6 UAe)
   (zA1 (zAK (PW.pt (zEC (zA9 zC3 (pv 6) zA5 (zAB _)) (zD6 (zA9 (zFZ hr) (zBE (kq D3 hr #v[(pv 4)]) clS M1 O1 hr4 b1 .nil zAT) (kq D4 hr2 #v[(pv 1),(pv 3)]) (zAB _))))) (zA2 (zA7 zC0)) zA8)
   (zA1 (zAK (PW.pt (zEC (zA9 zC3 (pv 6) zA5 (zAB _)) (zD6 (zA9 zR6 (kq D5 hr3 #v[(pv 4)]) (zAW (zF5 hr) (kq D6 hr5 #v[(pv 2)]) (pv 3) (zAB _)) (zAB _))))) (zA2 (zA7 zC0)) zA8)
   (zA1 (zAK (PW.pt (zEC (zA9 zC3 (pv 6) zA5 (zAB _)) (zD6 (zA9 zCN zA5 (pv 3) (by with_unfolding_all rfl)))))
    (zA1 (kS9 7 UAe (zAW zNQ (kq D7 hr7 #v[(pv 4)]) zBV (zAB _)))
    (zA2 (zAK (zA9 zR6 (pv 7) (zAW (zF5 hr) (pv 5) (zB1 zB5) (zAB _)) (zAB _)) (zA2 (zA7 zC0)) zA8))) zA8)
   (zA2 (zAK (PW.pt (zEC (zA9 zC3 (pv 6) zA5 (zAB _)) (zEC (zA9 zc2 (kL9 (pv 1)) zA5 (zAB _)) (zD6 (zB4 (zBE (pv 4) clS M2 O2 hr5 b2 .nil zAT))))))
    (zA2 (zAK (zBH (zB4 (zBE (zBF zF1 (kq D8 hr #v[(pv 4)]) zA5 (λ_ _=>rfl)) clS M2 O2 hr5 b2 .nil zAT))) (zA2 (zA7 zC0)) zA8)) zA8))))))
  (zA2 (zA7 zC0))),?_]
 have s1000:1000<eA5:=by decide
 refine sH λC1 f1=>?_;refine#[_,rfl,O,rfl,?_];refine zDN (λo=>decide (0<o) && !ZaH ms o) (.inl (SqL.of hO')) lo (λo ho D' H' N' g' hN'=>?_) (λSP H1 hSP g1 lSP=>?_)
 ·refine#[rfl,_,rfl,_,_,rfl,rfl,_,rfl,?_]
  refine zD2 (λc=>?_) (λc=>?_)
  ·refine#[_,rfl,_,rfl,M,ms,o,rfl,.inl (SqL.of (g' _ _ hM)),oz,λH3 g3=>#[_,rfl,?_]]
   have h:=hN' H3 g3;rw [c,yBx] at h;refine zD2 (λd=>?_) (λd=>?_)
   ·rw [yAS d] at h
    exact#[_,rfl,h]
   ·rw [yAT d] at h
    exact h
  ·have h:=hN' H' (Same.refl _)
   rw [yAT (λz=>c (yAN .. |>.mp z).1)] at h;exact zAY h
 refine gNs (sR f1 (sfH λbd eb C2 f2=>?_));refine#[_,rfl,(by show 4<=eA5;decide),λL hL=>?_];obtain ⟨H2,g2,c2,e0⟩:=zCM hL (.lst [.int 0,.int 1,.int 2,.int 3]);rw [e0];clear e0;have g12:=g1.trans g2;have SPb:SP≠b:=(hb.ne hSP).symm;refine#[b,L,_,rfl,hb.same g12,c2,(by show 4<=1000;decide),(λv hv=>?_),λZ H3 ys hZ lZ pm b3 aw3=>?_]
 ·simp only [yAf,yBp,yDa] at hv
  rcases hv with rfl|rfl|rfl|rfl<;>exact UAl.int _
 have aw:Away b H H3:=(zAE g12).trans aw3;have a3:=aw _ _ ha nab;have M3:=aw _ _ hM nMb;have O3:=aw _ _ hO' nOb;have SP3:=aw3 _ _ (g2 _ _ lSP) SPb;have S3:UAH CS C H3 p xs zs:=hS.away hb aw;have okos:=zGC LO.pm;refine#[Z,rfl,?_];refine zC5 (K:=K) (ys:=ys) (.inl (SqL.of lZ)) (λi σ H'=>∃ v6 v7,σ=[some (.ref b),some (.ref a),some (.ref M),some (.ref O),some (.ref p),some (.ref SP),v6,v7]/\Same H3 H') #[_,_,rfl,Same.refl _] (λi σ H' hP=>hP.elim λ_ h=>h.elim λ_ h=>h.2.at1 _) (λi σ H' x hi hx hP=>?_) (λσ H' hP=>?_)
 ·obtain ⟨v6,v7,rfl,g⟩:=hP
  refine gNs (sR eb (dH λD0 eD=>sH λB1 e1=>?_));have S':=S3.same g;obtain ⟨dx,_,_,hp,_⟩:=id S';have hx4:=pm.mem_iff.mp (yAk hx);simp only [yAf,yBp,yDa] at hx4
  rcases hx4 with rfl|rfl|rfl|rfl
  ·
   refine#[_,rfl,rfl,_,rfl,?_];rw [zHL];refine zCQ ?_;refine#[_,rfl,p,xs,zs,rfl,S',hO,are,zWU oz zs,λo H4 z1 ho g4 S4 p4 W4=>?_];obtain rfl:z1=os:=zDT n12 (p4.trans (zMV n12 ok.ok pz LO).symm) W4.ok W4.ord LO.so;obtain ⟨dx4,_,_,hp4,_⟩:=id S4;refine#[o,dx4,_,rfl,hp4,rfl,o,xs,z1,rfl,S4,W4,λD5 H5 rs5 hD5 g5 L5=>?_];have g45:=(g.trans g4).trans g5;refine#[_,rfl,_,rfl,a,O,xs,z1,rfl,.inl (SqL.of (g45 _ _ a3)),n12,.inl (SqL.of (g45 _ _ O3)),lo,okos,λD6 H6 rs6 hD6 g6 L6=>?_];refine zQJ W4 (L5.same g6) L6 true #[_,rfl,zAY ?_];refine sR e1 (sH λB2 e2=>?_);refine#[_,rfl,rfl,_,rfl,?_];rw [zHL];refine zAY (zAY ?_);refine sR e2 (sH λB3 e3=>?_);refine#[_,rfl,rfl,_,rfl,?_];rw [zHL];refine zAY (zAY ?_);refine sR e3 ?_;refine#[_,rfl,rfl,_,rfl,?_];rw [zHL];refine zAY (zAY ?_);subst eD;exact#[_,_,rfl,g45.trans g6]
  ·
   refine#[_,rfl,rfl,_,rfl,?_];rw [zHL];refine zAY (zAY ?_);refine sR e1 (sH λB2 e2=>?_);refine#[_,rfl,rfl,_,rfl,?_];rw [zHL];refine zCQ ?_;refine#[_,rfl,p,xs,zs,rfl,S',hO,λH4 g4=>?_];have g14:=g.trans g4;refine#[_,rfl,M,xs.length,ms,rfl,n12,.inl (SqL.of (g14 _ _ M3)),oz,ok,λD5 H5 F5 hD5 g5 lF LF=>?_];have g15:=g14.trans g5;refine#[_,rfl,zTE lF (g15 _ _ O3) #[rfl,_,rfl,?_]];rw [yAT (by simp:¬false=true),zQ2 n12 ok.ok pz LF LO,yAJ rfl];refine zAY ?_;refine sR e2 (sH λB3 e3=>?_);refine#[_,rfl,rfl,_,rfl,?_];rw [zHL];refine zAY (zAY ?_);refine sR e3 ?_;refine#[_,rfl,rfl,_,rfl,?_];rw [zHL];refine zAY (zAY ?_);subst eD;exact#[_,_,rfl,g15]
  ·
   refine#[_,rfl,rfl,_,rfl,?_];rw [zHL];refine zAY (zAY ?_);refine sR e1 (sH λB2 e2=>?_);refine#[_,rfl,rfl,_,rfl,?_];rw [zHL];refine zAY (zAY ?_);refine sR e2 (sH λB3 e3=>?_);refine#[_,rfl,rfl,_,rfl,?_];rw [zHL];refine zCQ ?_;refine#[_,rfl,O,IV os,rfl,.inl (SqL.of (g _ _ O3)),rfl,zRM os,_,rfl,?_];rw [yAS rfl,zM2];refine zD2 (λc=>?_) (λc=>?_)
   ·have no0:(0:Int)∉os:=by simpa using c
    refine#[_,rfl,p,xs,zs,rfl,S',hO,n12,λaz pa sa=>UAO.of λv H4 g4 ev=>?_];rw [za9 n12 ok.ok pz LO no0 pa] at ev;refine#[rfl,?_];have g14:=g.trans g4;rw [ev];refine#[_,rfl,_,rfl,(by show 0<=eA5;decide),λe5 he5=>?_];have g5:=g14.trans (UAB he5 (.lst []));have c5:(upd H4 e5 (.lst [])) e5=some (.lst []):=zA0;generalize upd H4 e5 (.lst [])=H5 at g5 c5 ⊢;refine zG8 (g5 _ _ SP3) c5 #[rfl,_,rfl,?_];rw [yAT (by simp:¬false=true),yAJ rfl];refine zAY ?_;refine sR e3 ?_;refine#[_,rfl,rfl,_,rfl,?_];rw [zHL];refine zAY (zAY ?_);subst eD;exact#[_,_,rfl,g5]
   ·refine sR e3 ?_
    refine#[_,rfl,rfl,_,rfl,?_];rw [zHL];refine zAY (zAY ?_);subst eD;exact#[_,_,rfl,g]
  ·
   refine#[_,rfl,rfl,_,rfl,?_];rw [zHL];refine zAY (zAY ?_);refine sR e1 (sH λB2 e2=>?_);refine#[_,rfl,rfl,_,rfl,?_];rw [zHL];refine zAY (zAY ?_);refine sR e2 (sH λB3 e3=>?_);refine#[_,rfl,rfl,_,rfl,?_];rw [zHL];refine zAY (zAY ?_);refine sR e3 ?_;refine#[_,rfl,rfl,_,rfl,?_];rw [zHL];refine zCQ ?_;refine#[_,rfl,a,xs,rfl,.inl (SqL.of (g _ _ a3)),_,_,rfl,rfl,_,rfl,?_];refine zD2 (λc6=>?_) (λc6=>?_)
   ·refine#[_,rfl,p,dx,_,rfl,hp,rfl,p,xs,zs,rfl,S',hO,λH4 g4=>#[_,rfl,?_]]
    refine zD2 (λc=>?_) (λc=>?_)
    ·have an:ap zs=none:=by simpa using c
     refine#[_,rfl,p,xs,zs,rfl,S'.same g4,hO,are,oz,an,λt p' Z' rs zs' as H5 pa sa g5 c5 S5 p5 O5 L5=>?_];obtain ⟨dx5,_,_,hp5,_⟩:=id S5;refine#[t,_,0,.ref p',rfl,rfl,SqT.of c5,rfl,p',dx5,_,rfl,hp5,rfl,p',xs,zs',rfl,S5,O5,λH6 g6=>#[_,rfl,?_]];rw [zQD n12 hO.ok an (λm hm=>(zJD xs.length).ok m (pa.mem_iff.mp hm)) O5.ok p5];subst eD;exact zAY #[_,_,rfl,((g.trans g4).trans g5).trans g6]
    ·subst eD
     exact#[_,_,rfl,g.trans g4]
   ·subst eD
    exact zAY #[_,_,rfl,g]
 ·obtain ⟨v6,v7,rfl,g⟩:=hP
  refine sR f2 ?_;exact q _ (b3.same g) (aw.trans (zAE g))
def ZaF:MD->Str
 | .told _=>"none"
 | .house _=>"house"
 | .twice _=>"twice"
def oV:MD->V
 | .told _=>.non
 | .house v=>v
 | .twice v=>v
def ZOU (H:Hp)(Q:VK)(tag:Str)(v:V):Prop:=∀ r H',Same H H'->H r=none->H' r=some (.tup [.str tag,v])->Q (.ref r) H'
def JG9:=∀ a x xs r,vs=[.ref a,x]->H a=some (.lst xs)->(∀ v∈xs,v=kV (.inr (ZAM v)))->xs.Nodup->xs.length<=12->Row H x r->(∀ ys,r=some ys->∀ v∈ys,Th H v)->((r=none->ZOU H Q "set" x)/\∀ ys,r=some ys->ZOU H Q (ZaF (ZB8 xs ys 0)) (oV (ZB8 xs ys 0)))->JG9 vs H Q E
def zPG {xs:List V}(hk:∀ v∈xs,v=kV (.inr (ZAM v))){z:Str}:inV (.str z) xs=(ZAN xs (.str z)).isSome:=by
 unfold inV;rw [yAd,yAw]
 constructor
 ·rintro ⟨y,h1,h2⟩
  have e:y=.str (ZAM y):=hk y h1;rw [e] at h2;have e2:ZAM y=z:=yAm.mp h2;rw [e2] at e;subst e
  cases q:ZAN xs (.str z) with
  | none=>exact absurd h1 (UAN.mp q)
  | some i=>rfl
 ·intro h
  obtain ⟨i,hi⟩:=yBt.mp h;exact#[.str z,yAk (zBI hi),by show (z==z)=true;simp]
def zZK {m j:Nat}(h:m.testBit j=false):m ||| 2^j=m+2^j:=by
 have hb:m % 2^j<2^j:=Nat.mod_lt _ (eAw j)
 have e0:m / 2^j % 2=0:=by
  rw [yBe] at h
  have:=yBO h
  lia
 have em:m=2^(j+1)*(m / 2^j / 2)+m % 2^j:=by
  have h1:=yET m (2^j);have h2:=yET (m / 2^j) 2;rw [e0,yEU] at h2;rw [yDn,Nat.mul_assoc,h2];exact h1.symm
 generalize m / 2^j / 2=a at em;generalize m % 2^j=b at em hb;have p:2^(j+1)=2^j*2:=yDn ..;have o1:2^(j+1)*a+b=2^(j+1)*a ||| b:=eA0 oz a;have o2:2^j*1+b=2^j*1 ||| b:=eA0 hb 1;have o3:2^(j+1)*a+(2^j*1+b)=2^(j+1)*a ||| (2^j*1+b):=eA0 oz a;rw [em];have e3:2^(j+1)*a+b+2^j=2^(j+1)*a+(2^j*1+b):=by lia
 rw [e3,o3,o2,o1,Nat.or_assoc,Nat.mul_one,Nat.or_comm b]
def ZZU (xs ws:List V)(m:Nat):Prop:=(∀ v∈ws,v=kV (.inr (ZAM v)))/\∀ i (v:V),xs[i]?=some v->(v∈ws ↔ m.testBit i=true)
def zSO:UAC ["_law_names_here","_law_thing","_law_ahead","_law_one"] ["_law_names_here","_law_thing"] (ZA4 zD7):=by trivial
def zYS (F:Fun K "_law_odd_due" "_law_odd_due" zD7 f fd)(T:Txt mg)(mt:mg "tuple"=none)(kk:Kit K)(k2:Kit2 K):Fk 1 f fd ["_law_names_here","_law_thing"] JG9:=by
 refine fk F.ok zSO;obtain ⟨a,x,xs,r,rfl,ha,hk,nd,h12,hR,hT,q1,q2⟩:=h;obtain ⟨t,ty,e⟩:=zHB k2 hR
 refine#[_,zA1 (zAK (zBH (zB4 (zAD zCW rfl T.inst yAn #v[(pv 1),(zB9 #v[(zB3 (v:=.ty "list") rfl T.list yBQ rfl),(zB3 (v:=.ty "tuple") rfl mt yAx rfl)])]))) (zA2 (zA7 (zB9 #v[zAL,(pv 1)]))) zA8)
  (zA1 (kS9 2 zSO (zB1 zB5))
  (zA1 (zBK eAx rfl (zB2 (pv 1)) (kG9 3 zSO)
   (zA1 (zAK (PW.pt (zGR (zBH (zB4 (zAD zBM rfl T.inst yAn #v[(pv 3),(zB3 (v:=.ty "str") rfl T.str yDS rfl)]))) (zE9 (zA9 zCN (pv 3) (pv 0) (by with_unfolding_all rfl))))) (zA2 (zA7 (zB9 #v[zAL,(pv 3)]))) zA8)
   (zA1 (zAK (zA9 zH2 (pv 3) (pv 2) (by with_unfolding_all rfl)) (zA2 (zA7 (zB9 #v[zAL,(pv 3)]))) zA8)
   (zA2 (zBC (zH4 yBU yBY yBX zBN (pv 2) #v[(pv 3)]))))))
  (zA2 (zA7 (zB9 #v[zAL,zBV]))))),?_]
 have s2:(2:Nat)<=eA5:=by decide
 have s1000:100000<=eA5:=by decide
 refine sH λC1 f1=>?_;refine#[_,rfl,s2,λu hu=>?_];have g1:=UAB hu (.tup [.ty "list",.ty "tuple"]);have c1:(upd H u (.tup [.ty "list",.ty "tuple"])) u=_:=zA0;generalize upd H u (.tup [.ty "list",.ty "tuple"])=H1 at g1 c1 ⊢;refine#[_,t,u,["list","tuple"],_,rfl,TyOf.same g1 ty,c1,e,_,rfl,?_]
 cases r with
 | none=>exact zCQ #[_,rfl,s2,λr' hr'=>q1 rfl r' _ (g1.trans (UAB hr' _)) (g1.free hr') zA0]
 | some ys=>
  refine zAY (sR f1 (sH λC2 f2=>?_));have qm:=q2 ys rfl;have hT:=hT ys rfl
  obtain ⟨b,rfl,sq⟩:∃ b,x=.ref b/\(H b=some (.lst ys) \/ H b=some (.tup ys)):=by
   cases hR with
   | lst h=>exact#[_,rfl,.inl h]
   | tup h=>exact#[_,rfl,.inr h]
  have flat:xs.all ZEN=true:=by
   rw [yBA];intro v hv
   have:v=.str (ZAM v):=hk v hv
   rw [this];rfl
  refine#[(by show 0<=eA5;decide),λW hW=>?_];obtain ⟨H2,g2,c2,e0⟩:=zCM hW (.lst []);rw [e0];clear e0;have g12:=g1.trans g2;have hWH:H W=none:=g1.free hW
  have bW:b≠W:=by
   rcases sq with h|h
   ·exact zA3 h hWH
   ·exact zA3 h hWH
  have sq2:Sq K H2 b ys:=sq.imp (λh=>SqL.of (g12 _ _ h)) (λh=>SqT.of (g12 _ _ h));refine gNs (sR f2 (sfH λbd eb C3 f3=>?_));refine#[_,rfl,b,rfl,?_];refine zC5 (K:=K) (ys:=ys) sq2 (λi σ H'=>Same H H'/\∃ (m:Nat) (nm:Option V) (ws:List V),ZB8 xs ys 0=ZB8 xs (ys.drop i) m /\ σ=[some (.ref a),some (.ref b),some (.ref W),nm]/\H' W=some (.lst ws)/\ws.length<=12/\ws.length<=i/\ws.Nodup/\(∀ v∈ws,v∈xs)/\ZZU xs ws m) #[g12,0,_,[],rfl,rfl,c2,dQ,yBN _,.nil,(λv h=>nomatch h),(λv h=>nomatch h),λi v _=>by simp] (λi σ H' hP o ho=>?_) (λi σ H' v hi hx hP=>?_) (λσ H' hP=>?_)
  ·have hP:=hP.1
   rcases sq with h|h
   ·rw [g12 _ _ h] at ho;cases ho;exact hP _ _ h
   ·rw [g12 _ _ h] at ho;cases ho;exact hP _ _ h
  ·refine gNs (sR eb (dH λD0 eD=>sH λB1 e1=>?_))
   obtain ⟨g,m,nm,ws,ew,rfl,cW,w12,wi,wnd,wx,AO⟩:=hP
   have ed:ys.drop i=v::ys.drop (i+1):=by
    rw [yAz hi];rw [yAB hi] at hx
    injection hx with hx
    rw [hx]
   rw [ed] at ew;have thv:=(hT v (yAk hx)).mono g;have ha':SqL K H' a xs:=SqL.of (g _ _ ha)
   have out:∀ d,ZB8 xs (v::ys.drop (i+1)) m=d->∀ r',H' r'=none->Q (.ref r') (upd H' r' (.tup [.str (ZaF d),oV d])):=λd ed r' hr'=>by
    rw [ew,ed] at qm;exact qm r' _ (g.trans (UAB hr' _)) (g.free hr') zA0
   obtain ⟨t',ty',ek'⟩:=zL8 kk thv;refine#[_,rfl,v,t',"str",ZcR v,rfl,ty',ek',_,rfl,?_]
   cases hb:ZcR v with
   | false=>
    have en:ZAN xs v=none:=UAN.mpr λmm=>by
     rw [hk v mm] at hb
     cases hb
    have wv:ZB8 xs (v::ys.drop (i+1)) m=.house v:=by
     show (match ZAN xs v with|none=>_|some i=>_)=_;rw [en]
    exact zCQ (zCQ (by subst eD;exact#[_,rfl,s2,out _ wv]))
   | true=>
    cases v with
    | str z=>
     refine zAY #[_,rfl,_,rfl,a,xs,rfl,.inl ha',rfl,flat,_,rfl,?_];rw [zPG hk]
     cases ep:ZAN xs (.str z) with
     | none=>
      have wv:ZB8 xs (.str z::ys.drop (i+1)) m=.house (.str z):=by
       show (match ZAN xs (.str z) with|none=>_|some i=>_)=_;rw [ep]
      exact zCQ (by subst eD;exact#[_,rfl,s2,out _ wv])
     | some j=>
      have hj:=zBI ep;have zx:=yAk hj
      have wv:ZB8 xs (.str z::ys.drop (i+1)) m=if m.testBit j=true then .twice (.str z) else ZB8 xs (ys.drop (i+1)) (m+2^j):=by
       show (match ZAN xs (.str z) with|none=>_|some i=>_)=_;rw [ep]
      have fw:ws.all ZEN=true:=by
       rw [yBA];intro v hv
       have:v=.str (ZAM v):=hk v (wx v hv)
       rw [this];rfl
      have inW:inV (.str z) ws=decide (V.str z∈ws):=by
       unfold inV;rw [yAd,yAw,yAI]
       constructor
       ·rintro ⟨y,h1,h2⟩
        have e:y=.str (ZAM y):=hk y (wx y h1);rw [e] at h2;have e2:ZAM y=z:=yAm.mp h2;rw [<- e2,<- e];exact h1
       ·intro h
        exact#[.str z,h,by show (z==z)=true;simp]
      refine zAY (sR e1 (sH λB2 e2=>?_));refine#[_,rfl,_,rfl,W,ws,rfl,.inl (SqL.of cW),rfl,fw,_,rfl,?_];rw [yAT (by simp:¬false=true),inW];have key:=AO.2 j (.str z) hj
      by_cases tb:m.testBit j=true
      ·rw [yAS tb] at wv
       rw [yAJ (key.mpr tb)];exact zCQ (by subst eD;exact#[_,rfl,s2,out _ wv])
      ·rw [yAT tb] at wv
       have nz:V.str z∉ws:=λh=>tb (key.mp h);rw [yAG nz];have nd2:(ws++[V.str z]).Nodup:=yCG.mpr #[wnd,by simp,λp hp q hq e=>nz (by rw [yAE.mp hq] at e;rw [<- e];exact hp)]
       have sub2:∀ v∈ws++[V.str z],v∈xs:=λv hv=>by
        rcases yAb.mp hv with h|h
        ·exact wx v h
        ·rw [yAE.mp h];exact zx
       refine zAY (sR e2 ?_);subst eD;refine#[_,rfl,.inl #[rfl,_,SqL.of cW],_,rfl,W,_,_,rfl,rfl,cW,oz,λc o hc=>?_,m+2^j,_,ws++[.str z],?_,rfl,zA0,?_,?_,nd2,sub2,?_,?_]
       ·rw [zA6 (zA3 hc hWH)];exact g _ _ hc
       ·rw [ew,wv]
       ·exact yAp (nd2.length_le_of_subset sub2) h12
       ·rw [yAV,yBZ];lia
       ·intro v hv
        exact hk v (sub2 v hv)
       ·intro i' v' hv'
        have tf:m.testBit j=false:=by simpa using tb
        rw [<- zZK tf,Nat.testBit_or,yBr,yAb,yAE,AO.2 i' v' hv',yCq,yAI];refine or_congr Iff.rfl #[λe=>?_,λe=>?_]
        ·subst e
         exact ((List.getElem?_inj (yAH.mp hj).1 nd).mp (hj.trans hv'.symm))
        ·subst e
         exact eAH (hv'.symm.trans hj)
    | _=>cases hb
  ·obtain ⟨g,m,nm,ws,ew,rfl,cW,w12,wi,wnd,wx,AO⟩:=hP
   rw [yDA] at ew;rw [ew] at qm;refine sR f3 ?_;exact#[s2,λr' hr'=>qm r' _ (g.trans (UAB hr' _)) (g.free hr') zA0]
def ZTF (H:Hp)(E:XK)(Cs Ch Ct:Addr)(xs:List V)(x:V)(r:Option (List V)):Prop:=
 (∀ ys,r=some ys->∀ v∈ys,Th H v)/\(r=none->Bad H E Cs x)/\∀ ys,r=some ys->MOut H (λ_ _=>False) E Ch Ct (ZB8 xs ys 0)
theorem MOut.never {H:Hp}{Q:VK}{E:XK}{Ch Ct:Addr}:∀ {d:MD},MOut H (λ_ _=>False) E Ch Ct d->MOut H Q E Ch Ct d
 | .told _,h=>λH' g=>(h H' g).elim
 | .house _,h=>h
 | .twice _,h=>h
def JH0 (CS C Cs Ch Ct:Addr):=∀ p x xs ms r,vs=[.ref p,x]->UAH CS C H p xs ms->Ord xs ms->Row H x r->ZTF H E Cs Ch Ct xs x r->JH0 CS C Cs Ch Ct vs H Q E
def JH1 (CS C Cs Ch Ct:Addr):=∀ p x y xs ms r,vs=[.ref p,x,y]->UAH CS C H p xs ms->Ord xs ms->Row H x r->ZTF H E Cs Ch Ct xs x r->JH1 CS C Cs Ch Ct vs H Q E
def zK4 (F:Fun K "standing" "System.standing" zF8 f fd)(clS:Cls K CS)(nG:UAE K CS "ground")(cl:Cls K C)(M1:Meth K C "mask" a1)(O1:FnOk P w K mg base (CXE P w) 5 a1 d1 ["self","names"] (JG5 C Ch Cs Ct))(b1:UAD K d1 ["self","names"] [])
  (M2:Meth K CS "first_lot" a2) (O2:Fk 4 a2 d2 ["self","mask"] (JC8 CS C)) (b2:UAD K d2 ["self","mask"] []) (D3:Df 2 "all_of" ["houses"] (JB3 C) a3 d3) :
  FnOk P w K mg base (CXE P w) 6 f fd ["self","fallen"] (JH0 CS C Cs Ch Ct):=by
 refine fk F.okE zHX;obtain ⟨p,x,xs,ms,r,rfl,hS,hO,hx,bad⟩:=h;obtain ⟨dx,g,t,hp,hH,ht⟩:=id hS;have hr2:Room 2 _:=hr.mono dQ;have hr4:Room 4 _:=hr.mono dQ;obtain ⟨gx,t',d,h1,h2,h3⟩:=id hH;refine#[_,zA2 (zA7 (zAS (pv 0) clS M2 O2 hr4 b2 .nil zAT #v[(zAC zMS (kq D3 hr2 #v[(zAO (pv 0) rfl)]) (zAS (E:=E) (zAO (pv 0) rfl) cl M1 O1 hr b1 .nil zTP #v[(pv 1)]))])),?_];refine#[_,rfl,p,dx,_,rfl,hp,rfl,_,rfl,p,CS,dx,_,_,rfl,hp,clS,nG,rfl,g,xs,rfl,hH,hO.gn.hi,_,rfl,p,CS,dx,_,_,rfl,hp,clS,nG,rfl,g,gx,_,rfl,h1,rfl,_,rfl,?_];exact#[g,xs,x,r,rfl,hH,hO.gn.str,hO.gn.nd,hO.gn.hi,hx,bad.1,bad.2.1,λys e=>(bad.2.2 ys e).never]
def zMJ (F:Fun K "settled" "settled" zG7 f fd)(clS:Cls K CS)(M1:Meth K CS "standing" a1)(O1:FnOk P w K mg base (CXE P w) 6 a1 d1 ["self","fallen"] (JH0 CS C Cs Ch Ct))(b1:UAD K d1 ["self","fallen"] [])
  (M2:Meth K CS "within" a2) (O2:Fk 5 a2 d2 ["self","names"] (JC9 CS C)) (b2:UAD K d2 ["self","names"] []) (D3:Df 9 "other_side" ["system"] (JE9 CS C) a3 d3):FnOk P w K mg base (CXE P w) 10 f fd ["system","fallen"] (JH0 CS C Cs Ch Ct):=by
 refine fk F.okE zEW;obtain ⟨p,x,xs,ms,r,rfl,hS,hO,hx,bad⟩:=h;have hr5:Room 5 _:=hr.mono dQ;have hr6:Room 6 _:=hr.mono dQ;obtain ⟨dx,_,_,hp,_⟩:=id hS
 refine#[_,zA1 (kS9 2 zEW (zAS (E:=E) (pv 0) clS M1 O1 hr6 b1 .nil zTP #v[(pv 1)]))
  (zA1 (zAK (zA9 zLT (pv 2) zBV (zAB _)) (zA2 (zA7 (zB9 #v[zAL,(pv 2)]))) zA8)
  (zA2 (zA7 (zB9 #v[zAL,(zAS (kq D3 hr #v[(pv 0)]) clS M2 O2 hr5 b2 .nil zAT #v[(pv 1)])])))),?_]
 exact#[_,rfl,p,dx,_,rfl,hp,rfl,_,rfl,p,x,xs,ms,r,rfl,hS,hO,hx,bad]
def zQH (F:Fun K "shows_settled" "shows_settled" zJA f fd)(T:Txt mg)(mt:mg "tuple"=none)(clS:Cls K CS)(nG:UAE K CS "ground")(cl:Cls K C)(M1:Meth K C "mask" a1)(O1:FnOk P w K mg base (CXE P w) 5 a1 d1 ["self","names"] (JG5 C Ch Cs Ct))(b1:UAD K d1 ["self","names"] [])
  (D2:Df 7 "told_mask" ["houses","thing"] (JG6 C) a2 d2):FnOk P w K mg base (CXE P w) 8 f fd ["system","fallen","thing"] (JH1 CS C Cs Ch Ct):=by
 refine fk F.okE UAS;obtain ⟨p,x,y,xs,ms,r,rfl,hS,hO,hx,bad⟩:=h;have hr5:Room 5 _:=hr.mono dQ;obtain ⟨dx,g,tt,hp,hH,hm⟩:=id hS;obtain ⟨gx,_,_,h1,_⟩:=id hH
 refine#[_,zA1 (kS9 3 UAS (zAS (E:=E) (zAO (pv 0) rfl) cl M1 O1 hr5 b1 .nil zTP #v[(pv 1)]))
  (zA1 (zAK (PW.pt (zGR (zBH (zB4 (zAD zBM rfl T.inst yAn #v[(pv 2),(zB3 (v:=.ty "tuple") rfl mt yAx rfl)]))) (zE9 (zA9 zR6 (kL9 (pv 2)) zA5 (zAB _))))) (zA2 (zA7 zC0)) zA8)
  (zA1 (zE7 (i:=4) UAS.nd rfl (Or.inr rfl) (kq D2 hr #v[(zAO (pv 0) rfl),(zBF zF1 (pv 2) zA5 (λ_ _=>rfl))]))
  (zA1 (zAK (zA9 zNQ (pv 4) zBV (zAB _)) (zA2 (zA7 zC0)) zA8)
  (zA1 (zAK (zA9 (zF5 hr) (zBF zF1 (pv 2) zA5 (λ_ _=>rfl)) zAL (zAB _)) (zA2 (zA7 (zDH (zAW zH2 (pv 4) (zAO (pv 0) rfl) (by rfl)) (zEA (zAW zC3 (zAC zBU (pv 4) (pv 3)) zA5 (zAB _)))))) zA8)
  (zA2 (zA7 (zDH (zAW (zF5 hr) (zBF zF1 (pv 2) zA5 (λ_ _=>rfl)) zAL (zAB _)) (zDH (zAW zC3 (zAC zBU (pv 4) (pv 3)) (pv 4) (zAB _)) (zEA (zAD (zGI rfl) rfl T.all yDT (zBP (zAQ (xs:=["lot"]) (fv:=[("mask",4)]) rfl dk #[#[rfl,Or.inl rfl,rfl],trivial] (zB2 (zAO (pv 0) rfl)) (λ_ _ _ _ _=>zAG (i:=0) (ndT dk) rfl (Or.inl rfl)) (λ_ _ _ _ _=>zBD)
   (λ_ _ _ _ _=>zAW zJO (zAC zBU (pv 1) (pv 0)) zA5 (zAB _))) zB5))))))))))),?_]
 refine#[_,rfl,p,CS,dx,_,_,rfl,hp,clS,nG,rfl,g,gx,_,rfl,h1,rfl,_,rfl,?_];exact#[g,xs,x,r,rfl,hH,hO.gn.str,hO.gn.nd,hO.gn.hi,hx,bad.1,bad.2.1,λys e=>(bad.2.2 ys e).never]
def ZaG (xs:List V):List V->List Nat->Option (List Nat)
 | [],acc=>some acc
 | y::r,acc=>match ZAN xs y with
  | none=>none
  | some i=>if i∈acc then none else ZaG xs r (acc++[i])
def ZJX (m:Nat)(acc:List Nat):Prop:=∀ i,m.testBit i=decide (i∈acc)
def zVI {m i:Nat}{acc:List Nat}(h:ZJX m acc)(hi:i∉acc):ZJX (m+2^i) (acc++[i]):=by
 have tb:m.testBit i=false:=by rw [h i];exact yAG hi
 intro j;rw [<- zTJ tb,Nat.testBit_or,yBr,h j]
 by_cases e:i=j
 ·subst e;simp
 ·simp [e,eAL e]
def zKI (xs:List V):∀ (ys:List V) (acc:List Nat) (m:Nat),ZJX m acc->match ZaG xs ys acc with
  | some ns=>∃ m',ZB8 xs ys m=.told m'/\ZJX m' ns
  | none=>∀ m',ZB8 xs ys m≠.told m'
 | [],acc,m,h=>#[m,rfl,h]
 | y::r,acc,m,h=>by
  unfold ZaG ZB8
  cases ZAN xs y with
  | none=>intro m' z;cases z
  | some i=>
   dsimp only
   by_cases hi:i∈acc
   ·rw [yAS hi,yAS (by rw [h i];exact yAJ hi)]
    intro m' z
    cases z
   ·rw [yAT hi,yAT (by rw [h i,yAG hi];simp)]
    exact zKI xs r _ _ (zVI h hi)
def zGL (xs:List V):∀ (ys:List V) (acc ns:List Nat),ZaG xs ys acc=some ns->acc.Nodup->(∀ i∈acc,i<xs.length)->ns.Nodup/\(∀ i∈ns,i<xs.length)/\ns.map (λk=>xs.getD k .non)=acc.map (λk=>xs.getD k .non)++ys
 | [],acc,ns,h,nd,lt=>by
  cases h
  exact#[nd,lt,by simp]
 | y::r,acc,ns,h,nd,lt=>by
  unfold ZaG at h
  cases e:ZAN xs y with
  | none=>rw [e] at h;cases h
  | some i=>
   rw [e] at h;dsimp only at h
   by_cases hi:i∈acc
   ·rw [yAS hi] at h;cases h
   ·rw [yAT hi] at h
    have ey:=zBI e;have il:i<xs.length:=(yAH.mp ey).1
    obtain ⟨a,b,c⟩:=zGL xs r _ ns h (yCG.mpr #[nd,by simp,λx hx z hz=>by rw [yAE.mp hz];exact λq=>hi (q ▸ hx)]) (λj hj=>by
     rcases yAb.mp hj with hj|hj
     ·exact lt j hj
     ·rw [yAE.mp hj];exact il)
    refine#[a,b,?_];rw [c,yAQ,yBT];show _++([xs.getD i .non]++r)=_;rw [yBS,ey];rfl
def zO7 {m:Nat}{ns:List Nat}{n:Nat}(h12:n<=12)(hb:ZJX m ns)(nd:ns.Nodup)(lt:∀ i∈ns,i<n):(ZBS (m:Nat)).Perm ns:=by
 refine (List.perm_ext_iff_of_nodup (zMX _) nd).mpr λi=>?_;rw [zDQ,yBF,yBC,hb i];exact#[λh=>yAZ h.2,λh=>#[yAj (lt i h) h12,yAJ h]]
end
end S
namespace L2
open PySem PySem.Spec PyProof.Rows
section
variable {X:Cx}
def zJ4 {K:Frag}{fld:Str}{pos:Pos}{e:Expr}{ta:TE}(hK:X.K=K)(he:PE X e ta)(hb:eAX e fld X.env (eval e X.env)=eval e X.env):PE X (.Attribute e fld pos) (ZcA K ta fld):=by subst hK;exact zYX he hb
end
end L2
namespace S
open PySem L2
def zUP {H:Hp}{x:V}{xs ys:List V}{m:Nat}(hG:GN xs)(hR:Row H x (some ys))(h:ZB8 xs ys 0=.told m):UAQ H x xs (m:Nat)/\((m:Nat):Int)<2^xs.length:=by
 have iw:=zKI xs ys [] 0 (λi=>by simp)
 cases ei:ZaG xs ys [] with
 | none=>rw [ei] at iw;exact absurd h (iw m)
 | some ns=>
  rw [ei] at iw;obtain ⟨m',e1,hb⟩:=iw;rw [h] at e1
  cases e1
  obtain ⟨nd,lt,em⟩:=zGL xs ys [] ns ei .nil (λi h=>nomatch h)
  have ml:m<2^xs.length:=Nat.lt_pow_two_of_testBit _ λi hi=>by
   rw [hb i];exact yAG λhm=>absurd (lt i hm) (Nat.not_lt.mpr hi)
  have mi:((m:Nat):Int)<2^xs.length:=by exact_mod_cast ml
  refine#[UAQ.of_perm hG (yBw _) mi hR ?_,mi];rw [zME];have ey:ns.map (λk=>xs.getD k .non)=ys:=by simpa using em
  rw [<- ey];exact ((zO7 hG.hi hb nd lt).symm).map _
def zUY {H H':Hp}(g:Same H H'){x:V}{r:Option (List V)}(h:Row H x r):ZL0 H' x=ZL0 H x:=by
 cases h with
 | lst h=>show hoT (H' _)=hoT (H _);rw [h,g _ _ h]
 | tup h=>show hoT (H' _)=hoT (H _);rw [h,g _ _ h]
 | dK h=>show hoT (H' _)=hoT (H _);rw [h,g _ _ h]
 | _=>rfl
theorem ShW.mono {K:Frag}{H H':Hp}{xs:List V}{ms:List Int}{m:Int}{y:V}{u:Bool}{r:Option (List V)}(g:Same H H')(h:Row H y r)(s:ShW K H xs ms m y u):ShW K H' xs ms m y u:=by
 unfold ShW at s ⊢;rw [zUY g h];revert s
 cases ZL0 H y with
 | none=>exact id
 | some vs=>
  intro s
  rcases s with s|⟨a,b,rb,d,e1,hb,hT,hd,c,dp,e2⟩
  ·exact .inl s
  ·have eb:=zFO g hb
   exact .inr #[a,b,rb,d,e1,hb.same g,(λys e v hv=>(hT ys (eb ▸ e) v hv).mono g),hd.mono g,c,dp,(by rw [eb];exact e2)]
def zX1 {X:Cx}{hs:List ExceptHandler}:PH X hs (λ_ _ _ _ _=>False):=λ_ _ _ _ _ _ _ _ _ _ _ _ _ h=>eAQ h
def JH2 (K:Frag)(CS C:Addr):=∀ p way x y xs ms r ry,vs=[.ref p,.int way,x,y]->(way=0 \/ way=1)->UAH CS C H p xs ms->Ord xs ms->ZFY (some xs)=true->xs.length<=9->Row H x r->(∀ ys,r=some ys->∀ v∈ys,Th H v)->Row H y ry->(∀ m:Nat,∃ u,ShW K H xs ms (m:Nat) y u)->((r=none->ZOU H Q "set" x)/\∀ ys,r=some ys->ZOU H Q (ZaF (ZB8 xs ys 0)) (oV (ZB8 xs ys 0)))->JH2 K CS C vs H Q E
section
variable {P:eAD}{w:World}{K:Frag}{mg:Str->Option Value}{base:Heap}
theorem UAX:UAC ["_law_system","_law_way","_law_thing","_law_paper","_law_told","e"] ["_law_system","_law_way","_law_thing","_law_paper"] (ZA4 zD0):=by trivial
def zXZ (F:Fun K "_law_refused" "_law_refused" zD0 f fd)
  (D1:Df 10 "settled" ["system","fallen"] (JG2 CS C) a1 d1) (E1:DefE P w K mg base 10 "settled" ["system","fallen"] (JH0 CS C Cs Ch Ct) a1 e1)
  (D2:Df 8 "shows_settled" ["system","fallen","thing"] (JG7 K CS C) a2 d2) (E2:DefE P w K mg base 8 "shows_settled" ["system","fallen","thing"] (JH1 CS C Cs Ch Ct) a2 e2)
  (rs:Er P w K mg base "NoSet" Cs) (rh:Er P w K mg base "NoHouse" Ch) (rt:Er P w K mg base "Twice" Ct)
  (xss:exmOne K (.ref Cs) (.ref Cs)=some true) (xhs:exmOne K (.ref Ch) (.ref Cs)=some false) (xhh:exmOne K (.ref Ch) (.ref Ch)=some true)
  (xts:exmOne K (.ref Ct) (.ref Cs)=some false) (xth:exmOne K (.ref Ct) (.ref Ch)=some false) (xtt:exmOne K (.ref Ct) (.ref Ct)=some true) :
  Fk 11 f fd ["_law_system","_law_way","_law_thing","_law_paper"] (JH2 K CS C):=by
 refine fk F.ok UAX;obtain ⟨p,way,x,y,xs,ms,r,ry,rfl,hw,hS,hO,are,n9,hR,hT,hY,hSh,q1,q2⟩:=h;have hr8:Room 8 _:=hr.mono dQ;have s2:(2:Nat)<=eA5:=by decide
 have nI:∀ {a b:Int},a≠b->decide (V.int a=V.int b)=false:=λh=>yAG λe=>h (V.int.inj e)
 by_cases ht:∃ ys m,r=some ys/\ZB8 xs ys 0=.told m
 ·obtain ⟨ys,m,rfl,em⟩:=ht
  have q:=q2 ys rfl;rw [em] at q;obtain ⟨hx,m1⟩:=zUP hO.gn hR em
  refine#[_,zA1 (kS9 4 UAX (zB9 #v[zAL,zBV]))
   (zA1 (zSI rfl rfl (λpn E=>zA2 (zAK (zA9 zC3 (pv 1) zA5 (zAB _)) (zA2 (zBC (kq D1 hr #v[(pv 0),(pv 2)])))
     (zA2 (zBC (kq D2 hr8 #v[(pv 0),(pv 2),(pv 3)]))))) zX1)
   (zA2 (zA7 (pv 4)))),?_]
  refine#[s2,λt ht=>?_];obtain ⟨H1,g1,ct,e0⟩:=zCM ht (.tup [.str "none",.non]);rw [e0];clear e0;have q':∀ H',Same H1 H'->Q (.ref t) H':=λH' g=>q t H' (g1.trans g) ht (g _ _ ct);refine#[λ_ _ _=>False,#[_,rfl,rfl,_,rfl,?_],λ_ _ _ _ h=>h.elim]
  rcases hw with rfl|rfl
  ·rw [yAJ rfl]
   exact zCQ #[_,rfl,_,rfl,p,x,xs,ms,m,rfl,hS.same g1,hO,are,n9,hx.same g1,yBw _,m1,λw' l t' D H' _ _ _ g _ _ _ _=>#[_,rfl,q' H' g]]
  ·rw [nI dQ]
   obtain ⟨u,hu⟩:=hSh m;exact zAY #[_,rfl,_,rfl,_,rfl,p,x,y,xs,ms,m,ry,u,rfl,hS.same g1,hO,hx.same g1,yBw _,m1,hY.same g1,hu.mono g1 hY,λH' g=>#[_,rfl,q' H' g]]
 ·refine#[_,zA1 (kS9 4 UAX (zB9 #v[zAL,zBV]))
   (zA1 (zSI rfl rfl (λpn E=>zA2 (zAK (zA9 zC3 (pv 1) zA5 (zAB _)) (zA2 (zBC (zEK (E:=E) E1.ok hr rfl E1.m E1.k E1.b .nil zX9 #v[(pv 0),(pv 2)])))
     (zA2 (zBC (zEK (E:=E) E2.ok hr8 rfl E2.m E2.k E2.b .nil zX9 #v[(pv 0),(pv 2),(pv 3)])))))
    (zY5 (i:=5) UAX.nd rfl rfl rfl rs.m (λe=>zA2 (kS9 4 UAX (zB9 #v[zAL,(zJ4 (K:=K) rfl (pv 5) rfl)])))
    (zY5 (i:=5) UAX.nd rfl rfl rfl rh.m (λe=>zA2 (kS9 4 UAX (zB9 #v[zAL,(zJ4 (K:=K) rfl (pv 5) rfl)])))
    (zY5 (i:=5) UAX.nd rfl rfl rfl rt.m (λe=>zA2 (kS9 4 UAX (zB9 #v[zAL,(zJ4 (K:=K) rfl (pv 5) rfl)]))) zX1))))
   (zA2 (zA7 (pv 4)))),?_]
  refine#[s2,λt ht'=>?_];have g1:=UAB ht' (.tup [.str "none",.non]);generalize upd H t (.tup [.str "none",.non])=H1 at g1 ⊢;refine#[λcls od H'=>∃ dx C' v,cls=.ref C'/\od=some dx/\Same H1 H'/\H' dx=some (.xd [("found",v)])/\((C'=Cs/\ZOU H Q "set" v) \/ (C'=Ch/\ZOU H Q "house" v) \/ (C'=Ct/\ZOU H Q "twice" v)),?_,λC' dx σ' H' hE hl=>?_]
  ·have bad:ZTF H1 (λcls od H'=>∃ dx C' v,cls=.ref C'/\od=some dx/\Same H1 H'/\H' dx=some (.xd [("found",v)])/\((C'=Cs/\ZOU H Q "set" v) \/ (C'=Ch/\ZOU H Q "house" v) \/ (C'=Ct/\ZOU H Q "twice" v))) Cs Ch Ct xs x r:=by
    refine#[λys e v hv=>(hT ys e v hv).mono g1,λe dx H' g hd hxd=>#[dx,Cs,x,rfl,rfl,g,hxd,.inl #[rfl,q1 e]],λys e=>?_];have q:=q2 ys e
    cases ew:ZB8 xs ys 0 with
    | told m=>exact absurd #[ys,m,e,ew] ht
    | house v=>rw [ew] at q;exact λdx H' g hd hxd=>#[dx,Ch,v,rfl,rfl,g,hxd,.inr (.inl #[rfl,q])]
    | twice v=>rw [ew] at q;exact λdx H' g hd hxd=>#[dx,Ct,v,rfl,rfl,g,hxd,.inr (.inr #[rfl,q])]
   refine#[_,rfl,rfl,_,rfl,?_]
   rcases hw with rfl|rfl
   ·rw [yAJ rfl]
    exact zCQ #[_,rfl,_,rfl,p,x,xs,ms,r,rfl,hS.same g1,hO,hR.same g1,bad]
   ·rw [nI dQ]
    exact zAY #[_,rfl,_,rfl,_,rfl,p,x,y,xs,ms,r,rfl,hS.same g1,hO,hR.same g1,bad]
  ·obtain ⟨dx',C'',v,e1,e2,g,hxd,cs⟩:=hE
   cases e1
   cases e2
   have gg:=g1.trans g;have hl6:σ'.length=6:=hl;obtain ⟨u0,u1,u2,u3,u4,u5,rfl⟩:=len6 hl6
   rcases cs with ⟨rfl,qa⟩|⟨rfl,qa⟩|⟨rfl,qa⟩
   ·exact#[true,xss,zCQ (λe he=>#[_,rfl,e,_,dx,_,_,_,_,rfl,zA0,rs.ex.choose_spec.choose_spec.choose_spec.1,rs.nf,UAB he _ _ _ hxd,rfl,s2,λr' hr'=>#[_,rfl,qa r' _ ((gg.trans (UAB he _)).trans (UAB hr' _)) ((gg.trans (UAB he _)).free hr') zA0]])]
   ·exact#[false,xhs,zAY #[true,xhh,zCQ (λe he=>#[_,rfl,e,_,dx,_,_,_,_,rfl,zA0,rh.ex.choose_spec.choose_spec.choose_spec.1,rh.nf,UAB he _ _ _ hxd,rfl,s2,λr' hr'=>#[_,rfl,qa r' _ ((gg.trans (UAB he _)).trans (UAB hr' _)) ((gg.trans (UAB he _)).free hr') zA0]])]]
   ·exact#[false,xts,zAY #[false,xth,zAY #[true,xtt,zCQ (λe he=>#[_,rfl,e,_,dx,_,_,_,_,rfl,zA0,rt.ex.choose_spec.choose_spec.choose_spec.1,rt.nf,UAB he _ _ _ hxd,rfl,s2,λr' hr'=>#[_,rfl,qa r' _ ((gg.trans (UAB he _)).trans (UAB hr' _)) ((gg.trans (UAB he _)).free hr') zA0]])]]]
end
end S
namespace L2
open PySem PySem.Spec PyProof.Rows
section
variable {X:Cx}
def MB7:=∀ z,x=.str z->vs=[]->z.length<=1000->Q (.str (Txt.upper z)) H->MB7 x vs H Q
def zPU:MtR X "str.upper" MB7:=by
 intro pins s σ H x vs v us Q I rx rv h;obtain ⟨z,rfl,rfl,hz,q⟩:=h;obtain ⟨t,rfl⟩:=rx
 cases rv
 exact SC.upper (zbO (by have:=len_upper z;lia)) #[.str _,H,I.tok _,#[_,rfl],q]
end
end L2
namespace S
open PySem L2
def zRR:∀ c∈LET.cps.toList,∀ d∈Unicode.upperOf c,d<128:=by decide +kernel
def zTV {z:Str}(h:∀ c∈z.cps.toList,c∈LET.cps.toList):eAq (Txt.upper z)=true:=by
 show (Txt.upper z).cps.all (·<0x110000)=true;rw [<- Array.all_toList,yBA];intro d hd;have hd:d∈PySem.placed z λ_ c=>Unicode.upperOf c:=Array.mem_toList_iff.mp hd;unfold PySem.placed at hd;rw [Array.mem_flatten] at hd;obtain ⟨a,ha,hda⟩:=hd;rw [Array.mem_mapIdx] at ha;obtain ⟨i,hi,rfl⟩:=ha;have h1:=h z.cps[i] (Array.mem_toList_iff.mpr (Array.getElem_mem hi))
 have:=zRR _ h1 d (by simpa using hda)
 exact yAJ oz
structure Gd (K:Frag)(H:Hp)(x:V)(d:PyData):Prop where
 ok:∀ H',Same H H'->Th H' x/\((DV K H' x d/\d.hasDict=false) \/ DW K H' x d)
 shw:d.showable=true
 dep:d.depth<=50
 lvs:d.leavesShort 500=true
 blk:d.bulk<=20000
def ZM1 (tag:Str)(d:PyData):PyData:=.tuple [.str tag,d]
def ZPB (tag:Str):Prop:=(tag.cps.toList.all λc=>decide (c<16^8))=true/\tag.cps.size<=10
theorem Gd.rx {K:Frag}{H H':Hp}{x:V}{d:PyData}{tag:Str}{r:Addr}{Q:VK}(h:Gd K H x d)(g:Same H H')(ht:ZPB tag)(A:H' r=some (.tup [.str tag,x]))(q:Q (.str (ZM1 tag d).shown) H'):NB4 K [.ref r] H' Q \/ NC3 K [.ref r] H' Q:=by
 have s1:(ZM1 tag d).showable=true:=by simp only [ZM1,PyData.showable,PyData.showableAll,h.shw];rfl
 have s2:(ZM1 tag d).depth<=100:=by have:=h.dep;simp only [ZM1,eAm,eAl];lia
 have s3:(ZM1 tag d).shown.length<=eA5:=by
  have l:(ZM1 tag d).leavesShort 500=true:=by
   have:=ht.1
   simp only [ZM1,eA1,PyData.leavesShortAll,h.lvs,this];rfl
  have q:=PyData.shown_le_bulk 500 dQ _ l
  have e:(ZM1 tag d).bulk<=20030:=by
   have:=ht.2
   have:=h.blk
   simp only [ZM1,eA2,PyData.bulkAll];lia
  have z:16777216<=eA5:=by decide
  have:=Nat.mul_le_mul_left 502 e
  lia
 rcases (h.ok H' g).2 with ⟨dv,nd⟩|dw
 ·refine .inl #[.ref r,ZM1 tag d,rfl,.tup (SqT.of A) (.cons (.str _) (.cons dv .nil)),s1,?_,s2,s3,q]
  simp only [ZM1,PyData.hasDict,PyData.hasDictAll,nd];rfl
 ·exact .inr #[.ref r,ZM1 tag d,rfl,.tup (SqT.of A) (.cons (.str _) (.cons dw .nil)),s1,s2,s3,q]
def zED {z:Str}(h:z.cps.toList.all (λc=>decide (c<16^8))=true):(PyData.str z).leavesShort 500=true:=by simp only [eA1,h]
theorem Gd.str {K:Frag}{H:Hp}{z:Str}(h:z.cps.toList.all (λc=>decide (c<16^8))=true)(l:z.length<=1000):Gd K H (.str z) (.str z):=by
 refine#[λH' _=>#[(by show z.length<=100000;lia),.inl #[.str z,rfl]],rfl,(by simp only [eAm];lia),zED h,?_]
 have:z.cps.size=z.length:=rfl
 simp only [eA2];lia
theorem Gd.non {K:Frag}{H:Hp}:Gd K H .non .none:=#[λH' _=>#[trivial,.inl #[.non,rfl]],rfl,(by simp only [eAm];lia),rfl,(by simp only [eA2];lia)]
theorem Gd.bl {K:Frag}{H:Hp}{b:Bool}:Gd K H (.bl b) (.bool b):=#[λH' _=>#[trivial,.inl #[.bl b,rfl]],rfl,(by simp only [eAm];lia),rfl,(by simp only [eA2];lia)]
structure Wd (z:Str):Prop where
 ok:eAq z=true
 few:z.length<=20
theorem Wd.small {z:Str}(h:Wd z):z.cps.toList.all (λc=>decide (c<16^8))=true:=by
 have h1:z.cps.all (·<0x110000)=true:=h.ok;rw [<- Array.all_toList,yBA] at h1;rw [yBA];intro c hc
 have:=yAZ (h1 c hc)
 exact yAJ oz
inductive OE (b:Addr)(H:Hp):V->Prop
 | non:OE b H .non
 | int {i:Int} (h:i=0 \/ i=7):OE b H (.int i)
 | tt:OE b H (.bl true)
 | str {z:Str} (h:Wd z):OE b H (.str z)
 | lst {t:Addr} {z:Str} (ne:t≠b) (h:H t=some (.lst [.str z])) (w:Wd z):OE b H (.ref t)
 | tup {t:Addr} {z:Str} (ne:t≠b) (h:H t=some (.tup [.str z])) (w:Wd z):OE b H (.ref t)
theorem OE.away {b:Addr}{H H':Hp}{v:V}(g:Away b H H')(h:OE b H v):OE b H' v:=by
 cases h with
 | non=>exact .non
 | int h=>exact .int h
 | tt=>exact .tt
 | str h=>exact .str h
 | lst ne h w=>exact .lst ne (g _ _ h ne) w
 | tup ne h w=>exact .tup ne (g _ _ h ne) w
theorem Gd.one {K:Frag}{H:Hp}{t:Addr}{z:Str}(h:H t=some (.lst [.str z]) \/ H t=some (.tup [.str z]))(w:Wd z):∃ d,Gd K H (.ref t) d:=by
 have sz:z.cps.size=z.length:=rfl;have l:=w.few;have lv:=zED w.small;simp only [eA1] at lv
 rcases h with h|h
 ·exact#[.list [.str z],λH' g=>#[.inl #[_,g _ _ h],.inl #[.lst (SqL.of (g _ _ h)) (.cons (.str _) .nil),rfl]],rfl,(by simp only [eAm,eAl];lia),(by simp only [eA1,PyData.leavesShortAll,lv];rfl),(by simp only [eA2,PyData.bulkAll];lia)]
 ·exact#[.tuple [.str z],λH' g=>#[.inr (.inl #[_,g _ _ h]),.inl #[.tup (SqT.of (g _ _ h)) (.cons (.str _) .nil),rfl]],rfl,(by simp only [eAm,eAl];lia),(by simp only [eA1,PyData.leavesShortAll,lv];rfl),(by simp only [eA2,PyData.bulkAll];lia)]
theorem OE.gd {K:Frag}{b:Addr}{H:Hp}{v:V}(h:OE b H v):∃ d,Gd K H v d:=by
 cases h with
 | non=>exact#[_,Gd.non]
 | @int i h=>
  refine#[.int i,λH' _=>#[trivial,.inl #[.int i,rfl]],?_,(by simp only [eAm];lia),?_,(by simp only [eA2];lia)]
  ·rcases h with rfl|rfl<;>decide +kernel
  ·rcases h with rfl|rfl<;>decide +kernel
 | tt=>exact#[_,Gd.bl]
 | str h=>exact#[_,Gd.str h.small (by have:=h.few;lia)]
 | lst _ h w=>exact Gd.one (.inl h) w
 | tup _ h w=>exact Gd.one (.inr h) w
theorem OE.th {b:Addr}{H:Hp}{v:V}(h:OE b H v):Th H v:=by
 cases h with
 | non=>exact trivial
 | int h=>exact trivial
 | tt=>exact trivial
 | @str z h=>exact (by have:=h.few;show z.length<=100000;lia)
 | lst _ h _=>exact .inl #[_,h]
 | tup _ h _=>exact .inr (.inl #[_,h])
inductive OTh (b:Addr)(H:Hp):V->Prop
 | row {a:Addr} {ys:List V} (ne:a≠b) (h:H a=some (.lst ys) \/ H a=some (.tup ys)) (al:∀ v∈ys,OE b H v):OTh b H (.ref a)
 | flat {v:V} (h:OE b H v) (f:ZEN v=true):OTh b H v
 | dct {a:Addr} {kvs:List (Key×V)} (ne:a≠b) (h:H a=some (.dK kvs)) (k:kvs=[] \/ ∃ z,Wd z/\kvs=[(.inr z,.bl true)]):OTh b H (.ref a)
theorem OTh.away {b:Addr}{H H':Hp}{v:V}(g:Away b H H')(h:OTh b H v):OTh b H' v:=by
 cases h with
 | row ne h al=>exact .row ne (h.imp (λh=>g _ _ h ne) (λh=>g _ _ h ne)) λv hv=>(al v hv).away g
 | flat h f=>exact .flat (h.away g) f
 | dct ne h k=>exact .dct ne (g _ _ h ne) k
theorem OTh.row_of {K:Frag}{b:Addr}{H:Hp}{v:V}(h:OTh b H v):∃ r,Row H v r/\(∀ ys,r=some ys->∀ y∈ys,Th H y/\∃ d,Gd K H y d)/\(r=none->∃ d,Gd K H v d):=by
 cases h with
 | @row a ys ne h al=>exact#[some ys,h.elim .lst .tup,λys' e y hy=>by cases e;exact#[(al y hy).th,(al y hy).gd],λe=>nomatch e]
 | flat h f=>
  cases h with
  | non=>exact#[_,.non,(λ_ e=>nomatch e),λ_=>#[_,Gd.non]]
  | int h=>exact#[_,.int _,(λ_ e=>nomatch e),λ_=>(OE.int (b:=b) h).gd]
  | tt=>exact#[_,.bl _,(λ_ e=>nomatch e),λ_=>#[_,Gd.bl]]
  | str h=>exact#[_,.str _,(λ_ e=>nomatch e),λ_=>(OE.str (b:=b) h).gd]
  | lst _ _ _=>cases f
  | tup _ _ _=>cases f
 | @dct a kvs ne h k=>
  refine#[_,.dK h,(λ_ e=>nomatch e),λ_=>?_]
  rcases k with rfl|⟨z,w,rfl⟩
  ·exact#[.dict [],λH' g=>#[.inr (.inr #[_,g _ _ h]),.inr (.dct (kvs:=[]) (g _ _ h) .nil)],rfl,(by simp only [eAm,PyData.depthKv];lia),rfl,(by simp only [eA2,PyData.bulkKv];lia)]
  ·have sz:z.cps.size=z.length:=rfl
   have l:=w.few;have lv:=zED w.small;simp only [eA1] at lv;refine#[.dict [(.str z,.bool true)],λH' g=>#[.inr (.inr #[_,g _ _ h]),.inr (.dct (kvs:=[(.inr z,.bl true)]) (g _ _ h) (.cons (.bl true) .nil))],rfl,(by simp only [eAm,PyData.depthKv];lia),?_,(by simp only [eA2,PyData.bulkKv];lia)];simp only [eA1,PyData.leavesShortKv,lv];rfl
def ZeF (xs:List V):Prop:=∀ v∈xs,∀ c∈(ZAM v).cps.toList,c∈LET.cps.toList
def JH3:=∀ b a xs,vs=[.ref b,.ref a]->UAG H b->a≠b->H a=some (.lst xs)->GN xs->ZeF xs->(∀ x H',UAG H' b->Away b H H'->OTh b H' x->Q x H')->JH3 vs H Q E
theorem Wd.name {xs:List V}(h:GN xs){v:V}(hv:v∈xs):∃ z,v=.str z/\Wd z/\z.length<=6:=#[ZAM v,h.str v hv,#[h.sok v hv,yAp (h.six v hv) dQ],h.six v hv]
def zcQ {z y:Str}(h:eAq z=true)(h':eAq y=true):eAq (z++y)=true:=by
 have h1:z.cps.all (·<0x110000)=true:=h;have h2:y.cps.all (·<0x110000)=true:=h';show (z.cps++y.cps).all (·<0x110000)=true;rw [Array.all_append,h1,h2];rfl
section
variable {P:eAD}{w:World}{K:Frag}{mg:Str->Option Value}{base:Heap}
def zGO:UAC ["_law_box_here","_law_names_here","_law_found","_law_k","_law_one","_law_odd","_law_at"] ["_law_box_here","_law_names_here"] (ZA4 zCK):=by trivial
def zXV (F:Fun K "_law_odd_thing" "_law_odd_thing" zCK f fd)(T:Txt mg)(mt:mg "tuple"=none)(D1:Df 1 "_law_take" ["_law_box_here","_law_many"] JC2 a1 d1)
  (D2:Df 2 "_law_mixed" ["_law_box_here","_law_some"] JC7 a2 d2) (D3:Df 1 "_law_set" ["_law_names_here","_law_mask"] (JC6 K) a3 d3):Fk 3 f fd ["_law_box_here","_law_names_here"] JH3:=by
 refine fk F.ok zGO;obtain ⟨b,a,xs,rfl,hb,nab,ha,hG,hL,q⟩:=h;have hr1:Room 1 _:=hr.mono dQ
 refine#[_,(zA1 (zAK (zA9 zC3 (kq D1 hr1 #v[(pv 0),zA5]) zA5 (zAB _)) (zA2 (zA7 (zBF zAJ (zB1 #v[zBV,zAL,zIN,zA5,zC0,(zBF zAJ (pv 1) zA5 (λ_ _=>rfl)),(zZA (zVM (zBF zAJ (pv 1) zA5 (λ_ _=>rfl)) zC0 zYQ) rfl rfl (by simp) (by simp)),zA5]) (kq D1 hr1 #v[(pv 0),zA5]) (λ_ _=>rfl)))) zA8)
  (zA1 (kS9 2 zGO (kq D2 hr #v[(pv 0),(kq D3 hr1 #v[(pv 1),(kq D1 hr1 #v[(pv 0),(zAC zDF zA5 (kL9 (pv 1)))])])]))
  (zA1 (zBK eAx rfl (zBG rfl T.range #v[(zAC zCU zA5 (kq D1 hr1 #v[(pv 0),zA5]))]) (kG9 3 zGO)
  (zA1 (kS9 4 zGO (zBF zAJ (pv 1) (kq D1 hr1 #v[(pv 0),(kL9 (pv 1))]) (λ_ _=>rfl)))
  (zA1 (kS9 5 zGO (zBF zAJ (zB1 #v[(pv 4),(pv 4),zAL,zBV,zA5,(zB1 #v[(pv 4)]),zAL,zC0,(zcU PySem.F.plainAttrs_str PySem.F.slot_str_upper PySem.F.type_str_upper zPU (pv 4)),(zB9 #v[(pv 4)]),(zAC zC8 (pv 4) zAL)]) (kq D1 hr1 #v[(pv 0),zA5]) (λ_ _=>rfl)))
  (zA1 (kS9 6 zGO (kq D1 hr1 #v[(pv 0),(zAC zCU (kL9 (pv 2)) zA5)]))
  (zA2 (kS9 2 zGO (zAC zQ9 (zAC zQ9 (zD9 zH8 (pv 2) zDD (zDR (pv 6))) (zB1 #v[(pv 5)])) (zD9 zH8 (pv 2) (zDR (pv 6)) zDD))))))))
  (zA2 (zA7 (zBF zAJ (zB1 #v[(pv 2),(zB6 zBA rfl mt yAx #v[(pv 2)])]) (kq D1 hr1 #v[(pv 0),zA5]) (λ_ _=>rfl))))))),?_]
 have hlo:=hG.lo;have hhi:=hG.hi;have s1000:100000<=eA5:=by decide
 refine sH λC1 f1=>?_;refine#[_,rfl,b,4,rfl,dQ,dQ,hb,λk H1 k0 k1 b1 t1=>?_];have ha1:=(t1 a nab).trans ha;refine#[rfl,_,rfl,?_];obtain ⟨z,ez,wz,z6⟩:=Wd.name hG (yAi (l:=xs) (n:=0) oz)
 have h0:atI xs 0=some (.str z):=by
  have q:atI xs ((0:Nat):Int)=some xs[0]:=zCE (yAB oz);rw [ez] at q;exact q
 refine zD2 (λ_=>?_) (λ_=>?_)
 ·intro D hD
  obtain ⟨H2,g2,c2,e0⟩:=zCM hD (.dK []);rw [e0];clear e0;refine#[_,rfl,a,_,_,_,rfl,rfl,SqL.of (g2 _ _ ha1),h0,?_];intro D2 hD2;have c3:(upd H2 D2 (.dK [])) D2=some (.dK []):=zA0;have k3:∀ c o,H2 c=some o->upd H2 D2 (.dK []) c=some o:=UAB hD2 _;refine#[_,rfl,a,_,_,_,rfl,rfl,SqL.of (k3 _ _ (g2 _ _ ha1)),h0,?_];refine#[c3,[(.inr z,.bl true)],rfl,Nat.le_of_ble_eq_true rfl,?_]
  have g3:Same H2 (upd (upd H2 D2 (.dK [])) D2 (.dK (ZG0 [] [(.inr z,V.bl true)]))):=λc o hc=>by
   have n:c≠D2:=λe=>by rw [e,hD2] at hc;cases hc
   rw [zA6 n,zA6 n];exact hc
  have c4:(upd (upd H2 D2 (.dK [])) D2 (.dK (ZG0 [] [(.inr z,V.bl true)]))) D2=some (.dK [(.inr z,V.bl true)]):=zA0;generalize upd (upd H2 D2 (.dK [])) D2 (.dK (ZG0 [] [(.inr z,V.bl true)]))=H3 at g3 c4 ⊢;refine#[(by show 8<=eA5;decide),λL hL=>?_];obtain ⟨H4,g4,cL,e0⟩:=zCM hL (.lst [.non,.str "a",.ref D,.int 7,.bl true,.str z,.ref D2,.int 0]);rw [e0];clear e0;have g24:=g3.trans g4;have g14:=g2.trans g24;have bx:=b1.same g14;have Db:D≠b:=(b1.ne hD).symm;have D2b:D2≠b:=((b1.same g2).ne hD2).symm;have Lb:L≠b:=((b1.same (g2.trans g3)).ne hL).symm;refine#[_,rfl,b,8,rfl,dQ,dQ,bx,λj H5 j0 j1 b5 t5=>?_];have aw:Away b H H5:=(t1.away.trans (zAE g14)).trans t5.away;have cD:H5 D=some (.dK []):=(t5 D Db).trans (g24 _ _ c2);have cD2:H5 D2=some (.dK [(.inr z,V.bl true)]):=(t5 D2 D2b).trans (g4 _ _ c4)
  obtain ⟨x,hx,ot⟩:∃ x,atI [V.non,.str "a",.ref D,.int 7,.bl true,.str z,.ref D2,.int 0] j=some x/\OTh b H5 x:=by
   have cs:j=0 \/ j=1 \/ j=2 \/ j=3 \/ j=4 \/ j=5 \/ j=6 \/ j=7:=by lia
   rcases cs with rfl|rfl|rfl|rfl|rfl|rfl|rfl|rfl
   ·exact#[_,rfl,.flat .non rfl]
   ·exact#[_,rfl,.flat (.str #[dk,dk]) rfl]
   ·exact#[_,rfl,.dct Db cD (.inl rfl)]
   ·exact#[_,rfl,.flat (.int (.inr rfl)) rfl]
   ·exact#[_,rfl,.flat .tt rfl]
   ·exact#[_,rfl,.flat (.str wz) rfl]
   ·exact#[_,rfl,.dct D2b cD2 (.inr #[z,wz,rfl])]
   ·exact#[_,rfl,.flat (.int (.inl rfl)) rfl]
  exact#[L,_,_,_,rfl,rfl,SqL.of ((t5 L Lb).trans cL),hx,q x H5 b5 aw ot]
 ·have hsh:ZXA 1 (xs.length:Int):=#[ oz,oz,dQ]
  have p12:2^xs.length<=4096:=yAu (n:=2) dQ hhi;have p0:0<2^xs.length:=eAw _;have es:(1:Int)*2^((xs.length:Int)).toNat=2^xs.length:=by rw [yAW,yCe]
  have ep:(2:Int)^xs.length=((2^xs.length:Nat):Int):=by norm_cast
  refine sR f1 (sH λC2 f2=>?_);refine#[_,rfl,_,rfl,_,rfl,_,rfl,a,_,rfl,.inl (SqL.of ha1),_,_,rfl,rfl,hsh,b,_,rfl,(by rw [es,ep];lia),(by rw [es,ep];lia),b1,λm H2 m0 m1 b2 t2=>?_];have m1':m<2^xs.length:=by rw [<- es];exact m1
  have ha2:=(t2 a nab).trans ha1;refine#[a,xs,m,rfl,.inl (SqL.of ha2),hhi,m0,m1',λS3 H3 hS3 g3 l3=>?_];refine#[b,S3,_,rfl,b2.same g3,l3,yAp (zDB xs _) dQ,(zBY hG m0 m1').plain,λD H4 ys hD l4 pm b4 a4=>?_];have Db:D≠b:=((b2.same g3).ne hD).symm;have aw4:Away b H H4:=((t1.away.trans t2.away).trans (zAE g3)).trans a4
  have oe4:∀ v∈ys,OE b H4 v:=λv hv=>by
   have st:=zBY hG m0 m1' v (pm.mem_iff.mp hv);have e:v=.str (ZAM v):=st.1;rw [e];exact .str #[st.2.1,yAp st.2.2 dQ]
  have ly:ys.length<=12:=by rw [pm.length_eq];exact zDB xs _
  refine gNs (sR f2 (sfH λbd eb C3 f3=>?_));refine#[_,rfl,b,3,rfl,dQ,dQ,b4,λn H5 n0 n1 b5 t5=>?_];refine#[_,_,rfl,rfl,_,rfl,oz,oz,?_];have nb:∃ N:Nat,(1+n).toNat=N/\N<=3:=#[_,rfl,oz];obtain ⟨N,eN,hN⟩:=nb;rw [eN];have aw5:Away b H H5:=aw4.trans t5.away;refine zCD (lo:=0) (λi σ H'=>∃ v3 v4 v5 v6 D ys,σ=[some (.ref b),some (.ref a),some (.ref D),v3,v4,v5,v6]/\Away b H H'/\UAG H' b/\D≠b/\H' D=some (.lst ys)/\ys.length<=12+i/\∀ v∈ys,OE b H' v) #[_,_,_,_,D,ys,rfl,aw5,b5,Db,(t5 D Db).trans l4,ly,λv hv=>(oe4 v hv).away t5.away] (λi σ H' hi hP=>?_) (λσ H' hP=>?_)
  ·obtain ⟨v3,v4,v5,v6,D',ys',rfl,aw,bx,Db',lD,l',oe⟩:=hP
   have haL:H' a=some (.lst xs):=aw _ _ ha nab;refine gNs (sR eb (dH λD0 eD=>sH λB1 e1=>?_));refine#[_,rfl,_,rfl,_,rfl,a,xs,rfl,.inl (SqL.of haL),b,_,rfl,oz,oz,bx,λj1 H6 j10 j11 b6 t6=>?_];have haM:=(t6 a nab).trans haL;obtain ⟨i1,rfl⟩:∃ i1:Nat,j1=i1:=#[j1.toNat,oz];obtain ⟨z1,ez1,wz1,z16⟩:=Wd.name hG (yAi (l:=xs) (n:=i1) oz)
   have h1:atI xs (i1:Int)=some (.str z1):=by
    have q:atI xs (i1:Int)=some xs[i1]:=zCE (yAB oz);rw [ez1] at q;exact q
   have hz1:∀ c∈z1.cps.toList,c∈LET.cps.toList:=by
    have q:=hL _ (yAi (l:=xs) (n:=i1) oz);rw [ez1] at q;exact q
   have wU:Wd (Txt.upper z1):=#[zTV hz1,by have:=PyProof.Rows.len_upper z1;lia];have lq:(z1++(eAb "q")).length=z1.length+1:=Str.length_append ..;have wQ:Wd (z1++(eAb "q")):=#[zcQ wz1.ok dk,oz];refine#[a,_,_,_,rfl,rfl,SqL.of haM,h1,?_];refine gNs (sR e1 (sH λB2 e2=>?_));refine#[_,rfl,_,rfl,_,rfl,(by show 1<=eA5;decide),λL1 hL1=>?_];have g1:=UAB hL1 (.lst [.str z1]);have c1:(upd H6 L1 (.lst [.str z1])) L1=some (.lst [.str z1]):=zA0;have L1b:L1≠b:=(b6.ne hL1).symm;generalize upd H6 L1 (.lst [.str z1])=H7 at g1 c1 ⊢;refine#[_,rfl,?_,_,rfl,rfl,oz,?_]
   ·exact rfl
   refine#[_,rfl,(by show 1<=eA5;decide),λL2 hL2=>?_];have g2:=UAB hL2 (.tup [.str z1]);have c2:(upd H7 L2 (.tup [.str z1])) L2=some (.tup [.str z1]):=zA0;have L2b:L2≠b:=((b6.same g1).ne hL2).symm;generalize upd H7 L2 (.tup [.str z1])=H8 at g2 c2 ⊢;refine#[_,rfl,_,_,rfl,rfl,?_,(by show 11<=eA5;decide),λL3 hL3=>?_]
   ·show z1.length+1<=eA5
    lia
   have g3':=UAB hL3 (.lst [.str z1,.str z1,.str "qqqqqq",.non,.int 7,.ref L1,.str "",.bl true,.str (Txt.upper z1),.ref L2,.str (z1++eAb "q")]);have c3:(upd H8 L3 (.lst [.str z1,.str z1,.str "qqqqqq",.non,.int 7,.ref L1,.str "",.bl true,.str (Txt.upper z1),.ref L2,.str (z1++eAb "q")])) L3=some (.lst [.str z1,.str z1,.str "qqqqqq",.non,.int 7,.ref L1,.str "",.bl true,.str (Txt.upper z1),.ref L2,.str (z1++eAb "q")]):=zA0;have L3b:L3≠b:=((b6.same (g1.trans g2)).ne hL3).symm;have g123:=(g1.trans g2).trans g3';have g23:=g2.trans g3';generalize upd H8 L3 (.lst [.str z1,.str z1,.str "qqqqqq",.non,.int 7,.ref L1,.str "",.bl true,.str (Txt.upper z1),.ref L2,.str (z1++eAb "q")])=H9 at g123 g23 g3' c3 ⊢;refine#[_,rfl,b,11,rfl,dQ,dQ,b6.same g123,λj2 HA j20 j21 bA tA=>?_];have cA1:HA L1=some (.lst [.str z1]):=(tA L1 L1b).trans (g23 _ _ c1);have cA2:HA L2=some (.tup [.str z1]):=(tA L2 L2b).trans (g3' _ _ c2);have awA:Away b H' HA:=(t6.away.trans (zAE g123)).trans tA.away
   obtain ⟨x,hx,ox⟩:∃ x,atI [V.str z1,.str z1,.str "qqqqqq",.non,.int 7,.ref L1,.str "",.bl true,.str (Txt.upper z1),.ref L2,.str (z1++eAb "q")] j2=some x/\OE b HA x:=by
    have cs:j2=0 \/ j2=1 \/ j2=2 \/ j2=3 \/ j2=4 \/ j2=5 \/ j2=6 \/ j2=7 \/ j2=8 \/ j2=9 \/ j2=10:=by lia
    rcases cs with rfl|rfl|rfl|rfl|rfl|rfl|rfl|rfl|rfl|rfl|rfl
    ·exact#[_,rfl,.str wz1]
    ·exact#[_,rfl,.str wz1]
    ·exact#[_,rfl,.str #[dk,dk]]
    ·exact#[_,rfl,.non]
    ·exact#[_,rfl,.int (.inr rfl)]
    ·exact#[_,rfl,.lst L1b cA1 wz1]
    ·exact#[_,rfl,.str #[dk,dk]]
    ·exact#[_,rfl,.tt]
    ·exact#[_,rfl,.str wU]
    ·exact#[_,rfl,.tup L2b cA2 wz1]
    ·exact#[_,rfl,.str wQ]
   refine#[L3,_,_,_,rfl,rfl,SqL.of ((tA L3 L3b).trans c3),hx,?_];have lA:=awA _ _ lD Db';refine gNs (sR e2 (sH λB3 e3=>?_));refine#[_,rfl,_,rfl,D',ys',rfl,.inl (SqL.of lA),_,_,rfl,rfl,b,_,rfl,oz,oz,bA,λj3 HB j30 j31 bB tB=>?_];have lB:=(tB D' Db').trans lA;obtain ⟨i3,rfl⟩:∃ i3:Nat,j3=i3:=#[j3.toNat,oz];have i3l:i3<=ys'.length:=by lia
   have ec1:ZL7 ys' none (some (i3:Int))=ys'.take i3:=by rw [zLQ _ oz oz,yAW]
   have ec2:ZL7 ys' (some (i3:Int)) none=ys'.drop i3:=zHE i3l;have oeB:∀ v∈ys',OE b HB v:=λv hv=>(oe v hv).away (awA.trans tB.away);have oxB:OE b HB x:=ox.away tB.away;refine gNs (sR e3 ?_);refine#[_,rfl,_,rfl,_,rfl,D',ys',rfl,SqL.of lB,λp1 hp1=>?_];rw [ec1];obtain ⟨HC,u1,e1,e0⟩:=zCM hp1 (.lst (ys'.take i3));rw [e0];clear e0;refine#[_,rfl,(by show 1<=eA5;decide),λp2 hp2=>?_];obtain ⟨HD,u2,e2,e0⟩:=zCM hp2 (.lst [x]);rw [e0];clear e0;have lt:(ys'.take i3).length=i3:=by rw [yAe];lia
   have ld:(ys'.drop i3).length=ys'.length-i3:=yCK ..;refine#[_,_,_,_,rfl,rfl,u2 _ _ e1,e2,(by rw [lt];show i3+1<=eA5;lia),λp3 hp3=>?_];obtain ⟨HF,u3,e3,e0⟩:=zCM hp3 (.lst (ys'.take i3++[x]));rw [e0];clear e0;have u13:=(u1.trans u2).trans u3;refine#[_,rfl,_,rfl,_,rfl,D',ys',rfl,SqL.of (u13 _ _ lB),λp4 hp4=>?_];rw [ec2];obtain ⟨HG,u4,e4,e0⟩:=zCM hp4 (.lst (ys'.drop i3));rw [e0];clear e0;refine#[_,_,_,_,rfl,rfl,u4 _ _ e3,e4,(by rw [yAV,lt,ld];show i3+1+_<=eA5;lia),λp5 hp5=>?_];have u5:=UAB hp5 (.lst (ys'.take i3++[x]++ys'.drop i3));have u15:=(u13.trans u4).trans u5;subst eD;refine#[_,_,_,_,p5,_,rfl,aw.trans ((awA.trans tB.away).trans (zAE u15)),bB.same u15,((bB.same (u13.trans u4)).ne hp5).symm,zA0,(by rw [yAV,yAV,lt,ld];show i3+1+_<=_;lia),λv hv=>?_]
   have oo:OE b HB v:=by
    rcases yAb.mp hv with hv|hv
    ·rcases yAb.mp hv with hv|hv
     ·exact oeB v (yDX hv)
     ·rw [yAE.mp hv];exact oxB
    ·exact oeB v (List.mem_of_mem_drop hv)
   exact oo.away (zAE u15)
  ·obtain ⟨v3,v4,v5,v6,D',ys',rfl,aw,bx,Db',lD,l',oe⟩:=hP
   refine sR f3 ?_;refine#[_,rfl,_,rfl,D',ys',rfl,.inl #[SqL.of lD,λt ht=>#[(by show 2<=eA5;decide),λl hl=>?_]]];have g6:=(UAB ht (.tup ys')).trans (UAB hl (.lst [.ref D',.ref t]));have c6:(upd (upd H' t (.tup ys')) l (.lst [.ref D',.ref t])) t=some (.tup ys'):=UAB hl _ _ _ zA0;have l6:(upd (upd H' t (.tup ys')) l (.lst [.ref D',.ref t])) l=some (.lst [.ref D',.ref t]):=zA0;have tb:t≠b:=(bx.ne ht).symm;have lb:l≠b:=(((bx.same (UAB ht (.tup ys'))).ne hl)).symm;generalize upd (upd H' t (.tup ys')) l (.lst [.ref D',.ref t])=H6 at g6 c6 l6 ⊢;refine#[_,rfl,b,2,rfl,dQ,dQ,bx.same g6,λk H7 k0 k1 b7 t7=>?_];have a7:Away b H' H7:=(zAE g6).trans t7.away;have oe7:∀ v∈ys',OE b H7 v:=λv hv=>(oe v hv).away a7
   obtain ⟨x,hx,ot⟩:∃ x,atI [V.ref D',V.ref t] k=some x/\OTh b H7 x:=by
    have cs:k=0 \/ k=1:=by lia
    rcases cs with rfl|rfl
    ·exact#[_,rfl,.row Db' (.inl (a7 _ _ lD Db')) oe7]
    ·exact#[_,rfl,.row tb (.inr ((t7 t tb).trans c6)) oe7]
   exact#[l,_,_,_,rfl,rfl,SqL.of ((t7 l lb).trans l6),hx,q x H7 b7 (aw.trans a7) ot]
def zIL {xs:List V}:∀ {ys:List V} {m:Nat} {v:V},ZB8 xs ys m=.house v \/ ZB8 xs ys m=.twice v->v∈ys
 | [],m,v,h=>by rcases h with h|h<;>cases h
 | y::r,m,v,h=>by
  unfold ZB8 at h
  cases e:ZAN xs y with
  | none=>
   rw [e] at h
   rcases h with h|h
   ·cases h;exact yAU ..
   ·cases h
  | some i=>
   rw [e] at h
   by_cases c:m.testBit i=true
   ·simp only [c,yDs] at h
    rcases h with h|h
    ·cases h
    ·cases h;exact yAU ..
   ·simp only [c,yCR] at h
    exact yAL _ (zIL h)
structure ToldO (K:Frag)(H:Hp)(xs:List V)(x:V)(r:Option (List V))(tag:Str)(v:V)(d:PyData):Prop where
 row:Row H x r
 th:∀ ys,r=some ys->∀ y∈ys,Th H y
 ok:ZPB tag
 gd:Gd K H v d
 ans:∀ (H0:Hp) (Q:VK),ZOU H0 Q tag v->(r=none->ZOU H0 Q "set" x)/\∀ ys,r=some ys->ZOU H0 Q (ZaF (ZB8 xs ys 0)) (oV (ZB8 xs ys 0))
def zZW:∀ d,ZPB (ZaF d)
 | .told _=>(#[dk,dk]:ZPB "none")
 | .house _=>(#[dk,dk]:ZPB "house")
 | .twice _=>(#[dk,dk]:ZPB "twice")
def zY0 {K:Frag}{b:Addr}{H:Hp}{x:V}(xs:List V)(h:OTh b H x):∃ r tag v d,ToldO K H xs x r tag v d:=by
 obtain ⟨r,hR,h1,h2⟩:=OTh.row_of (K:=K) h
 cases r with
 | none=>
  obtain ⟨d,hd⟩:=h2 rfl;exact#[none,"set",x,d,hR,(λ_ e=>nomatch e),#[dk,dk],hd,λH0 Q a=>#[λ_=>a,λ_ e=>nomatch e]]
 | some ys=>
  have g:=h1 ys rfl;have th:∀ ys',some ys=some ys'->∀ y∈ys',Th H y:=λys' e y hy=>by cases e;exact (g y hy).1
  obtain ⟨d,hd⟩:∃ d,Gd K H (oV (ZB8 xs ys 0)) d:=by
   cases e:ZB8 xs ys 0 with
   | told m=>exact#[_,Gd.non]
   | house v=>exact (g v (zIL (.inl e))).2
   | twice v=>exact (g v (zIL (.inr e))).2
  exact#[some ys,ZaF (ZB8 xs ys 0),oV (ZB8 xs ys 0),d,hR,th,zZW _,hd,λH0 Q a=>#[(λe=>nomatch e),λys' e=>by cases e;exact a]]
inductive Pap (b:Addr)(H:Hp):V->Prop
 | non:Pap b H .non
 | int (i:Int):Pap b H (.int i)
 | str (z:Str):Pap b H (.str z)
 | tup {t:Addr} {vs:List V} (ne:t≠b) (h:H t=some (.tup vs)) (l:vs.length≠2):Pap b H (.ref t)
 | lst {t:Addr} {vs:List V} (ne:t≠b) (h:H t=some (.lst vs)):Pap b H (.ref t)
 | dct {t:Addr} (ne:t≠b) (h:H t=some (.dK [])):Pap b H (.ref t)
 | two {t l:Addr} {z:Str} {ys:List V} (ne:t≠b) (nl:l≠b) (h:H t=some (.tup [.str z,.ref l])) (hl:H l=some (.lst ys)) (w:Wd z) (al:∀ v∈ys,∃ z,v=.str z/\Wd z):Pap b H (.ref t)
theorem Pap.away {b:Addr}{H H':Hp}{v:V}(g:Away b H H')(h:Pap b H v):Pap b H' v:=by
 cases h with
 | non=>exact .non
 | int i=>exact .int i
 | str z=>exact .str z
 | tup ne h l=>exact .tup ne (g _ _ h ne) l
 | lst ne h=>exact .lst ne (g _ _ h ne)
 | dct ne h=>exact .dct ne (g _ _ h ne)
 | two ne nl h hl w al=>exact .two ne nl (g _ _ h ne) (g _ _ hl nl) w al
theorem Pap.sh {K:Frag}{b:Addr}{H:Hp}{y:V}{xs:List V}{ms:List Int}(h:Pap b H y):∃ ry,Row H y ry/\∀ m:Nat,∃ u,ShW K H xs ms (m:Nat) y u:=by
 have no:ZL0 H y=none->∀ m:Nat,∃ u,ShW K H xs ms (m:Nat) y u:=λe m=>#[false,by unfold ShW;rw [e]]
 cases h with
 | non=>exact#[_,.non,no rfl]
 | int i=>exact#[_,.int i,no rfl]
 | str z=>exact#[_,.str z,no rfl]
 | @tup t vs ne h l=>
  have e:ZL0 H (.ref t)=some vs:=by unfold ZL0;simp only [h];rfl
  exact#[_,.tup h,λm=>#[false,by unfold ShW;rw [e];exact .inl #[l,rfl]]]
 | @lst t vs ne h=>
  have e:ZL0 H (.ref t)=none:=by unfold ZL0;simp only [h];rfl
  exact#[_,.lst h,no e]
 | @dct t ne h=>
  have e:ZL0 H (.ref t)=none:=by unfold ZL0;simp only [h];rfl
  exact#[_,.dK h,no e]
 | @two t l z ys ne nl h hl w al=>
  have e:ZL0 H (.ref t)=some [.str z,.ref l]:=by unfold ZL0;simp only [h];rfl
  have el:ZG5 H (.ref l)=some ys:=by unfold ZG5;simp only [hl];rfl
  refine#[_,.tup h,λm=>#[ZO1 ms m (.str z) (ZKE xs (some ys)),?_]];unfold ShW;rw [e];refine .inr #[.str z,.ref l,_,.str z,rfl,.lst hl,λys' e' v hv=>?_,.str z,?_,?_,by rw [el]]
  ·rw [el] at e'
   cases e'
   obtain ⟨z',rfl,w'⟩:=al v hv
   have:=w'.few
   show z'.length<=100000;lia
  ·simp only [PyData.canLay0];exact w.ok
  ·simp only [eAm];lia
def JH4 (CS C:Addr):=∀ b a p xs zs,vs=[.ref b,.ref a,.ref p]->UAG H b->a≠b->H a=some (.lst xs)->UAH CS C H p xs zs->Ord xs zs->ZFY (some xs)=true->xs.length<=9->(∀ H',UAG H' b->Away b H H'->Q (.bl true) H')->JH4 CS C vs H Q E
def zVZ {xs:List V}(h:ZFY (some xs)=true):ZeF xs:=by
 have e0:ZFY (some xs)=(decide (1<=(xs.length:Int))&&decide ((xs.length:Int)<=12)&&(xs.all ZC1&&decide ((ZBW (xs.map λv=>.inr (ZAM v))).length=xs.length))):=rfl;rw [e0,yAN,yAN,yAN] at h;intro v hv c hc;have h3:=yBA.mp h.2.1 v hv
 cases v with
 | str z=>
  have e0:ZC1 (.str z)=((ZDA z 6&&ZGX z LET) && !inV (.str z) (OWN.map V.str)):=rfl;rw [e0,yAN,yAN] at h3;have ha:=h3.1.2;unfold ZGX at ha;exact yAZ (yBA.mp ha c hc)
 | _=>cases h3
theorem UAL:UAC ["_law_box_here","_law_names_here","_law_system","_law_one","_law_papers","_law_lap","_law_thing","_law_paper","_law_due_here","_law_way","_law_told"] ["_law_box_here","_law_names_here","_law_system"] (ZA4 zCG):=by trivial
def zTG (F:Fun K "_law_odd_right" "_law_odd_right" zCG f fd)(T:Txt mg)(D1:Df 1 "_law_take" ["_law_box_here","_law_many"] JC2 a1 d1)
  (D2:Df 3 "_law_odd_thing" ["_law_box_here","_law_names_here"] JH3 a2 d2) (D3:Df 1 "_law_odd_due" ["_law_names_here","_law_thing"] JG9 a3 d3) (D4:Df 11 "_law_refused" ["_law_system","_law_way","_law_thing","_law_paper"] (JH2 K CS C) a4 d4) :
  Fk 12 f fd ["_law_box_here","_law_names_here","_law_system"] (JH4 CS C):=by
 refine fk F.okH UAL;obtain ⟨b,a,p,xs,zs,rfl,hb,nab,ha,hS,hO,are,n9,q⟩:=h;have hr1:Room 1 _:=hr.mono dQ;have hr3:Room 3 _:=hr.mono dQ;have hG:=hO.gn;have hL:=zVZ are;have hlo:=hG.lo;have hhi:=hG.hi;have s1000:100000<=eA5:=by decide
 refine#[_,zIX (PS1.mk (kS9 3 UAL (zBF zAJ (pv 1) (kq D1 hr1 #v[(pv 0),(kL9 (pv 1))]) (λ_ _=>rfl))))
  (zJF (i:=4) rfl UAL.nd rfl (Or.inl rfl) (zAI zYW (zAI zT6 (zAI (zH6 zC2) (zAI (zH6 (zAI zGM zC2)) (zAI (zH6 (zAI zGM (zAI (zFC zC2) zC2))) (zAI (zFC zC2) (zAI (zH6 (zAI zGM (zAI (zFC zC2) zC2))) (zAI zGM (zAI zSQ (zAI (zH6 (zAI zGM (zAI (zFC (zAI (PEH.mk (pv 3)) zC2)) zC2))) zC2))))))))))
  (zA1 (zBK eAx rfl (zBG rfl T.range #v[zA5]) (kG9 5 UAL)
   (zA1 (kS9 6 UAL (kq D2 hr3 #v[(pv 0),(pv 1)]))
   (zA1 (kS9 7 UAL (zBF zAJ (pv 4) (kq D1 hr1 #v[(pv 0),zA5]) (λ_ _=>rfl)))
   (zA1 (kS9 8 UAL (kq D3 hr1 #v[(pv 1),(pv 6)]))
   (zA2 (zBK eAx rfl (zBG rfl T.range #v[zA5]) (kG9 9 UAL)
    (zA1 (kS9 10 UAL (kq D4 hr #v[(pv 2),(pv 9),(pv 6),(pv 7)]))
    (zA2 (zAK (zA9 zR6 (zAD (zI7 hr) rfl T.repr PyProof.Rows.boot_repr #v[(pv 10)]) (zAD (zI7 hr) rfl T.repr PyProof.Rows.boot_repr #v[(pv 8)]) (zAB _)) (zA2 (zA7 zC0)) zA8)))))))))
  (zA2 (zA7 zC0)))),?_]
 refine#[_,rfl,_,rfl,_,rfl,a,xs,rfl,.inl (SqL.of ha),b,_,rfl,oz,oz,hb,λj1 H1 j10 j11 b1 tt1=>?_];have ha1:=(tt1 a nab).trans ha;obtain ⟨i1,rfl⟩:∃ i1:Nat,j1=i1:=#[j1.toNat,oz];obtain ⟨z1,ez1,wz1,z16⟩:=Wd.name hG (yAi (l:=xs) (n:=i1) oz)
 have h1:atI xs (i1:Int)=some (.str z1):=by
  have q:atI xs (i1:Int)=some xs[i1]:=zCE (yAB oz);rw [ez1] at q;exact q
 refine#[a,_,_,_,rfl,rfl,SqL.of ha1,h1,?_];refine#[(by show 0<=eA5;decide),λt1 ht1=>?_];have gt1:=UAB ht1 (.tup []);have ct1:(upd H1 t1 (.tup [])) t1=some (.tup []):=zA0;have t1b:t1≠b:=(b1.ne ht1).symm;generalize upd H1 t1 (.tup [])=P1 at gt1 ct1 ⊢;have ggt1:=gt1;refine#[(by show 1<=eA5;decide),λt2 ht2=>?_];have gt2:=UAB ht2 (.tup [.str "stands"]);have ct2:(upd P1 t2 (.tup [.str "stands"])) t2=some (.tup [.str "stands"]):=zA0;have t2b:t2≠b:=((b1.same ggt1).ne ht2).symm;generalize upd P1 t2 (.tup [.str "stands"])=P2 at gt2 ct2 ⊢;have ggt2:=ggt1.trans gt2;refine#[(by show 0<=eA5;decide),λl3 hl3=>?_];have gl3:=UAB hl3 (.lst []);have cl3:(upd P2 l3 (.lst [])) l3=some (.lst []):=zA0;have l3b:l3≠b:=((b1.same ggt2).ne hl3).symm;generalize upd P2 l3 (.lst [])=P3 at gl3 cl3 ⊢;have ggl3:=ggt2.trans gl3;refine#[(by show 2<=eA5;decide),λt3 ht3=>?_];have gt3:=UAB ht3 (.tup [.str "x",.ref l3]);have ct3:(upd P3 t3 (.tup [.str "x",.ref l3])) t3=some (.tup [.str "x",.ref l3]):=zA0;have t3b:t3≠b:=((b1.same ggl3).ne ht3).symm;generalize upd P3 t3 (.tup [.str "x",.ref l3])=P4 at gt3 ct3 ⊢;have ggt3:=ggl3.trans gt3;refine#[(by show 0<=eA5;decide),λl4 hl4=>?_];have gl4:=UAB hl4 (.lst []);have cl4:(upd P4 l4 (.lst [])) l4=some (.lst []):=zA0;have l4b:l4≠b:=((b1.same ggt3).ne hl4).symm;generalize upd P4 l4 (.lst [])=P5 at gl4 cl4 ⊢;have ggl4:=ggt3.trans gl4;refine#[(by show 0<=eA5;decide),λl5 hl5=>?_];have gl5:=UAB hl5 (.lst []);have cl5:(upd P5 l5 (.lst [])) l5=some (.lst []):=zA0;have l5b:l5≠b:=((b1.same ggl4).ne hl5).symm;generalize upd P5 l5 (.lst [])=P6 at gl5 cl5 ⊢;have ggl5:=ggl4.trans gl5;refine#[(by show 2<=eA5;decide),λt5 ht5=>?_];have gt5:=UAB ht5 (.tup [.str "stands",.ref l5]);have ct5:(upd P6 t5 (.tup [.str "stands",.ref l5])) t5=some (.tup [.str "stands",.ref l5]):=zA0;have t5b:t5≠b:=((b1.same ggl5).ne ht5).symm;generalize upd P6 t5 (.tup [.str "stands",.ref l5])=P7 at gt5 ct5 ⊢;have ggt5:=ggl5.trans gt5;intro d6 hd6;have gd6:=UAB hd6 (.dK []);have cd6:(upd P7 d6 (.dK [])) d6=some (.dK []):=zA0;have d6b:d6≠b:=((b1.same ggt5).ne hd6).symm;generalize upd P7 d6 (.dK [])=P8 at gd6 cd6 ⊢;have ggd6:=ggt5.trans gd6;refine#[_,rfl,?_];refine#[(by show 1<=eA5;decide),λl7 hl7=>?_];have gl7:=UAB hl7 (.lst [.str z1]);have cl7:(upd P8 l7 (.lst [.str z1])) l7=some (.lst [.str z1]):=zA0;have l7b:l7≠b:=((b1.same ggd6).ne hl7).symm;generalize upd P8 l7 (.lst [.str z1])=P9 at gl7 cl7 ⊢;have ggl7:=ggd6.trans gl7;refine#[(by show 2<=eA5;decide),λt7 ht7=>?_];have gt7:=UAB ht7 (.tup [.str "falls",.ref l7]);have ct7:(upd P9 t7 (.tup [.str "falls",.ref l7])) t7=some (.tup [.str "falls",.ref l7]):=zA0;have t7b:t7≠b:=((b1.same ggl7).ne ht7).symm;generalize upd P9 t7 (.tup [.str "falls",.ref l7])=P10 at gt7 ct7 ⊢;have ggt7:=ggl7.trans gt7;refine#[(by show 10<=eA5;decide),λL8 hL8=>?_];have gL8:=UAB hL8 (.lst [.non,.int 7,.ref t1,.ref t2,.ref t3,.ref l4,.ref t5,.str "falls",.ref d6,.ref t7]);have cL8:(upd P10 L8 (.lst [.non,.int 7,.ref t1,.ref t2,.ref t3,.ref l4,.ref t5,.str "falls",.ref d6,.ref t7])) L8=some (.lst [.non,.int 7,.ref t1,.ref t2,.ref t3,.ref l4,.ref t5,.str "falls",.ref d6,.ref t7]):=zA0;have L8b:L8≠b:=((b1.same ggt7).ne hL8).symm;generalize upd P10 L8 (.lst [.non,.int 7,.ref t1,.ref t2,.ref t3,.ref l4,.ref t5,.str "falls",.ref d6,.ref t7])=P11 at gL8 cL8 ⊢;have ggL8:=ggt7.trans gL8;have kL:=cL8;have sL8:=Same.refl P11;have st7:=gL8.trans sL8;have sl7:=gt7.trans st7;have sd6:=gl7.trans sl7;have st5:=gd6.trans sd6;have sl5:=gt5.trans st5;have sl4:=gl5.trans sl5;have st3:=gl4.trans sl4;have sl3:=gt3.trans st3;have st2:=gl3.trans sl3;have st1:=gt2.trans st2
 have pap:∀ v∈[V.non,.int 7,.ref t1,.ref t2,.ref t3,.ref l4,.ref t5,.str "falls",.ref d6,.ref t7],Pap b P11 v:=by
  have wd:∀ {z:Str},eAq z=true->z.length<=20->Wd z:=λa b=>#[a,b];intro v hv;simp only [yAf,yBp,yDa] at hv
  rcases hv with rfl|rfl|rfl|rfl|rfl|rfl|rfl|rfl|rfl|rfl
  ·exact .non
  ·exact .int 7
  ·exact .tup t1b (st1 _ _ ct1) dQ
  ·exact .tup t2b (st2 _ _ ct2) dQ
  ·exact .two t3b l3b (st3 _ _ ct3) (sl3 _ _ cl3) #[dk,dk] (λ_ h=>nomatch h)
  ·exact .lst l4b (sl4 _ _ cl4)
  ·exact .two t5b l5b (st5 _ _ ct5) (sl5 _ _ cl5) #[dk,dk] (λ_ h=>nomatch h)
  ·exact .str _
  ·exact .dct d6b (sd6 _ _ cd6)
  ·exact .two t7b l7b (st7 _ _ ct7) (sl7 _ _ cl7) #[dk,dk] (λv hv=>#[z1,yAE.mp hv,wz1])
 have bE:=b1.same ggL8;have aE:Away b H P11:=tt1.away.trans (zAE ggL8);clear st7 gt7 ct7 sl7 gl7 cl7 sd6 gd6 cd6 st5 gt5 ct5 sl5 gl5 cl5 sl4 gl4 cl4 st3 gt3 ct3 sl3 gl3 cl3 st2 gt2 ct2 st1 gt1 ct1 sL8;have kn:([.non,.int 7,.ref t1,.ref t2,.ref t3,.ref l4,.ref t5,.str "falls",.ref d6,.ref t7]:List V).length=10:=rfl;generalize ([.non,.int 7,.ref t1,.ref t2,.ref t3,.ref l4,.ref t5,.str "falls",.ref d6,.ref t7]:List V)=ps at kL pap kn ⊢;generalize P11=HE at kL pap bE aE ⊢;refine#[3,rfl,dQ,dQ,?_];refine zCD (lo:=0) (λ_ σ H'=>∃ v5 v6 v7 v8 v9 v10,σ=[some (.ref b),some (.ref a),some (.ref p),some (.str z1),some (.ref L8),v5,v6,v7,v8,v9,v10]/\Away b H H'/\UAG H' b/\H' L8=some (.lst ps)/\∀ v∈ps,Pap b H' v) #[_,_,_,_,_,_,rfl,aE,bE,kL,pap] (λlap σ H' hi hP=>?_) (λσ H' hP=>?_)
 ·obtain ⟨v5,v6,v7,v8,v9,v10,rfl,aw,bx,lL,pp⟩:=hP
  refine#[_,rfl,_,rfl,b,a,xs,rfl,bx,nab,aw _ _ ha nab,hG,hL,λx HF bF awF oth=>?_];have lF:=awF _ _ lL L8b;refine#[_,rfl,_,rfl,b,10,rfl,dQ,dQ,bF,λj HG j0 j1 bG tG=>?_];obtain ⟨i2,rfl⟩:∃ i2:Nat,j=i2:=#[j.toNat,oz];have i2l:i2<ps.length:=by lia
  have hy:atI ps (i2:Int)=some ps[i2]:=zCE (yAB i2l);have ym:ps[i2]∈ps:=yAi i2l;generalize ps[i2]=y at hy ym;have awG:=awF.trans tG.away;refine#[L8,ps,_,y,rfl,rfl,SqL.of ((tG L8 L8b).trans lF),hy,?_];have py:=(pp y ym).away awG;obtain ⟨r,tag,v,d,TO⟩:=zY0 (K:=K) xs (oth.away tG.away);obtain ⟨ry,rowY,shY⟩:=py.sh (K:=K) (xs:=xs) (ms:=zs);have aG:=awG _ _ (aw _ _ ha nab) nab;have sG:UAH CS C HG p xs zs:=hS.away hb (aw.trans awG);refine#[_,rfl,_,rfl,a,x,xs,r,rfl,aG,hG.str,hG.nd,hG.hi,TO.row,TO.th,TO.ans _ _ λrd HD gD _ cD=>?_];refine#[2,rfl,dQ,dQ,?_];refine zCD (lo:=0) (λi σ H'=>∃ v9 v10,σ=[some (.ref b),some (.ref a),some (.ref p),some (.str z1),some (.ref L8),some (.int (0+(lap:Nat))),some x,some y,some (.ref rd),v9,v10]/\Same HD H') #[_,_,rfl,Same.refl _] (λi' σ H2 hi' hP=>?_) (λσ H2 hP=>?_)
  ·obtain ⟨v9,v10,rfl,g2⟩:=hP
   have gg:=gD.trans g2;refine#[_,rfl,_,rfl,_,rfl,_,rfl,p,_,x,y,xs,zs,r,ry,rfl,oz,sG.same gg,hO,are,n9,TO.row.same gg,(λys e y hy=>(TO.th ys e y hy).mono gg),rowY.same gg,(λm=>let ⟨u,hu⟩:=shY m;#[u,hu.mono gg rowY]),TO.ans _ _ λrt HT gT _ cT=>?_];have gT':=gg.trans gT;refine#[_,rfl,.mk (TO.gd.rx gT' TO.ok cT ?_)];refine#[_,rfl,.mk (TO.gd.rx gT' TO.ok (gT _ _ (g2 _ _ cD)) ?_)];refine#[rfl,_,rfl,?_];rw [show (!decide (V.str (ZM1 tag d).shown=V.str (ZM1 tag d).shown))=false by simp];exact zAY #[_,_,rfl,g2.trans gT]
  ·obtain ⟨v9,v10,rfl,g2⟩:=hP
   have gg:=gD.trans g2;have awE:=awG.trans (zAE (b:=b) gg);exact#[_,_,_,_,_,_,rfl,aw.trans awE,bG.same gg,awE _ _ lL L8b,λv hv=>(pp v hv).away awE]
 ·obtain ⟨v5,v6,v7,v8,v9,v10,rfl,aw,bx,lL,pp⟩:=hP
  exact q _ bx aw
def JH5 (K:Frag):=∀ (a:Addr) (ns:List Int),vs=[.ref a]->SqL K H a (ns.map V.int)->ns.length<=63->(∀ H',Q (.bl true) H')->JH5 K vs H Q E
theorem UAW:UAC ["_law_script","_law_k","_law_box_here","_law_names_here","_law_masks_here","_law_system","_law_last","_law_other_here","_law_fallen","_law_some","_law_handed_here","_law_told","_law_fresh","_law_twin"] ["_law_script"] (ZA4 zUJ):=by trivial
def zbJ (F:Fun K "law" "law" zUJ f fd)(T:Txt mg)(mx:mg "max"=none)(mn:mg "min"=none)(mt:mg "tuple"=none)
  (DC:Df 1 "_law_cell" ["_law_script","_law_k"] (JC0 K) c1 e1) (DB:Df 1 "_law_box" ["_law_cell_here"] JC1 c2 e2) (DT:Df 1 "_law_take" ["_law_box_here","_law_many"] JC2 c3 e3) (DX:Df 2 "_law_mixed" ["_law_box_here","_law_some"] JC7 c4 e4)
  (DS:Df 1 "_law_set" ["_law_names_here","_law_mask"] (JC6 K) c5 e5) (DO:Df 6 "_law_other" ["_law_masks_here","_law_many"] (JE5 K) c6 e6) (DD:Df 8 "_law_drawn" ["_law_box_here"] (JE6 CS C) c7 e7)
  (DU:Df 5 "_law_due" ["_law_names_here","_law_masks_here","_law_other_here","_law_fallen"] (JG3 K) c8 e8) (DR:Df 12 "_law_odd_right" ["_law_box_here","_law_names_here","_law_system"] (JH4 CS C) c9 e9)
  (DY:Df 10 "_law_beside" ["_law_box_here","_law_names_here","_law_masks_here","_law_other_here","_law_system"] (JG8 CS C) c10 e10) (DZ:Df 10 "settled" ["system","fallen"] (JG2 CS C) c11 e11)
  (MS:Mk K CS fS) (OS:Fk 6 fS dS' ["self","houses","lots"] (JB6 CS C)) (bS:UAD K dS' ["self","houses","lots"] []) (mS:mg "System"=some (.ref CS)):Fk 13 f fd ["_law_script"] (JH5 K):=by
 refine fk F.ok UAW;obtain ⟨a,ns,rfl,hS,h63,q⟩:=h;have hr1:Room 1 _:=hr.mono dQ;have hr2:Room 2 _:=hr.mono dQ;have hr5:Room 5 _:=hr.mono dQ;have hr6:Room 6 _:=hr.mono dQ;have hr7:Room 7 _:=hr.mono dQ;have hr8:Room 8 _:=hr.mono dQ;have hr10:Room 10 _:=hr.mono dQ
 refine#[_,(zA1 (zBK eAx rfl (zBG rfl T.range #v[(zAD (zJK rfl) rfl mx PyProof.Rows.boot_max #v[zA5,(zAD (zQY rfl) rfl mn PyProof.Rows.boot_min #v[(kL9 (pv 0)),zA5])])]) (kG9 1 UAW)
   (zA1 (zE7 (i:=2) UAW.nd rfl (Or.inr rfl) (kq DB hr1 #v[(kq DC hr1 #v[(pv 0),(pv 1)])]))
   (zA1 (zKP (kq DD hr8 #v[(pv 2)]) (zYH rfl (zBJ (kG9 3 UAW) (zBJ (kG9 4 UAW) (zBJ (kG9 5 UAW) zFP)))))
   (zA1 (zE7 (i:=6) UAW.nd rfl (Or.inr rfl) (zAC zKB (zAC zDF zA5 (kL9 (pv 3))) zA5))
   (zA1 (kS9 7 UAW (kq DO hr6 #v[(pv 4),(kL9 (pv 3))]))
   (zA1 (zBK eAx rfl (zB2 (zAC zQ9 (zAQ (xs:=["_law_j"]) (fv:=[("_law_box_here",2),("_law_last",6)]) rfl dk #[#[rfl,Or.inl rfl,rfl],#[rfl,Or.inl rfl,rfl],trivial] (zBG rfl T.range #v[(zAC zCU zA5 (kq DT hr1 #v[(pv 2),zA5]))]) (λ_ _ _ _ _=>zAG (i:=0) (ndT dk) rfl (Or.inl rfl)) (λ_ _ _ _ _=>zBD) (λ_ _ _ _ _=>(kq DT hr1 #v[(pv 1),(zAC zCU (pv 2) zA5)]))) (zB1 #v[(pv 6),zA5]))) (kG9 8 UAW)
    (zA1 (kS9 9 UAW (kq DX hr2 #v[(pv 2),(kq DS hr1 #v[(pv 3),(pv 8)])]))
    (zA1 (kS9 10 UAW (zBF zAJ (zB1 #v[(pv 9),(zB6 zBA rfl mt yAx #v[(pv 9)])]) (kq DT hr1 #v[(pv 2),zA5]) (λ_ _=>rfl)))
    (zA1 (kS9 11 UAW (kq DZ hr10 #v[(pv 5),(pv 10)]))
    (zA1 (zAK (PW.pt (zGR (zBH (zB4 (zAD zBM rfl T.inst yAn #v[(pv 11),(zB3 (v:=.ty "tuple") rfl mt yAx rfl)]))) (zGR (zA9 (zFZ hr) (pv 11) (kq DU hr5 #v[(pv 3),(pv 4),(pv 7),(pv 8)]) (zAB _)) (zE9 (zA9 (zFZ hr) (zB6 zDM rfl T.list yBQ #v[(pv 10)]) (pv 9) (zAB _)))))) (zA2 (zA7 zC0)) zA8)
    (zA1 (zBC (zH4 yBU yBY yBX zBN (zBF zF1 (pv 11) zA5 (λ_ _=>rfl)) #v[zAL]))
    (zA1 (zE7 (i:=12) UAW.nd rfl (Or.inr rfl) (zD9 zH8 (zAQ (xs:=["_law_sign"]) (fv:=[]) rfl dk trivial (zRP zAL) (λ_ _ _ _ _=>zAG (i:=0) (ndT dk) rfl (Or.inl rfl)) (λ_ _ _ _ _=>zBD) (λ_ _ _ _ _=>zAC zC8 (zAC zC8 zAL (pv 0)) zAL)) zDD (zDR (kL9 (pv 3)))))
    (zA1 (kS9 13 UAW (zGP MS OS hr7 rfl mS bS .nil zAT #v[(pv 12),(zAQ (xs:=["_law_mask"]) (fv:=[("_law_fresh",12)]) rfl dk #[#[rfl,Or.inl rfl,rfl],trivial] (zB2 (pv 4)) (λ_ _ _ _ _=>zAG (i:=0) (ndT dk) rfl (Or.inl rfl)) (λ_ _ _ _ _=>zBD) (λ_ _ _ _ _=>(kq DS hr1 #v[(pv 1),(pv 0)])))]))
    (zA1 (zAK (zA9 (zFZ hr) (kq DZ hr10 #v[(pv 13),(kq DS hr1 #v[(pv 12),(pv 8)])]) (kq DU hr5 #v[(pv 12),(pv 4),(pv 7),(pv 8)]) (zAB _)) (zA2 (zA7 zC0)) zA8)
    (zA1 (zAK (zA9 (zFZ hr) (kq DZ hr10 #v[(pv 5),(pv 10)]) (kq DU hr5 #v[(pv 3),(pv 4),(pv 7),(pv 8)]) (zAB _)) (zA2 (zA7 zC0)) zA8)
    (zA2 (zAK (PW.pt (zEC (zA9 zC3 (kq DT hr1 #v[(pv 2),zA5]) zA5 (zAB _)) (zD6 (zBH (zB4 (kq DY hr10 #v[(pv 2),(pv 3),(pv 4),(pv 7),(pv 5)])))))) (zA2 (zA7 zC0)) zA8))))))))))))
   (zA2 (zAK (zBH (zB4 (kq DR hr #v[(pv 2),(pv 3),(pv 5)]))) (zA2 (zA7 zC0)) zA8))))))))
  (zA2 (zA7 zC0))),?_]
 have s1000:100000<=eA5:=by decide
 refine#[_,rfl,a,_,rfl,.inl hS,_,_,rfl,_,_,rfl,_,rfl,?_,?_,?_]
 ·split<;>(try split)<;>(try simp only [yAA])<;>lia
 ·split<;>(try split)<;>(try simp only [yAA])<;>lia
 refine zCD (lo:=0) (λi σ H'=>∃ v1 v2 v3 v4 v5 v6 v7 v8 v9 v10 v11 v12 v13,σ=[some (.ref a),v1,v2,v3,v4,v5,v6,v7,v8,v9,v10,v11,v12,v13]/\Same H H') #[_,_,_,_,_,_,_,_,_,_,_,_,_,rfl,Same.refl H] (λlap σ H' hi hP=>?_) (λσ H' hP=>q H')
 ·refine gNs (sH λC1 f1=>?_)
  obtain ⟨v1,v2,v3,v4,v5,v6,v7,v8,v9,v10,v11,v12,v13,rfl,g⟩:=hP;refine#[_,rfl,_,rfl,a,ns,_,rfl,g.seq hS,oz,λn=>#[n,rfl,λb H2 g2 hb hb2=>?_]];have hbH:H b=none:=g.free hb;have fin:∀ H9,Away b H2 H9->Same H H9:=λH9 aw c o hc=>aw c o (g2 _ _ (g _ _ hc)) (zA3 hc hbH);refine gNs (sR f1 (sH λC2 f2=>?_));refine#[_,rfl,b,rfl,hb2,λrr nn MM pp H6 xs ms zs dw=>?_];obtain ⟨rb,nmb,Mb,top,nmA,are,h8,MA,h22,ok,sys,pz,O,bx6,aw6⟩:=dw;have hG:=zF3 are;have n12:=hG.hi;have n1:=hG.lo;refine#[rr,_,rfl,SqL.of top,rfl,?_];refine#[_,_,rfl,_,_,rfl,_,_,rfl,rfl,?_];have hsh:ZXA 1 (xs.length:Int):=#[ oz,oz,dQ];refine sR f2 (sH λC3 f3=>?_);refine#[_,rfl,nn,xs,rfl,.inl (SqL.of nmA),_,_,rfl,rfl,hsh,_,_,rfl,rfl,?_];dsimp only;rw [zV8];have p2:2^xs.length<=256:=yAu (n:=2) dQ h8;have p0:0<2^xs.length:=eAw _;have pc:((2^xs.length:Nat):Int)=(2:Int)^xs.length:=by norm_cast
  refine gNs (sR f3 (sH λC4 f4=>?_));refine#[_,rfl,_,rfl,nn,xs,rfl,.inl (SqL.of nmA),MM,xs.length,ms,rfl,oz,.inl (SqL.of MA),by rw [MA];simp,oz,λOO H7 os hO7 g7 lO LO=>?_];have oko:=zGC LO.pm;have po:=zMV n12 ok.ok pz LO;have OOb:OO≠b:=(bx6.ne hO7).symm
  have los:os.length<=256:=by
   rw [po.length_eq];have h1:=zDC (ZHH xs.length (ZAU zs)) (2^xs.length);lia
  have bx7:=bx6.same g7;have sys7:=sys.same g7;have nm7:=g7 _ _ nmA;have M7:=g7 _ _ MA;have aw7:Away b H2 H7:=aw6.trans (zAE g7);clear g7 nmA MA top sys bx6 aw6;refine gNs (sR f4 (sfH λbd eb C5 f5=>?_));refine#[_,rfl,b,9,rfl,dQ,dQ,bx7,λj1 H8 j10 j11 b8 t8=>?_];refine#[_,_,rfl,rfl,_,rfl,oz,oz,?_];refine zE5 (λi D H'=>Away b H7 H'/\UAG H' b/\D≠b/\∃ fs,H' D=some (.lst (IV fs))/\fs.length=i/\∀ m∈fs,0<=m/\m<(2:Int)^xs.length) (λD hD=>?_) (λi D H' hD hi hP=>?_) (λDF H9 hDF hP=>?_)
  ·exact#[t8.away.trans (zAE (UAB hD _)),b8.same (UAB hD _),(b8.ne hD).symm,[],zA0,rfl,λ_ h=>nomatch h]
  ·obtain ⟨aw,bx,nb,fs,lD,lf,okf⟩:=hP
   refine#[rfl,?_];unfold ZHP
   (try dsimp only)
   rw [yAS rfl];refine#[_,rfl,_,rfl,_,_,rfl,rfl,b,_,rfl,oz,oz,bx,λr HA r0 r1 bA tA=>?_];have hD7:H7 D=none:=t8.away.free b8 hD;refine#[_,(tA D nb).trans lD,by unfold IV;rw [yAA];lia,λc o hc ne=>?_,bA.same2 nb.symm,nb,fs++[r],by rw [zA0];unfold IV;rw [yAQ];rfl,by rw [yAV,lf];rfl,λm hm=>?_]
   ·rw [zA6 (zA3 hc hD7)];exact tA.away _ _ (aw _ _ hc ne) ne
   ·rcases yAb.mp hm with z|z
    ·exact okf m z
    ·rw [yAE.mp z]
     exact#[r0,oz]
  obtain ⟨aw9,bx9,DFb,fs,lF,lfs,okf⟩:=hP;refine#[_,rfl,(by show 2<=eA5;decide),λL hL=>?_];obtain ⟨HL,gL,cL,e0⟩:=zCM hL (.lst [.int ((2^xs.length-1:Nat):Int),.int 0]);rw [e0];clear e0;refine#[_,_,_,_,rfl,rfl,gL _ _ lF,cL,by unfold IV;rw [yAA];show fs.length+2<=_;lia,λFL hFL=>?_];have eI:IV fs++[V.int ((2^xs.length-1:Nat):Int),.int 0]=IV (fs++[((2^xs.length-1:Nat):Int),0]):=by unfold IV;rw [yAQ];rfl
  rw [eI];have gM:=UAB hFL (.lst (IV (fs++[((2^xs.length-1:Nat):Int),0])));have cM:(upd HL FL (.lst (IV (fs++[((2^xs.length-1:Nat):Int),0])))) FL=some (.lst (IV (fs++[((2^xs.length-1:Nat):Int),0]))):=zA0
  have okF:∀ m∈fs++[((2^xs.length-1:Nat):Int),0],0<=m/\m<(2:Int)^xs.length:=λm hm=>by
   rcases yAb.mp hm with z|z
   ·exact okf m z
   ·simp only [yAf,yBp,yDa] at z
    rcases z with rfl|rfl
    ·exact#[ oz,oz]
    ·exact#[ oz,oz]
  have FLb:FL≠b:=((bx9.same gL).ne hFL).symm;generalize fs++[((2^xs.length-1:Nat):Int),0]=FF at gM cM okF ⊢;generalize upd HL FL (.lst (IV FF))=HM at gM cM ⊢;have awM:Away b H7 HM:=(aw9.trans (zAE gL)).trans (zAE gM);have bxM:=(bx9.same gL).same gM;have nmM:=awM _ _ nm7 nmb;have MM':=awM _ _ M7 Mb;have OOM:=awM _ _ lO OOb;have sysM:UAH CS C HM pp xs zs:=sys7.away bx7 awM;have awT:Away b H2 HM:=aw7.trans awM;clear gL cL gM lF lfs okf aw9 bx9 hL hFL hDF eI lO M7 nm7 sys7 awM t8 b8 bx7 aw7 DFb;refine#[FL,rfl,?_];refine zC5 (K:=K) (ys:=IV FF) (.inl (SqL.of cM)) (λ_ σ H'=>∃ v8 v9 v10 v11 v12 v13,σ=[some (.ref a),some (.int (0+(lap:Nat))),some (.ref b),some (.ref nn),some (.ref MM),some (.ref pp),some (.int ((2^xs.length-1:Nat):Int)),some (.ref OO),v8,v9,v10,v11,v12,v13]/\Away b HM H'/\UAG H' b) #[_,_,_,_,_,_,rfl,Away.refl _,bxM] (λi σ H' hP=>?_) (λi σ H' x hi hx hP=>?_) (λσ H' hP=>?_)
  ·obtain ⟨_,_,_,_,_,_,_,aw,_⟩:=hP
   exact λo e=>aw FL o e FLb
  ·refine gNs (sR eb (dH λD0 eD=>sH λB1 e1=>?_))
   obtain ⟨v8,v9,v10,v11,v12,v13,rfl,aw,bx⟩:=hP;obtain ⟨m,hm,rfl⟩:=yAr.mp (yAk hx);obtain ⟨m0,m1⟩:=okF m hm;have nm1:=aw _ _ nmM nmb;have MM1:=aw _ _ MM' Mb;have OO1:=aw _ _ OOM OOb;have sys1:UAH CS C H' pp xs zs:=sysM.away bxM aw;refine#[_,rfl,_,rfl,_,rfl,nn,xs,m,rfl,.inl (SqL.of nm1),n12,m0,m1,λS1 Ha hS1 ga la=>?_];have stm:=zBY hG m0 m1;refine#[b,S1,_,rfl,bx.same ga,la,yAp (zDB xs m) dQ,stm.plain,λS Hb ys hSS lb pm bb ab=>?_];have awb:Away b H' Hb:=(zAE ga).trans ab;have Sb:S≠b:=((bx.same ga).ne hSS).symm;have stY:Strs ys:=λv hv=>stm v (pm.mem_iff.mp hv);have ly:ys.length<=12:=by rw [pm.length_eq];exact zDB xs m
   refine gNs (sR e1 (sH λB2 e2=>?_));refine#[_,rfl,_,rfl,S,ys,rfl,.inl #[SqL.of lb,λt ht=>#[(by show 2<=eA5;decide),λl hl=>?_]]];have gc:=(UAB ht (.tup ys)).trans (UAB hl (.lst [.ref S,.ref t]));have ct:(upd (upd Hb t (.tup ys)) l (.lst [.ref S,.ref t])) t=some (.tup ys):=UAB hl _ _ _ zA0;have cl:(upd (upd Hb t (.tup ys)) l (.lst [.ref S,.ref t])) l=some (.lst [.ref S,.ref t]):=zA0;have tb:t≠b:=(bb.ne ht).symm;have lb':l≠b:=(((bb.same (UAB ht (.tup ys))).ne hl)).symm;generalize upd (upd Hb t (.tup ys)) l (.lst [.ref S,.ref t])=Hc at gc ct cl ⊢;refine#[_,rfl,b,2,rfl,dQ,dQ,bb.same gc,λk Hd k0 k1 bd td=>?_];have awd:Away b H' Hd:=(awb.trans (zAE gc)).trans td.away;have lS:=(td S Sb).trans (gc _ _ lb)
   obtain ⟨r,hx,hr'⟩:∃ r,atI [V.ref S,V.ref t] k=some (.ref r)/\(Hd r=some (.lst ys) \/ Hd r=some (.tup ys)):=by
    have cs:k=0 \/ k=1:=by lia
    rcases cs with rfl|rfl
    ·exact#[S,rfl,.inl lS]
    ·exact#[t,rfl,.inr ((td t tb).trans ct)]
   have rowr:Row Hd (.ref r) (some ys):=hr'.elim .lst .tup;have sett:UAQ Hd (.ref r) xs m:=UAQ.of_perm hG m0 m1 rowr pm;have nmd:=awd _ _ nm1 nmb;have MMd:=awd _ _ MM1 Mb;have OOd:=awd _ _ OO1 OOb;have sysd:UAH CS C Hd pp xs zs:=sys1.away bx awd;have awD:Away b HM Hd:=aw.trans awd;refine#[l,_,_,_,rfl,rfl,SqL.of ((td l lb').trans cl),hx,?_];have hrr:=hr';clear gc ct cl hr' lb' tb td bb ab ga la lb awb ht hl aw awd hx k0 k1 nm1 MM1 OO1 sys1 bx hSS hS1 hi;have due:∃ w l,ZZ3 zs os m w l:=zWM O po m0 m1;have sDec:zHR zs:=O.ord;refine gNs (sR e2 (sH λB3 e3=>?_));refine#[_,rfl,_,rfl,pp,.ref r,xs,zs,m,rfl,sysd,O,are,oz,sett,m0,m1,λw1 l1 t1 D1 He q1 l10 l11 ge ht1 hD1 ct1 cD1=>?_];have st1:=zBY hG l10 l11;refine gNs (sR e3 (sH λB4 e4=>?_));refine#[_,rfl,.ref t1,.type "tuple","tuple",true,rfl,.tup ct1,rfl,_,rfl,zAY ?_];refine#[_,rfl,_,rfl,_,rfl,_,rfl,_,rfl,nn,MM,OO,xs,ms,zs,os,m,rfl,ge _ _ nmd,hG,.inl (SqL.of (ge _ _ MMd)),oz,ok.ok,pz,sDec,.inl (SqL.of (ge _ _ OOd)),oz,oko,due,λw2 l2 t2 D2 Hf d2 l20 l21 gf ht2 hD2 ct2 cD2=>?_];obtain ⟨rfl,rfl⟩:=zLV O po LO.so m0 m1 q1 d2;refine zFJ (zQS d2) st1 (gf _ _ ct1) (gf _ _ cD1) ct2 cD2 #[_,rfl,zAY ?_];have gdf:=ge.trans gf;refine#[_,rfl,r,ys,rfl,?_,λl3 hl3=>?_]
   ·rcases hrr with h|h
    ·exact .inl (SqL.of (gdf _ _ h))
    ·exact .inr (SqT.of (gdf _ _ h))
   obtain ⟨Hg,g3,c3,e0⟩:=zCM hl3 (.lst ys);rw [e0];clear e0;refine#[_,rfl,zK9 stY stY c3 ((gdf.trans g3) _ _ lS) #[_,rfl,?_]];rw [yAS rfl,yAJ rfl];refine zAY ?_;have gfg:=gf.trans g3;refine sR e4 (sH λB5 e5=>?_);refine#[_,rfl,t1,_,1,.ref D1,rfl,rfl,SqT.of (gfg _ _ ct1),rfl,.inl #[rfl,_,SqL.of (gfg _ _ cD1)],D1,_,_,rfl,rfl,gfg _ _ cD1,by have:=zDB xs l1;lia,?_];have gh:Same Hd (upd Hg D1 (.lst (ZBT xs l1++[.str "none"]))):=λc o hc=>by rw [zA6 (zA3 hc hD1)];exact (gdf.trans g3) _ _ hc
   generalize upd Hg D1 (.lst (ZBT xs l1++[.str "none"]))=Hh at gh ⊢;clear g3 c3 gfg gdf ge gf ct1 cD1 ct2 cD2 q1 d2 st1 l10 l11 l20 l21 ht1 hD1 ht2 hD2 hl3;refine sR e5 (sH λB6 e6=>?_);refine#[UAV,rfl,?_];refine zJB (z:=UAV) (λi D H'=>Same Hh H'/\H' D=some (.lst (((UAV.cps.toList.take i).map fr).map nV))) (λD hD=>#[UAB hD _,zA0]) (λi D H' c hD hc hP=>?_) (λs7 H7 hs7 hP=>?_)
   ·obtain ⟨g,hl'⟩:=hP
    refine#[rfl,?_];unfold ZHP
    (try dsimp only)
    rw [yAS rfl];refine#[_,rfl,mkS [104],mkS [c],rfl,rfl,(by show 1+1<=eA5;decide),?_];rw [zH5];refine#[_,mkS [120],rfl,rfl,(by show 2+1<=eA5;decide),?_];rw [zH5]
    have hi:i<UAV.cps.toList.length:=by
     have:=(yBD.mp hc).1
     rw [yBJ];exact this
    have hic:UAV.cps.toList[i]?=some c:=by rw [yBH];exact hc
    have h12:UAV.cps.toList.length=12:=by decide +kernel
    refine#[_,hl',?_,λb o e=>?_,?_]
    ·rw [yAA,yAA,yAe];lia
    ·rw [zA6 (zA3 e hD)];exact g _ _ e
    ·rw [zA0,yBG,hic,yAQ,yAQ];rfl
   obtain ⟨g7,l7⟩:=hP;rw [show UAV.cps.toList.take UAV.cps.size=UAV.cps.toList by decide +kernel] at l7;have l7:H7 s7=some (.lst (UAh.map nV)):=l7;have g7:=gh.trans g7;refine#[_,rfl,nn,xs,rfl,.inl (SqL.of (g7 _ _ nmd)),_,rfl,s7,_,rfl,SqL.of l7,λfa hfa=>?_]
   have ec:ZL7 (UAh.map nV) none (some ((xs.length:Nat):Int))=(UAh.take xs.length).map nV:=by
    rw [zLQ _ oz (by rw [yAA,zJC];lia),yAW,List.map_take]
   rw [ec];have fl:((UAh.take xs.length).map nV).length=xs.length:=by rw [yAA,yAe,zJC];lia
   have areF:ZFY (some ((UAh.take xs.length).map nV))=true:=zNL (by rw [yAe,zJC];lia) (by rw [yAe,zJC];lia) (UBA.take _);have g8:=g7.trans (UAB hfa (.lst ((UAh.take xs.length).map nV)));have c8:(upd H7 fa (.lst ((UAh.take xs.length).map nV))) fa=some (.lst ((UAh.take xs.length).map nV)):=zA0;generalize (UAh.take xs.length).map nV=fv at fl areF g8 c8 ⊢;generalize upd H7 fa (.lst fv)=H8 at g8 c8 ⊢;have hGf:=zF3 areF;have okf:MsOk fv.length ms:=by rw [fl];exact ok
   clear g7 l7 gh;refine gNs (sR e6 (sH λB7 e7=>?_));refine#[_,rfl,_,rfl,MM,rfl,?_]
   refine zC6 (K:=K) (ys:=IV ms) (.inl (SqL.of (g8 _ _ MMd))) (λi D H'=>Same H8 H'/\∃ rs,LL H8 H' D rs ((ms.take i).map (ZBT fv))) (λD hD=>#[UAB hD _,[],zA0,λr hr=>(nomatch hr),.nil,rfl,λi r z h=>by cases h])
    (λi D H' hD hP=>hP.1.at1 MM) (λi D H' x hD hi hx hP=>?_) (λD9 H9 hD9 hP=>?_)
   ·obtain ⟨g',rs,L⟩:=hP
    unfold IV at hx hi;rw [yAA] at hi;rw [yAa,yAB hi] at hx
    cases hx
    have hm:=okf.ok ms[i] (yAi hi);refine#[rfl,?_];unfold ZHP
    (try dsimp only)
    rw [yAS rfl];refine#[_,rfl,_,rfl,fa,fv,ms[i],rfl,.inl (SqL.of (g' _ _ c8)),hGf.hi,hm.1,hm.2,λE2 H2 hE2 g2 l2=>?_];have er:rs.map V.ref++[V.ref E2]=(rs++[E2]).map V.ref:=by rw [yAQ];rfl
    have et:(ms.take (i+1)).map (ZBT fv)=(ms.take i).map (ZBT fv)++[ZBT fv ms[i]]:=by rw [yBG,yAB hi,yAQ];rfl
    refine#[_,g2 _ _ L.top,?_,λc o hc=>?_,rs++[E2],?_]
    ·have:=L.len
     rw [yAA,yAe] at this;rw [yAA];lia
    ·rw [zA6 (zA3 hc hD)];exact g2 _ _ (g' _ _ hc)
    ·rw [er,et]
     exact L.put g2 hE2 (g'.free hE2) l2
   obtain ⟨g9,rs9,L9⟩:=hP;have eM:(IV ms).length=ms.length:=by unfold IV;rw [yAA]
   rw [eM,yCz] at L9;intro p9 dx9 hp9 hdx9 ne9;refine zII (b:=b) (H0:=λ_=>none) hGf areF okf oz (.lst (g9 _ _ c8)) (.lst L9.top) #[by rw [L9.len,yAA],λv hv=>rfl,λj v m h1 h2=>#[_,.lst (L9.at_ j v _ h1 (by rw [yAa,h2];rfl)),eAp _]] hp9 hdx9 λH10 zt g10 S10 pt O10=>#[rfl,?_];have gA:=(g8.trans g9).trans g10;have fA:=g10 _ _ (g9 _ _ c8);clear g8 c8 g9 L9 g10;have m1f:m<2^fv.length:=by rw [fl];exact m1
   have pof:os.Perm (ZAA (ZHH fv.length (ZAU zt)) (2^fv.length)):=by rw [fl];exact zMV n12 ok.ok pt LO
   refine gNs (sR e7 (sH λB8 e8=>?_));refine#[_,rfl,_,rfl,_,rfl,fa,fv,m,rfl,.inl (SqL.of fA),hGf.hi,m0,m1f,λS3 H11 hS3 g11 l11=>?_];refine#[p9,.ref S3,fv,zt,m,rfl,S10.same g11,O10,areF,oz,UAQ.of_perm hGf m0 m1f (.lst l11) (eAp _),m0,m1f,λw1 u1 t1' D1' He q1 u10 u11 ge ht1 hD1 ct1 cD1=>?_];have gB:=(gA.trans g11).trans ge;refine#[_,rfl,_,rfl,_,rfl,_,rfl,fa,MM,OO,fv,ms,zt,os,m,rfl,ge _ _ (g11 _ _ fA),hGf,.inl (SqL.of (gB _ _ MMd)),oz,okf.ok,pt,O10.ord,.inl (SqL.of (gB _ _ OOd)),oz,(by rw [fl];exact oko),zWM O10 pof m0 m1f,λw2 u2 t2 D2 Hf d2 u20 u21 gf ht2 hD2 ct2 cD2=>?_];obtain ⟨rfl,rfl⟩:=zLV O10 pof LO.so m0 m1f q1 d2;refine zFJ (zQS d2) (zBY hGf u10 u11) (gf _ _ ct1) (gf _ _ cD1) ct2 cD2 #[_,rfl,zAY ?_];have gC:=gB.trans gf;clear gA gB ge g11 gf ct1 cD1 ct2 cD2 S10 fA l11 q1 d2 ht1 hD1 ht2 hD2 u10 u11 u20 u21 hS3;refine sR e8 (sH λB9 e9=>?_);refine#[_,rfl,_,rfl,pp,.ref r,xs,zs,m,rfl,sysd.same gC,O,are,oz,sett.same gC,m0,m1,λw1 u1 t1'' D1'' He q1 u10 u11 ge ht1 hD1 ct1 cD1=>?_];have gD:=gC.trans ge;refine#[_,rfl,_,rfl,_,rfl,_,rfl,nn,MM,OO,xs,ms,zs,os,m,rfl,gD _ _ nmd,hG,.inl (SqL.of (gD _ _ MMd)),oz,ok.ok,pz,sDec,.inl (SqL.of (gD _ _ OOd)),oz,oko,due,λw2 u2 t2 D2 Hg d2 u20 u21 gf ht2 hD2 ct2 cD2=>?_];obtain ⟨rfl,rfl⟩:=zLV O po LO.so m0 m1 q1 d2;refine zFJ (zQS d2) (zBY hG u10 u11) (gf _ _ ct1) (gf _ _ cD1) ct2 cD2 #[_,rfl,zAY ?_];have gE:=gD.trans gf;have bE:=bd.same gE;have awE:Away b HM Hg:=awD.trans (zAE gE);have nmE:=gE _ _ nmd;have MME:=gE _ _ MMd;have OOE:=gE _ _ OOd;have sysE:=sysd.same gE;clear gC gD ge gf ct1 cD1 ct2 cD2 gE q1 d2 ht1 hD1 ht2 hD2 u10 u11 u20 u21 sysd nmd MMd OOd bd awD;refine sR e9 ?_;refine#[_,rfl,b,4,rfl,dQ,dQ,bE,λk2 Hk k20 k21 bk tk=>#[rfl,_,rfl,?_]];have awk:=awE.trans tk.away;refine zD2 (λc=>?_) (λc=>?_)
   ·refine#[_,rfl,_,rfl,_,rfl,_,rfl,_,rfl,b,nn,MM,OO,pp,xs,ms,os,zs,rfl,bk,nmb,Mb,OOb,(tk nn nmb).trans nmE,(tk MM Mb).trans MME,oz,ok,(tk OO OOb).trans OOE,oz,LO,sysE.away bE tk.away,pz,O,are,h8,λHz bz az=>#[_,rfl,?_]]
    subst eD;exact zAY #[_,_,_,_,_,_,rfl,awk.trans az,bz]
   ·subst eD
    exact zAY #[_,_,_,_,_,_,rfl,awk,bk]
  ·obtain ⟨v8,v9,v10,v11,v12,v13,rfl,aw,bx⟩:=hP
   refine sR f5 ?_;refine#[_,rfl,_,rfl,_,rfl,b,nn,pp,xs,zs,rfl,bx,nmb,aw _ _ nmM nmb,sysM.away bxM aw,O,are,oz,λH9' b9' a9'=>#[_,rfl,zAY ?_]];exact#[_,_,_,_,_,_,_,_,_,_,_,_,_,rfl,fin _ ((awT.trans aw).trans a9')]
def zAV {K:Frag}{t c:String}{b:Bool}(n:((eAG t)==(eAG c))=false)(m:PySem.W.kitMeta c=true)(s:subIn K (.type t) (.type c)=some b):eAC K (.type t) (.type c)=some b:=by
 unfold eAC;rw [yAT (by rw [n];simp)];unfold PySem.W.kitCls;dsimp only;rw [yAS m];exact s
abbrev bmV:List Value:=[.type "ValueError",.type "Exception",.type "BaseException",.type "object"]
theorem UAu:L2E.Tail bmV "ValueError":=#[dk,dk,dk]
def zY7 (C:Addr):L2E.Tail (.ref C::bmV) "ValueError":=#[by rw [yBI,UAu.base,yDp],by rw [yBI,UAu.attr];rfl,by rw [yBI,UAu.name];rfl]
def zXI {x:V}{u:Value}(h:Zb6 u=some x):RelV x u:=by
 cases u<;>first|(cases h;exact rfl)|(cases h;exact#[_,rfl])|cases h
def zMZ:∀ {xs:List V} {us:List Value},us.map Zb6=xs.map some->Vals xs us
 | [],[],_=>.nil
 | [],_::_,h=>by cases h
 | _::_,[],h=>by cases h
 | x::xs,u::us,h=>by
  injection h with h1 h2
  exact .cons (zXI h1) (zMZ h2)
def zaN {K:Frag}{mg:Str->Option Value}{zL:Str}{tL tA:Tok}{iA:Int}{aO:Addr}{cO:Value}{odO:Option Addr}{its:Array Value}{nO:Nat}{slO:Array (Option Value)}
  (hL:mg "LETTERS"=some (.str zL tL)) (eL:zL=LET) (hA:mg "MOST_LETTERS"=some (.int iA tA)) (eA:iA=6)
  (hO:mg "OWN_WORDS"=some (.ref aO)) (lO:K.lookup aO=some #[cO,odO,.seq its nO,slO]) (eC:cO=.type "tuple") (eO:its.toList.map Zb6=(OWN.map V.str).map some):Glb K mg:=by
 subst eL eA eC;have v:=zMZ eO
 have hs:its.size<=eA5:=by
  have h1:=v.length;have h2:its.toList.length=its.size:=yBJ;rw [<- h2,<- h1]
  decide
 exact#[#[_,hL],#[_,hA],_,hO,λH=>.inr #[_,its,nO,lO,rfl,rfl,hs,v]]
theorem UBC {l:PySem.W.OpenLaw}{w:World}{K:Frag}{h:Heap}{mg:Str->Option Value}{fa CM C CS C_h C_y C_t f_a f_b f_c f_d f_e f_f f_g f_h f_i f_j f_k f_l f_m f_n f_o f_p f_q f_r f_s f_t f_u f_v f_w f_x f_y f_z f_A f_B f_C f_D f_E f_F f_G f_H f_I f_J f_K f_L f_M f_N f_O f_P f_Q f_R f_S f_T f_U f_V f_W f_X f_Y f_Z f_a0 f_b0 f_c0 f_d0 f_e0 f_f0 f_g0 f_h0 f_i0 f_j0 f_k0 f_l0 f_m0 f_n0 f_o0 f_p0:Addr}(X:K.In h)(G:h.Ns eAA mg)(hfa:mg "law"=some (.ref fa))
  {d_a d_b d_c d_d d_e d_f d_g d_h d_i d_j d_k d_l d_m d_n d_o d_p d_q d_r d_s d_t d_u d_v d_w d_x d_y d_z d_A d_B d_C d_D d_E d_F d_G d_H d_I d_J d_K d_L d_M d_N d_O d_P d_Q d_R d_S d_T d_U d_V d_W d_X d_Y d_Z d_a0 d_b0 d_c0 d_d0 d_e0 d_f0 d_g0 d_h0 d_i0 d_j0 d_k0 d_l0 d_m0 d_n0 d_o0:eAY} {od_p0 an_p0:Option Addr} {sl_p0:Array (Option Value)} {oc_p0 kV_p0 dc_p0 pm_p0 cd_p0 ct_p0:Value}
  {nmM qnM nmh qnh nmy qny nmt qnt:Str} {nNM nNh nNy nNt:Addr} {bsM sbM bsh sbh bsy sby bst sbt:List Value} {snM snh sny snt:List Str} {abM abh aby abt:Bool} {coM coh coy cot:Option Bool} {ddM ddh ddy ddt:Option Addr} {k0M k1M k2M k3M k5M k0h k1h k2h k3h k5h k0y k1y k2y k3y k5y k0t k1t k2t k3t k5t:Option Value}
  (gM:kI "MeetError" CM)
  (gh:kI "NoHouse" C_h)
  (gy:kI "NoSet" C_y)
  (gt:kI "Twice" C_t)
  (aC:kI "Houses" C) (pgC:eAT K C Str.empty=true) (hdC:eAU K C=true) (poC:PySem.W.plainOver K C=true) (saC:eAB K (.ref C) "__setattr__"=some (some (.builtin "object.__setattr__"))) (mkC:PySem.W.makesIn K C=true) (kcC:keepIn K (.ref C)=true) (n_row:eAB K (.ref C) "row"=some none) (n_places:eAB K (.ref C) "places"=some none)
  (aS:kI "System" CS) (pgS:eAT K CS Str.empty=true) (hdS:eAU K CS=true) (poS:PySem.W.plainOver K CS=true) (saS:eAB K (.ref CS) "__setattr__"=some (some (.builtin "object.__setattr__"))) (mkS:PySem.W.makesIn K CS=true) (kcS:keepIn K (.ref CS)=true) (n_ground:eAB K (.ref CS) "ground"=some none) (n_masks:eAB K (.ref CS) "masks"=some none)
  (a_a:kF CM "__init__" f_a) (i_a:kJ f_a)
  (F_a:Fun K "__init__" "MeetError.__init__" zCR f_a d_a)
  (a_b:kF C_h "__init__" f_b) (i_b:kJ f_b)
  (F_b:Fun K "__init__" "NoHouse.__init__" zDS f_b d_b)
  (a_c:kF C_y "__init__" f_c) (i_c:kJ f_c)
  (F_c:Fun K "__init__" "NoSet.__init__" zFT f_c d_c)
  (a_d:kF C_t "__init__" f_d) (i_d:kJ f_d)
  (F_d:Fun K "__init__" "Twice.__init__" zFH f_d d_d)
  (a_e:kI "is_whole" f_e)
  (F_e:Fun K "is_whole" "is_whole" zRN f_e d_e)
  (a_f:kI "is_within" f_f)
  (F_f:Fun K "is_within" "is_within" zL5 f_f d_f)
  (a_g:kI "is_made_of" f_g)
  (F_g:Fun K "is_made_of" "is_made_of" zXE f_g d_g)
  (a_h:kI "is_name" f_h)
  (F_h:Fun K "is_name" "is_name" zY6 f_h d_h)
  (a_i:kI "are_houses" f_i)
  (F_i:Fun K "are_houses" "are_houses" zdW f_i d_i)
  (a_j:kF C "__init__" f_j) (i_j:kJ f_j)
  (F_j:Fun K "__init__" "Houses.__init__" zZY f_j d_j)
  (a_k:kF C "names" f_k) (i_k:kJ f_k)
  (F_k:Fun K "names" "Houses.names" zQA f_k d_k)
  (a_l:kF C "size" f_l) (i_l:kJ f_l)
  (F_l:Fun K "size" "Houses.size" za6 f_l d_l)
  (a_m:kF C "number" f_m) (i_m:kJ f_m)
  (F_m:Fun K "number" "Houses.number" zIW f_m d_m)
  (a_n:kF C "mask" f_n) (i_n:kJ f_n)
  (F_n:Fun K "mask" "Houses.mask" zTO f_n d_n)
  (a_o:kF C "set_of" f_o) (i_o:kJ f_o)
  (F_o:Fun K "set_of" "Houses.set_of" zQ4 f_o d_o)
  (a_p:kI "all_of" f_p)
  (F_p:Fun K "all_of" "all_of" zSZ f_p d_p)
  (a_q:kI "numbers_of" f_q)
  (F_q:Fun K "numbers_of" "numbers_of" ze9 f_q d_q)
  (a_r:kI "key_of" f_r)
  (F_r:Fun K "key_of" "key_of" ze7 f_r d_r)
  (a_s:kI "in_order" f_s)
  (F_s:Fun K "in_order" "in_order" zdG f_s d_s)
  (a_t:kI "lot_masks" f_t)
  (F_t:Fun K "lot_masks" "lot_masks" zXQ f_t d_t)
  (a_u:kF CS "__init__" f_u) (i_u:kJ f_u)
  (F_u:Fun K "__init__" "System.__init__" zS7 f_u d_u)
  (a_v:kF CS "houses" f_v) (i_v:kJ f_v)
  (F_v:Fun K "houses" "System.houses" zIH f_v d_v)
  (a_w:kF CS "lots" f_w) (i_w:kJ f_w)
  (F_w:Fun K "lots" "System.lots" zQU f_w d_w)
  (a_x:kF CS "first_lot" f_x) (i_x:kJ f_x)
  (F_x:Fun K "first_lot" "System.first_lot" zQP f_x d_x)
  (a_y:kF CS "within" f_y) (i_y:kJ f_y)
  (F_y:Fun K "within" "System.within" zJ9 f_y d_y)
  (a_z:kI "table_of" f_z)
  (F_z:Fun K "table_of" "table_of" zJ3 f_z d_z)
  (a_A:kI "least_masks" f_A)
  (F_A:Fun K "least_masks" "least_masks" zL4 f_A d_A)
  (a_B:kF CS "table" f_B) (i_B:kJ f_B)
  (F_B:Fun K "table" "System.table" zPQ f_B d_B)
  (a_C:kI "system_by_table" f_C)
  (F_C:Fun K "system_by_table" "system_by_table" zJ5 f_C d_C)
  (a_D:kI "other_table" f_D)
  (F_D:Fun K "other_table" "other_table" zLI f_D d_D)
  (a_E:kI "other_side" f_E)
  (F_E:Fun K "other_side" "other_side" zSS f_E d_E)
  (a_F:kI "is_own_side" f_F)
  (F_F:Fun K "is_own_side" "is_own_side" ze1 f_F d_F)
  (a_G:kF CS "standing" f_G) (i_G:kJ f_G)
  (F_G:Fun K "standing" "System.standing" zF8 f_G d_G)
  (a_H:kF CS "apart" f_H) (i_H:kJ f_H)
  (F_H:Fun K "apart" "System.apart" zSJ f_H d_H)
  (a_I:kF CS "meets" f_I) (i_I:kJ f_I)
  (F_I:Fun K "meets" "System.meets" zSX f_I d_I)
  (a_J:kI "is_spare" f_J)
  (F_J:Fun K "is_spare" "is_spare" zIO f_J d_J)
  (a_K:kI "masks_in_order" f_K)
  (F_K:Fun K "masks_in_order" "masks_in_order" zJH f_K d_K)
  (a_L:kI "spare_set" f_L)
  (F_L:Fun K "spare_set" "spare_set" zT0 f_L d_L)
  (a_M:kI "put_in" f_M)
  (F_M:Fun K "put_in" "put_in" zSN f_M d_M)
  (a_N:kI "check_meets" f_N)
  (F_N:Fun K "check_meets" "check_meets" zGV f_N d_N)
  (a_O:kI "widened" f_O)
  (F_O:Fun K "widened" "widened" zIQ f_O d_O)
  (a_P:kI "settled" f_P)
  (F_P:Fun K "settled" "settled" zG7 f_P d_P)
  (a_Q:kI "told_mask" f_Q)
  (F_Q:Fun K "told_mask" "told_mask" zHF f_Q d_Q)
  (a_R:kI "shows_settled" f_R)
  (F_R:Fun K "shows_settled" "shows_settled" zJA f_R d_R)
  (a_S:kI "_law_cell" f_S)
  (F_S:Fun K "_law_cell" "_law_cell" za8 f_S d_S)
  (a_T:kI "_law_box" f_T)
  (F_T:Fun K "_law_box" "_law_box" zdD f_T d_T)
  (a_U:kI "_law_take" f_U)
  (F_U:Fun K "_law_take" "_law_take" zYK f_U d_U)
  (a_V:kI "_law_mixed" f_V)
  (F_V:Fun K "_law_mixed" "_law_mixed" zET f_V d_V)
  (a_W:kI "_law_names" f_W)
  (F_W:Fun K "_law_names" "_law_names" zMD f_W d_W)
  (a_X:kI "_law_masks" f_X)
  (F_X:Fun K "_law_masks" "_law_masks" zQF f_X d_X)
  (a_Y:kI "_law_size" f_Y)
  (F_Y:Fun K "_law_size" "_law_size" zFM f_Y d_Y)
  (a_Z:kI "_law_set" f_Z)
  (F_Z:Fun K "_law_set" "_law_set" zdP f_Z d_Z)
  (a_a0:kI "_law_handed" f_a0)
  (F_a0:Fun K "_law_handed" "_law_handed" zM7 f_a0 d_a0)
  (a_b0:kI "_law_key" f_b0)
  (F_b0:Fun K "_law_key" "_law_key" zZS f_b0 d_b0)
  (a_c0:kI "_law_order" f_c0)
  (F_c0:Fun K "_law_order" "_law_order" zEF f_c0 d_c0)
  (a_d0:kI "_law_decides" f_d0)
  (F_d0:Fun K "_law_decides" "_law_decides" zDE f_d0 d_d0)
  (a_e0:kI "_law_least" f_e0)
  (F_e0:Fun K "_law_least" "_law_least" zEE f_e0 d_e0)
  (a_f0:kI "_law_meets" f_f0)
  (F_f0:Fun K "_law_meets" "_law_meets" zEG f_f0 d_f0)
  (a_g0:kI "_law_other" f_g0)
  (F_g0:Fun K "_law_other" "_law_other" zER f_g0 d_g0)
  (a_h0:kI "_law_drawn" f_h0)
  (F_h0:Fun K "_law_drawn" "_law_drawn" zEI f_h0 d_h0)
  (a_i0:kI "_law_lots" f_i0)
  (F_i0:Fun K "_law_lots" "_law_lots" zFR f_i0 d_i0)
  (a_j0:kI "_law_due" f_j0)
  (F_j0:Fun K "_law_due" "_law_due" zGT f_j0 d_j0)
  (a_k0:kI "_law_refused" f_k0)
  (F_k0:Fun K "_law_refused" "_law_refused" zD0 f_k0 d_k0)
  (a_l0:kI "_law_odd_due" f_l0)
  (F_l0:Fun K "_law_odd_due" "_law_odd_due" zD7 f_l0 d_l0)
  (a_m0:kI "_law_odd_thing" f_m0)
  (F_m0:Fun K "_law_odd_thing" "_law_odd_thing" zCK f_m0 d_m0)
  (a_n0:kI "_law_odd_right" f_n0)
  (F_n0:Fun K "_law_odd_right" "_law_odd_right" zCG f_n0 d_n0)
  (a_o0:kI "_law_beside" f_o0)
  (F_o0:Fun K "_law_beside" "_law_beside" zDL f_o0 d_o0)
  (a_p0:kI "law" f_p0)
  (l_p0:K.lookup f_p0=some #[oc_p0,od_p0,.func (fnOf "law" "law" (ZFA zUJ) (ZD3 zUJ) (ZA4 zUJ) .none kV_p0 dc_p0 pm_p0 an_p0 cd_p0 ct_p0),sl_p0]) (c_p0:PySem.W.codeIn K cd_p0 "law"=true) (k_p0:keepIn K (.ref f_p0)=true)
  (oM:K.lookup CM=some (eAs nmM qnM CM nNM bsM bmV true snM sbM abM coM ddM k0M k1M k2M k3M k5M "ValueError.__new__")) (kcM:keepIn K (.ref CM)=true) (saM:eAB K (.ref CM) "__setattr__"=some (some (.builtin "object.__setattr__"))) (gaM:eAB K (.ref CM) "__getattribute__"=some (some (.builtin "BaseException.__getattribute__"))) (ghM:eAB K (.ref CM) "__getattr__"=some none)
  (oh:K.lookup C_h=some (eAs nmh qnh C_h nNh bsh (.ref CM::bmV) true snh sbh abh coh ddh k0h k1h k2h k3h k5h "ValueError.__new__")) (kch:keepIn K (.ref C_h)=true) (sah:eAB K (.ref C_h) "__setattr__"=some (some (.builtin "object.__setattr__"))) (gah:eAB K (.ref C_h) "__getattribute__"=some (some (.builtin "BaseException.__getattribute__"))) (ghh:eAB K (.ref C_h) "__getattr__"=some none)
  (oy:K.lookup C_y=some (eAs nmy qny C_y nNy bsy (.ref CM::bmV) true sny sby aby coy ddy k0y k1y k2y k3y k5y "ValueError.__new__")) (kcy:keepIn K (.ref C_y)=true) (say:eAB K (.ref C_y) "__setattr__"=some (some (.builtin "object.__setattr__"))) (gay:eAB K (.ref C_y) "__getattribute__"=some (some (.builtin "BaseException.__getattribute__"))) (ghy:eAB K (.ref C_y) "__getattr__"=some none)
  (ot:K.lookup C_t=some (eAs nmt qnt C_t nNt bst (.ref CM::bmV) true snt sbt abt cot ddt k0t k1t k2t k3t k5t "ValueError.__new__")) (kct:keepIn K (.ref C_t)=true) (sat:eAB K (.ref C_t) "__setattr__"=some (some (.builtin "object.__setattr__"))) (gat:eAB K (.ref C_t) "__getattribute__"=some (some (.builtin "BaseException.__getattribute__"))) (ght:eAB K (.ref C_t) "__getattr__"=some none)
  (spM:PySem.W.specialIn K (.ref CM) "__getattribute__"=some (some (.builtin "type.__getattribute__"))) (rdM:PySem.W.readsIn K CM (.type "type")=true) (fcM:PySem.W.findCls K (.ref CM) (.type "type") "__init__"=some (.val (.ref f_a)))
  (nfh:eAB K (.ref C_h) "found"=some none)
  (nfy:eAB K (.ref C_y) "found"=some none)
  (nft:eAB K (.ref C_t) "found"=some none)
  {zL:Str} {tL tA tH tM:Tok} {iA iH iM:Int} {aO:Addr} {cO:Value} {odO:Option Addr} {its:Array Value} {nO:Nat} {slO:Array (Option Value)}
  (xyy:exmOne K (.ref C_y) (.ref C_y)=some true)
  (xhy:exmOne K (.ref C_h) (.ref C_y)=some false)
  (xhh:exmOne K (.ref C_h) (.ref C_h)=some true)
  (xht:exmOne K (.ref C_h) (.ref C_t)=some false)
  (xty:exmOne K (.ref C_t) (.ref C_y)=some false)
  (xth:exmOne K (.ref C_t) (.ref C_h)=some false)
  (xtt:exmOne K (.ref C_t) (.ref C_t)=some true)
  (gL:nsIn K eAA "LETTERS"=some (some (.str zL tL)))
  (gA:nsIn K eAA "MOST_LETTERS"=some (some (.int iA tA)))
  (gH:nsIn K eAA "MOST_HOUSES"=some (some (.int iH tH)))
  (gN:nsIn K eAA "MOST_LOTS"=some (some (.int iM tM)))
  (gO:kI "OWN_WORDS" aO)
  (lO:K.lookup aO=some #[cO,odO,.seq its nO,slO])
  (eL:zL=LET)
  (eA:iA=6)
  (eH:iH=12)
  (eM:iM=1000)
  (eC:cO=.type "tuple")
  (eO:its.toList.map Zb6=(OWN.map V.str).map some)
  (z_isinstance:kN "isinstance") (z_int:kN "int") (z_bool:kN "bool") (z_str:kN "str") (z_len:kN "len") (z_all:kN "all") (z_list:kN "list") (z_range:kN "range") (z_repr:kN "repr") (z_tuple:kN "tuple") (z_set:kN "set") (z_enumerate:kN "enumerate") (z_sorted:kN "sorted") (z_max:kN "max") (z_min:kN "min") (z_sum:kN "sum") (z_any:kN "any") (z_ValueError:kN "ValueError")
  (s_i_non:kU "NoneType" "int" false) (s_i_bool:kU "bool" "int" true) (s_i_str:kU "str" "int" false) (s_i_list:kU "list" "int" false) (s_i_tup:kU "tuple" "int" false) (s_i_dict:kU "dict" "int" false) (s_b_non:kU "NoneType" "bool" false) (s_b_int:kU "int" "bool" false) (s_b_str:kU "str" "bool" false) (s_b_list:kU "list" "bool" false) (s_b_tup:kU "tuple" "bool" false) (s_b_dict:kU "dict" "bool" false) (s_s_non:kU "NoneType" "str" false) (s_s_int:kU "int" "str" false) (s_s_bool:kU "bool" "str" false) (s_s_list:kU "list" "str" false) (s_s_tup:kU "tuple" "str" false) (s_s_dict:kU "dict" "str" false) (s_l_non:kU "NoneType" "list" false) (s_l_bool:kU "bool" "list" false) (s_l_int:kU "int" "list" false) (s_l_str:kU "str" "list" false) (s_l_tup:kU "tuple" "list" false) (s_l_dict:kU "dict" "list" false) (s_t_non:kU "NoneType" "tuple" false) (s_t_bool:kU "bool" "tuple" false) (s_t_int:kU "int" "tuple" false) (s_t_str:kU "str" "tuple" false) (s_t_list:kU "list" "tuple" false) (s_t_dict:kU "dict" "tuple" false) :
  ∃ fd:eAY,(∀ (s:Shared) (v:Value),BindsTo s fd #[[v],[]] [("_law_script",v)])/\∀ base:Heap,K.In base->base.Ns eAA mg->FnOk l.prog w K mg base CX0 13 fa fd ["_law_script"] (JH5 K):=by
 have e:=hfa.symm.trans (yAK X G a_p0)
 cases e
 have F_p0:=UA0 (st:=zUJ) l_p0 c_p0 k_p0;have b_a:=F_a.binds (ps:=["self","text"]) bq2;have b_b:=F_b.binds (ps:=["self","found"]) bq2;have b_c:=F_c.binds (ps:=["self","found"]) bq2;have b_d:=F_d.binds (ps:=["self","found"]) bq2;have b_e:=F_e.binds (ps:=["thing"]) bq1;have b_f:=F_f.binds (ps:=["thing","low","high"]) bq3;have b_g:=F_g.binds (ps:=["thing","signs","most"]) bq3;have b_h:=F_h.binds (ps:=["thing"]) bq1;have b_i:=F_i.binds (ps:=["thing"]) bq1;have b_j:=F_j.binds (ps:=["self","names"]) bq2;have b_k:=F_k.binds (ps:=["self"]) bq1;have b_l:=F_l.binds (ps:=["self"]) bq1;have b_m:=F_m.binds (ps:=["self","name"]) bq2;have b_n:=F_n.binds (ps:=["self","names"]) bq2;have b_o:=F_o.binds (ps:=["self","mask"]) bq2;have b_p:=F_p.binds (ps:=["houses"]) bq1;have b_q:=F_q.binds (ps:=["mask"]) bq1;have b_r:=F_r.binds (ps:=["mask"]) bq1;have b_s:=F_s.binds (ps:=["masks"]) bq1;have b_t:=F_t.binds (ps:=["houses","lots"]) bq2;have b_u:=F_u.binds (ps:=["self","houses","lots"]) bq3;have b_v:=F_v.binds (ps:=["self"]) bq1;have b_w:=F_w.binds (ps:=["self"]) bq1;have b_x:=F_x.binds (ps:=["self","mask"]) bq2;have b_y:=F_y.binds (ps:=["self","names"]) bq2;have b_z:=F_z.binds (ps:=["masks","many"]) bq2;have b_A:=F_A.binds (ps:=["table"]) bq1;have b_B:=F_B.binds (ps:=["self"]) bq1;have b_C:=F_C.binds (ps:=["names","table"]) bq2;have b_D:=F_D.binds (ps:=["table"]) bq1;have b_E:=F_E.binds (ps:=["system"]) bq1;have b_F:=F_F.binds (ps:=["system"]) bq1;have b_G:=F_G.binds (ps:=["self","fallen"]) bq2;have b_H:=F_H.binds (ps:=["self"]) bq1;have b_I:=F_I.binds (ps:=["self"]) bq1;have b_J:=F_J.binds (ps:=["table","mask"]) bq2;have b_K:=F_K.binds (ps:=["table"]) bq1;have b_L:=F_L.binds (ps:=["system"]) bq1;have b_M:=F_M.binds (ps:=["table","mask"]) bq2;have b_N:=F_N.binds (ps:=["system"]) bq1;have b_O:=F_O.binds (ps:=["system"]) bq1;have b_P:=F_P.binds (ps:=["system","fallen"]) bq2;have b_Q:=F_Q.binds (ps:=["houses","thing"]) bq2;have b_R:=F_R.binds (ps:=["system","fallen","thing"]) bq3;have b_S:=F_S.binds (ps:=["_law_script","_law_k"]) bq2;have b_T:=F_T.binds (ps:=["_law_cell_here"]) bq1;have b_U:=F_U.binds (ps:=["_law_box_here","_law_many"]) bq2;have b_V:=F_V.binds (ps:=["_law_box_here","_law_some"]) bq2;have b_W:=F_W.binds (ps:=["_law_box_here","_law_many"]) bq2;have b_X:=F_X.binds (ps:=["_law_box_here","_law_many"]) bq2;have b_Y:=F_Y.binds (ps:=["_law_box_here"]) bq1;have b_Z:=F_Z.binds (ps:=["_law_names_here","_law_mask"]) bq2;have b_a0:=F_a0.binds (ps:=["_law_box_here","_law_names_here","_law_masks_here"]) bq3;have b_b0:=F_b0.binds (ps:=["_law_mask"]) bq1;have b_c0:=F_c0.binds (ps:=["_law_masks_here"]) bq1;have b_d0:=F_d0.binds (ps:=["_law_masks_here","_law_mask"]) bq2;have b_e0:=F_e0.binds (ps:=["_law_masks_here"]) bq1;have b_f0:=F_f0.binds (ps:=["_law_masks_here","_law_mask"]) bq2;have b_g0:=F_g0.binds (ps:=["_law_masks_here","_law_many"]) bq2;have b_h0:=F_h0.binds (ps:=["_law_box_here"]) bq1;have b_i0:=F_i0.binds (ps:=["_law_names_here","_law_masks_here"]) bq2;have b_j0:=F_j0.binds (ps:=["_law_names_here","_law_masks_here","_law_other_here","_law_fallen"]) bq4;have b_k0:=F_k0.binds (ps:=["_law_system","_law_way","_law_thing","_law_paper"]) bq4;have b_l0:=F_l0.binds (ps:=["_law_names_here","_law_thing"]) bq2;have b_m0:=F_m0.binds (ps:=["_law_box_here","_law_names_here"]) bq2;have b_n0:=F_n0.binds (ps:=["_law_box_here","_law_names_here","_law_system"]) bq3;have b_o0:=F_o0.binds (ps:=["_law_box_here","_law_names_here","_law_masks_here","_law_other_here","_law_system"]) bq5;have m_isinstance:=yBB X G z_isinstance;have m_int:=yBB X G z_int;have m_bool:=yBB X G z_bool;have m_str:=yBB X G z_str;have m_len:=yBB X G z_len;have m_all:=yBB X G z_all;have m_list:=yBB X G z_list;have m_range:=yBB X G z_range;have m_repr:=yBB X G z_repr;have m_tuple:=yBB X G z_tuple;have m_set:=yBB X G z_set;have m_enumerate:=yBB X G z_enumerate;have m_sorted:=yBB X G z_sorted;have m_max:=yBB X G z_max;have m_min:=yBB X G z_min;have m_sum:=yBB X G z_sum;have m_any:=yBB X G z_any;have m_ValueError:=yBB X G z_ValueError;have mCM:=yAK X G gM;have mCh:=yAK X G gh;have mCy:=yAK X G gy;have mCt:=yAK X G gt;have ecM:ErrC K CM f_a bmV:=#[#[_,_,_,_,_,_,_,_,_,_,_,_,_,_,oM],a_a,i_a,kcM,saM,gaM,ghM,UAu,dk,dk,PySem.F.store_ValueError.passes];have cfM:UAt K CM f_a:=#[spM,rdM,fcM,F_a.2];have ech:ErrC K C_h f_b (.ref CM::bmV):=#[#[_,_,_,_,_,_,_,_,_,_,_,_,_,_,oh],a_b,i_b,kch,sah,gah,ghh,zY7 CM,by rw [yBI];simp,by rw [yBI];simp,λx=>by rw [refuseLoop_ref];exact PySem.F.store_ValueError.passes x];have ecy:ErrC K C_y f_c (.ref CM::bmV):=#[#[_,_,_,_,_,_,_,_,_,_,_,_,_,_,oy],a_c,i_c,kcy,say,gay,ghy,zY7 CM,by rw [yBI];simp,by rw [yBI];simp,λx=>by rw [refuseLoop_ref];exact PySem.F.store_ValueError.passes x];have ect:ErrC K C_t f_d (.ref CM::bmV):=#[#[_,_,_,_,_,_,_,_,_,_,_,_,_,_,ot],a_d,i_d,kct,sat,gat,ght,zY7 CM,by rw [yBI];simp,by rw [yBI];simp,λx=>by rw [refuseLoop_ref];exact PySem.F.store_ValueError.passes x];have mC:=yAK X G aC;have clC:Cls K C:=#[pgC,hdC,poC,saC];have MC:Mk K C f_j:=#[mkC,a_j,i_j,kcC];have mS:=yAK X G aS;have clS:Cls K CS:=#[pgS,hdS,poS,saS];have MS:Mk K CS f_u:=#[mkS,a_u,i_u,kcS];have M_k:Meth K C "names" f_k:=#[a_k,i_k,F_k.2];have M_l:Meth K C "size" f_l:=#[a_l,i_l,F_l.2];have M_m:Meth K C "number" f_m:=#[a_m,i_m,F_m.2];have M_n:Meth K C "mask" f_n:=#[a_n,i_n,F_n.2];have M_o:Meth K C "set_of" f_o:=#[a_o,i_o,F_o.2];have M_v:Meth K CS "houses" f_v:=#[a_v,i_v,F_v.2];have M_w:Meth K CS "lots" f_w:=#[a_w,i_w,F_w.2];have M_x:Meth K CS "first_lot" f_x:=#[a_x,i_x,F_x.2];have M_y:Meth K CS "within" f_y:=#[a_y,i_y,F_y.2];have M_B:Meth K CS "table" f_B:=#[a_B,i_B,F_B.2];have M_G:Meth K CS "standing" f_G:=#[a_G,i_G,F_G.2];have M_H:Meth K CS "apart" f_H:=#[a_H,i_H,F_H.2];have M_I:Meth K CS "meets" f_I:=#[a_I,i_I,F_I.2];have m_e:=yAK X G a_e;have m_f:=yAK X G a_f;have m_g:=yAK X G a_g;have m_h:=yAK X G a_h;have m_i:=yAK X G a_i;have m_p:=yAK X G a_p;have m_q:=yAK X G a_q;have m_r:=yAK X G a_r;have m_s:=yAK X G a_s;have m_t:=yAK X G a_t;have m_z:=yAK X G a_z;have m_A:=yAK X G a_A;have m_C:=yAK X G a_C;have m_D:=yAK X G a_D;have m_E:=yAK X G a_E;have m_F:=yAK X G a_F;have m_J:=yAK X G a_J;have m_K:=yAK X G a_K;have m_L:=yAK X G a_L;have m_M:=yAK X G a_M;have m_N:=yAK X G a_N;have m_O:=yAK X G a_O;have m_P:=yAK X G a_P;have m_Q:=yAK X G a_Q;have m_R:=yAK X G a_R;have m_S:=yAK X G a_S;have m_T:=yAK X G a_T;have m_U:=yAK X G a_U;have m_V:=yAK X G a_V;have m_W:=yAK X G a_W;have m_X:=yAK X G a_X;have m_Y:=yAK X G a_Y;have m_Z:=yAK X G a_Z;have m_a0:=yAK X G a_a0;have m_b0:=yAK X G a_b0;have m_c0:=yAK X G a_c0;have m_d0:=yAK X G a_d0;have m_e0:=yAK X G a_e0;have m_f0:=yAK X G a_f0;have m_g0:=yAK X G a_g0;have m_h0:=yAK X G a_h0;have m_i0:=yAK X G a_i0;have m_j0:=yAK X G a_j0;have m_k0:=yAK X G a_k0;have m_l0:=yAK X G a_l0;have m_m0:=yAK X G a_m0;have m_n0:=yAK X G a_n0;have m_o0:=yAK X G a_o0;subst eH eM;have T:Txt mg:=#[m_isinstance,m_int,m_bool,m_str,m_len,m_all,m_list,m_range,m_repr];have kk:Kit K:=#[zAV dk dk s_i_non,zAV dk dk s_i_bool,zAV dk dk s_i_str,zAV dk dk s_i_list,zAV dk dk s_i_tup,zAV dk dk s_i_dict,zAV dk dk s_b_non,zAV dk dk s_b_int,zAV dk dk s_b_str,zAV dk dk s_b_list,zAV dk dk s_b_tup,zAV dk dk s_b_dict,zAV dk dk s_s_non,zAV dk dk s_s_int,zAV dk dk s_s_bool,zAV dk dk s_s_list,zAV dk dk s_s_tup,zAV dk dk s_s_dict];have k2:Kit2 K:=#[zAV dk dk s_l_non,zAV dk dk s_l_bool,zAV dk dk s_l_int,zAV dk dk s_l_str,zAV dk dk s_l_tup,zAV dk dk s_l_dict,zAV dk dk s_t_non,zAV dk dk s_t_bool,zAV dk dk s_t_int,zAV dk dk s_t_str,zAV dk dk s_t_list,zAV dk dk s_t_dict];have GG:Glb K mg:=zaN (yAK X G gL) eL (yAK X G gA) eA (yAK X G gO) lO eC eO;have mH:=yAK X G gH;have mM:=yAK X G gN;have cl:=clC;have xh:exmAny K (.ref C_h) [.ref C_h,.ref C_t]=some true:=by simp only [exmAny,xhh,xht];rfl
 have xt:exmAny K (.ref C_t) [.ref C_h,.ref C_t]=some true:=by simp only [exmAny,xth,xtt];rfl
 refine#[fnOf "law" "law" (ZFA zUJ) (ZD3 zUJ) (ZA4 zUJ) .none kV_p0 dc_p0 pm_p0 an_p0 cd_p0 ct_p0,λs v=>.of_eq rfl,λbase _ _=>?_];have O_a:=oq zW1 F_a m_ValueError;have O_b:=oq zL3 F_b ech nfh cfM O_a b_a mCM;have O_c:=oq zSD F_c ecy nfy cfM O_a b_a mCM;have O_d:=oq zR4 F_d ect nft cfM O_a b_a mCM;have rh:Er l.prog w K mg base "NoHouse" C_h:=#[#[_,_,_,ech,O_b,b_b],mCh,nfh];have ry:Er l.prog w K mg base "NoSet" C_y:=#[#[_,_,_,ecy,O_c,b_c],mCy,nfy];have rt:Er l.prog w K mg base "Twice" C_t:=#[#[_,_,_,ect,O_d,b_d],mCt,nft];have O_e:=oq zTU F_e T kk;have O_f:=oq zRG F_f #[O_e,b_e,F_e.2,m_e];have O_g:=oq zZ0 F_g T kk;have O_h:=oq zaD F_h GG #[O_g,b_g,F_g.2,m_g];have O_i:=oq zcG F_i T m_tuple m_set mH k2 #[O_h,b_h,F_h.2,m_h];have O_j:=oq zZ8 F_j m_tuple m_enumerate cl n_row n_places #[O_i,b_i,F_i.2,m_i];have O_k:=oq zVS F_k m_list cl n_row;have O_l:=oq zYU F_l m_len cl n_row;have O_m:=oq zS9 F_m T cl n_places;have O_n:=oq zZT F_n T m_tuple k2 cl M_m O_m b_m;have O_p:=oq zUV F_p cl M_l O_l b_l;have O_q:=oq zcB F_q;have O_r:=oq zbW F_r O_q b_q F_q.2 m_q m_len m_tuple;have O_s:=oq zcF F_s O_r b_r m_r m_sorted;have O_o:=oq zV1 F_o T cl n_row #[O_f,b_f,F_f.2,m_f] #[O_q,b_q,F_q.2,m_q] #[O_p,b_p,F_p.2,m_p];have O_t:=oq zXO F_t T m_tuple mM k2 cl M_n O_n b_n;have O_u:=oq zWA F_u m_tuple clS n_ground n_masks MC O_j b_j mC #[O_s,b_s,F_s.2,m_s] #[O_t,b_t,F_t.2,m_t];have O_v:=oq zP6 F_v clS n_ground cl M_k O_k b_k;have O_w:=oq zTW F_w clS n_ground n_masks cl M_o O_o b_o;have O_x:=oq zVD F_x clS n_ground n_masks cl M_o O_o b_o;have O_y:=oq zO8 F_y clS n_ground cl M_n O_n b_n M_x O_x b_x;have O_z:=oq zO5 F_z T;have O_A:=oq zTH F_A m_enumerate m_any #[O_q,b_q,F_q.2,m_q];have O_B:=oq zTT F_B clS n_ground n_masks cl M_l O_l b_l #[O_z,b_z,F_z.2,m_z];have O_C:=oq zO6 F_C cl MC O_j b_j mC M_o O_o b_o #[O_A,b_A,F_A.2,m_A] MS O_u b_u mS;have O_D:=oq zQG F_D;have O_E:=oq zUH F_E clS M_v O_v b_v M_B O_B b_B #[O_C,b_C,F_C.2,m_C] #[O_D,b_D,F_D.2,m_D];have O_F:=oq zc6 F_F clS M_B O_B b_B #[O_D,b_D,F_D.2,m_D];have O_G:=oq zLW F_G clS n_ground cl M_n O_n b_n M_x O_x b_x #[O_p,b_p,F_p.2,m_p];have O_H:=oq zUK F_H m_enumerate clS n_ground n_masks cl M_o O_o b_o;have O_I:=oq zUU F_I clS M_H O_H b_H;have O_J:=oq zP3 F_J T;have O_K:=oq zOW F_K T #[O_s,b_s,F_s.2,m_s];have O_L:=oq zVH F_L clS n_ground cl M_B O_B b_B M_o O_o b_o #[O_K,b_K,F_K.2,m_K] #[O_J,b_J,F_J.2,m_J];have O_M:=oq zUF F_M m_enumerate;have O_N:=oq zaX F_N clS M_H O_H b_H;have O_O:=oq zON F_O clS n_ground cl M_B O_B b_B M_o O_o b_o #[O_K,b_K,F_K.2,m_K] #[O_J,b_J,F_J.2,m_J] #[O_M,b_M,F_M.2,m_M] #[O_N,b_N,F_N.2,m_N] M_v O_v b_v #[O_C,b_C,F_C.2,m_C];have O_P:=oq zL9 F_P clS M_G O_G b_G M_y O_y b_y #[O_E,b_E,F_E.2,m_E];have OE_number:=oq zP4 F_m T kk cl n_places rh;have OE_mask:=oq zV9 F_n T m_tuple k2 cl M_m OE_number b_m ry rt;have OE_standing:=oq zK4 F_G clS n_ground cl M_n OE_mask b_n M_x O_x b_x #[O_p,b_p,F_p.2,m_p];have OE_settled:=oq zMJ F_P clS M_G OE_standing b_G M_y O_y b_y #[O_E,b_E,F_E.2,m_E];have O_Q:=oq zVV F_Q T k2 cl M_n OE_mask b_n M_o O_o b_o mCh mCt xh xt;have O_R:=oq zPY F_R T m_tuple k2 clS n_ground n_masks cl M_n O_n b_n #[O_Q,b_Q,F_Q.2,m_Q];have OE_shows:=oq zQH F_R T m_tuple clS n_ground cl M_n OE_mask b_n #[O_Q,b_Q,F_Q.2,m_Q];have O_S:=oq zYA F_S m_len;have O_T:=oq zbZ F_T m_max;have O_U:=oq zXF F_U;have O_V:=oq zW3 F_V T #[O_U,b_U,F_U.2,m_U];have O_W:=oq zTD F_W T #[O_U,b_U,F_U.2,m_U] #[O_V,b_V,F_V.2,m_V];have O_X:=oq zWL F_X T #[O_U,b_U,F_U.2,m_U];have O_Y:=oq zWI F_Y #[O_U,b_U,F_U.2,m_U];have O_Z:=oq zbL F_Z m_enumerate;have O_a0:=oq zQO F_a0 m_tuple #[O_U,b_U,F_U.2,m_U] #[O_V,b_V,F_V.2,m_V] #[O_Z,b_Z,F_Z.2,m_Z];have O_b0:=oq za7 F_b0 T;have O_c0:=oq zPT F_c0 m_sorted #[O_b0,b_b0,F_b0.2,m_b0];have O_d0:=oq zZ6 F_d0;have O_f0:=oq zR5 F_f0;have O_e0:=oq zRO F_e0 #[O_c0,b_c0,F_c0.2,m_c0] #[O_d0,b_d0,F_d0.2,m_d0];have O_g0:=oq zR0 F_g0 T #[O_e0,b_e0,F_e0.2,m_e0] #[O_f0,b_f0,F_f0.2,m_f0];have O_h0:=oq zW8 F_h0 #[O_Y,b_Y,F_Y.2,m_Y] #[O_W,b_W,F_W.2,m_W] #[O_X,b_X,F_X.2,m_X] #[O_a0,b_a0,F_a0.2,m_a0] MS O_u b_u mS;have O_i0:=oq zUX F_i0 #[O_Z,b_Z,F_Z.2,m_Z];have O_j0:=oq zZ5 F_j0 #[O_c0,b_c0,F_c0.2,m_c0] #[O_Z,b_Z,F_Z.2,m_Z];have O_k0:=oq zXZ F_k0 #[O_P,b_P,F_P.2,m_P] #[OE_settled,b_P,F_P.2,m_P] #[O_R,b_R,F_R.2,m_R] #[OE_shows,b_R,F_R.2,m_R] ry rh rt xyy xhy xhh xty xth xtt;have O_l0:=oq zYS F_l0 T m_tuple kk k2;have O_m0:=oq zXV F_m0 T m_tuple #[O_U,b_U,F_U.2,m_U] #[O_V,b_V,F_V.2,m_V] #[O_Z,b_Z,F_Z.2,m_Z];have O_n0:=oq zTG F_n0 T #[O_U,b_U,F_U.2,m_U] #[O_m0,b_m0,F_m0.2,m_m0] #[O_l0,b_l0,F_l0.2,m_l0] #[O_k0,b_k0,F_k0.2,m_k0];have O_o0:=oq zQM F_o0 T clS #[O_d0,b_d0,F_d0.2,m_d0] #[O_V,b_V,F_V.2,m_V] #[O_E,b_E,F_E.2,m_E] #[O_i0,b_i0,F_i0.2,m_i0] #[O_F,b_F,F_F.2,m_F] #[O_e0,b_e0,F_e0.2,m_e0] #[O_L,b_L,F_L.2,m_L] #[O_O,b_O,F_O.2,m_O] M_w O_w b_w M_I O_I b_I;exact zbJ F_p0 T m_max m_min m_tuple #[O_S,b_S,F_S.2,m_S] #[O_T,b_T,F_T.2,m_T] #[O_U,b_U,F_U.2,m_U] #[O_V,b_V,F_V.2,m_V] #[O_Z,b_Z,F_Z.2,m_Z] #[O_g0,b_g0,F_g0.2,m_g0] #[O_h0,b_h0,F_h0.2,m_h0] #[O_j0,b_j0,F_j0.2,m_j0] #[O_n0,b_n0,F_n0.2,m_n0] #[O_o0,b_o0,F_o0.2,m_o0] #[O_P,b_P,F_P.2,m_P] MS O_u b_u mS
theorem walk {l:PySem.W.OpenLaw}{q:eAD}{loose:List Str}{XP:(Str->Option Value)->Heap->Prop}{YP:World->Heap->Prop}{d:DefRec}{K:Params->Frag}(hn:l.most=some 63)(hdf:d.params.defaults=[])
  (hY:∀ (w:World) (h:Heap),YP w h->(K w.params).In h)
  (F:∀ (w:World) (mg:Str->Option Value) (fa:Addr) (h:Heap),(K w.params).In h->h.Ns eAA mg->mg d.name=some (.ref fa) ->
   ∃ fd:eAY,(∀ (s:Shared) (u:Value),BindsTo s fd #[[u],[]] [("_law_script",u)])/\∀ base:Heap,(K w.params).In base->base.Ns eAA mg->FnOk l.prog w (K w.params) mg base CX0 13 fa fd ["_law_script"] (JH5 (K w.params))) :
  PySem.W.WalkO q loose XP YP l.row.toRowW d [] (λf vs=>PySem.call f vs):=
 L2.UA2 (n:=63) (k:=13) (x:="_law_script") (CX:=λ_=>CX0) (sp:=λw=>JH5 (K w.params)) hn dQ hdf #[rfl,dQ,dQ,rfl] hY F (λ_ _ a ns hl _ hS=>#[a,ns,rfl,hS,hl,λ_=>rfl]) λ_ _ _ _ _ z=>z
end
end S
namespace HD
open PySem PySem.W PySem.Calls PyProof.Rows
def ZeA:Stmt:=(PySem.Challenge.pw_alwaysmeet_k27_falls_settled.main.body[72]?).getD (.Pass #[0,0,0,0])
def Q:eAD:=HT.only PySem.Challenge.pw_alwaysmeet_k27_falls_settled [ZeA]
def L:List Str:=PySem.Challenge.pw_alwaysmeet_k27_falls_settled.boundNames.filter λx=>!(x=="law")
def Xt (s:Shared):Bool:=recOk (RowW.records (OpenRow.toRowW (OpenLaw.row PySem.Challenge.rw_alwaysmeet_k27_falls_settled))) s
def F0 (w:World)(os:eAr):=HT.chk PySem.Challenge.pw_alwaysmeet_k27_falls_settled Q L Xt 8000 w os
def G0 (_:World):=some (true,openGood Q L)
def F (as:List Addr)(w:World)(os:eAr):=HT.obs PySem.Challenge.pw_alwaysmeet_k27_falls_settled (λs=>as.map s.heap.get?) 8000 w os
def G (K:Params->Frag)(w:World):=some ((K w.params).map λp=>some p.2)
theorem F0_rfl:F0=F0:=rfl
theorem G0_rfl:G0=G0:=rfl
theorem F_rfl:F=F:=rfl
theorem G_rfl:G=G:=rfl
end HD
name_quick hdF0 for HD.F0 by HD.F0_rfl
name_quick hdG0 for HD.G0 by HD.G0_rfl
name_quick hdF for HD.F by HD.F_rfl
name_quick hdG for HD.G by HD.G_rfl
open PySem PySem.W PyProof.Rows
theorem HD.chk (w:World)(os:eAr):HD.F0 w os=HD.G0 w:=(congrFun (congrFun Fast.hdF0_eq w) os).trans ((show Fast.hdF0 w os=Fast.hdG0 w by kernel_rfl).trans (congrFun Fast.hdG0_eq w).symm)
open PySem PySem.W PyProof.Rows
set_option hygiene false in
local macro_rules | `(tactic| o_head ($f:term $K $as $e)) => `(tactic| (exact no.elim))
set_option maxRecDepth 100000 in
theorem HD.mk (no:False):PySem.Challenge.rw_alwaysmeet_k27_falls_settled.Holds:=by
 w_on;o_law;k_head
def HD.as1:List Addr:=[2,3,15,17,18,20,21,22,29,31,32,34,35,36,37,38,39,42,49,51,52,54,55,56,57,58,61,68,70,71,73,74,75,76,77,80,87,89,90,92,93,94,95,96,99,106,108,109,111,112,113,114,115,118,125,127,128,130,131,132,133,134,137,144,146,147,149,150,151,152,153,156,163,165,166,168,169,170,171,172,175,176,178,179,181,182,183,185,186,188,189,190,193,194,195,197,198,200,201,202,205,206,214,217,218,219,221,222,224,225,226,228,229,231,232,233,235,236,238,239,240,242,243,245,246,247,250,251,252,253,254,255,256]
def HD.as2:List Addr:=[259,261,262,264,265,266,268,269,271,272,273,275,276,278,279,280,282,283,285,286,287,289,290,292,293,294,296,297,299,300,301,303,304,306,307,308,310,311,313,314,315,318,319,327,329,330,332,333,334,336,337,339,340,341,344,345,346,349,350,351,353,354,356,357,358,360,361,363,364,365,367,368,370,371,372,374,375,377,378,379,381,382,384,385,386,388,389,391,392,393,395,396,398,399,400,402,403,405,406,407,409,410,412,413,414,416,417,419,420,421,422,423,424,425,428,431,432,433,436,437,438,440,441,443,444,445,447,448,450,451,452,454,455]
def HD.as3:List Addr:=[457,458,459,462,463,464,466,467,469,470,471,474,475,476,478,479,481,482,483,485,486,488,489,490,492,493,495,496,497,499,500,502,503,504,506,507,509,510,511,513,514,516,517,518,520,521,523,524,525,527,528,530,531,532,535,536,537,539,540,542,543,544,546,547,549,550,551,554,555,556,558,559,561,562,563,566,567,568,570,571,573,574,575,578,579,580,582,583,585,586,587,590,591,592,595,596,597,600,601,602,604,605,607,608,609,612,613,614,616,617,619,620,621,623,624,626,627,628,630,631,633,634,635,637,638,640,641,642,645,646,647,650,651]
def HD.K1 (P:Params):Frag:=(HD.mk.heap_39 P).take 133
def HD.K2 (P:Params):Frag:=((HD.mk.heap_39 P).drop 133).take 133
def HD.K3 (P:Params):Frag:=(((HD.mk.heap_39 P).drop 133).drop 133)
theorem HD.ob1 (w:World)(os:eAr):HD.F HD.as1 w os=HD.G HD.K1 w:=(congrFun (congrFun (congrFun Fast.hdF_eq HD.as1) w) os).trans ((show Fast.hdF HD.as1 w os=Fast.hdG HD.K1 w by kernel_rfl).trans (congrFun (congrFun Fast.hdG_eq HD.K1) w).symm)
theorem HD.ob2 (w:World)(os:eAr):HD.F HD.as2 w os=HD.G HD.K2 w:=(congrFun (congrFun (congrFun Fast.hdF_eq HD.as2) w) os).trans ((show Fast.hdF HD.as2 w os=Fast.hdG HD.K2 w by kernel_rfl).trans (congrFun (congrFun Fast.hdG_eq HD.K2) w).symm)
theorem HD.ob3 (w:World)(os:eAr):HD.F HD.as3 w os=HD.G HD.K3 w:=(congrFun (congrFun (congrFun Fast.hdF_eq HD.as3) w) os).trans ((show Fast.hdF HD.as3 w os=Fast.hdG HD.K3 w by kernel_rfl).trans (congrFun (congrFun Fast.hdG_eq HD.K3) w).symm)
def HD.as:List Addr:=HD.as1++(HD.as2++(HD.as3))
theorem HD.ob (w:World)(os:eAr):HD.F HD.as w os=HD.G HD.mk.heap_39 w:=by
 have q:=(HT.obs_app (HD.ob1 w os) (HT.obs_app (HD.ob2 w os) (HD.ob3 w os)));rw [<- yAQ,<- yAQ] at q;unfold HD.K1 HD.K2 HD.K3 at q;rw [yCo,yCo] at q;exact q
set_option maxRecDepth 100000 in
theorem HD.facts (w:World)(mg:Str->Option Value)(fa:Addr)(h:Heap)(KX:(HD.mk.heap_39 w.params).In h)(G:h.Ns eAA mg)(hmg:mg "law"=some (.ref fa)):∃ fd:eAY,(∀ (s:Shared) (v:Value),BindsTo s fd #[[v],[]] [("_law_script",v)])/\∀ base:Heap,(HD.mk.heap_39 w.params).In base->base.Ns eAA mg->L2.FnOk PySem.Challenge.rw_alwaysmeet_k27_falls_settled.prog w (HD.mk.heap_39 w.params) mg base L2.CX0 13 fa fd ["_law_script"] (S.JH5 (HD.mk.heap_39 w.params)):=by
 refine' S.UBC KX G hmg ?gM ?gh ?gy ?gt ?aC ?pgC ?hdC ?poC ?saC ?mkC ?kcC ?n_row ?n_places ?aS ?pgS ?hdS ?poS ?saS ?mkS ?kcS ?n_ground ?n_masks ?a_a ?i_a ?F_a ?a_b ?i_b ?F_b ?a_c ?i_c ?F_c ?a_d ?i_d ?F_d ?a_e ?F_e ?a_f ?F_f ?a_g ?F_g ?a_h ?F_h ?a_i ?F_i ?a_j ?i_j ?F_j ?a_k ?i_k ?F_k ?a_l ?i_l ?F_l ?a_m ?i_m ?F_m ?a_n ?i_n ?F_n ?a_o ?i_o ?F_o ?a_p ?F_p ?a_q ?F_q ?a_r ?F_r ?a_s ?F_s ?a_t ?F_t ?a_u ?i_u ?F_u ?a_v ?i_v ?F_v ?a_w ?i_w ?F_w ?a_x ?i_x ?F_x ?a_y ?i_y ?F_y ?a_z ?F_z ?a_A ?F_A ?a_B ?i_B ?F_B ?a_C ?F_C ?a_D ?F_D ?a_E ?F_E ?a_F ?F_F ?a_G ?i_G ?F_G ?a_H ?i_H ?F_H ?a_I ?i_I ?F_I ?a_J ?F_J ?a_K ?F_K ?a_L ?F_L ?a_M ?F_M ?a_N ?F_N ?a_O ?F_O ?a_P ?F_P ?a_Q ?F_Q ?a_R ?F_R ?a_S ?F_S ?a_T ?F_T ?a_U ?F_U ?a_V ?F_V ?a_W ?F_W ?a_X ?F_X ?a_Y ?F_Y ?a_Z ?F_Z ?a_a0 ?F_a0 ?a_b0 ?F_b0 ?a_c0 ?F_c0 ?a_d0 ?F_d0 ?a_e0 ?F_e0 ?a_f0 ?F_f0 ?a_g0 ?F_g0 ?a_h0 ?F_h0 ?a_i0 ?F_i0 ?a_j0 ?F_j0 ?a_k0 ?F_k0 ?a_l0 ?F_l0 ?a_m0 ?F_m0 ?a_n0 ?F_n0 ?a_o0 ?F_o0 ?a_p0 ?l_p0 ?c_p0 ?k_p0 ?oM ?kcM ?saM ?gaM ?ghM ?oh ?kch ?sah ?gah ?ghh ?oy ?kcy ?say ?gay ?ghy ?ot ?kct ?sat ?gat ?ght ?spM ?rdM ?fcM ?nfh ?nfy ?nft ?xyy ?xhy ?xhh ?xht ?xty ?xth ?xtt ?gL ?gA ?gH ?gN ?gO ?lO ?eL ?eA ?eH ?eM ?eC ?eO ?z_isinstance ?z_int ?z_bool ?z_str ?z_len ?z_all ?z_list ?z_range ?z_repr ?z_tuple ?z_set ?z_enumerate ?z_sorted ?z_max ?z_min ?z_sum ?z_any ?z_ValueError ?s_i_non ?s_i_bool ?s_i_str ?s_i_list ?s_i_tup ?s_i_dict ?s_b_non ?s_b_int ?s_b_str ?s_b_list ?s_b_tup ?s_b_dict ?s_s_non ?s_s_int ?s_s_bool ?s_s_list ?s_s_tup ?s_s_dict ?s_l_non ?s_l_bool ?s_l_int ?s_l_str ?s_l_tup ?s_l_dict ?s_t_non ?s_t_bool ?s_t_int ?s_t_str ?s_t_list ?s_t_dict
 all_goals try first|k_is|exact L2.UA0 (by k_is) (by k_is) (by k_is)
 (case xyy=>kts_exm)
 (case xhy=>kts_exm)
 (case xhh=>kts_exm)
 (case xht=>kts_exm)
 (case xty=>kts_exm)
 (case xth=>kts_exm)
 (case xtt=>kts_exm)
 all_goals first|rfl|decide +kernel
set_option maxRecDepth 100000 in
theorem PySem.Challenge.cw_alwaysmeet_k27_falls_settled_holds : PySem.Challenge.rw_alwaysmeet_k27_falls_settled.Holds := by
 w_on;o_law
 refine holds_open (q:=HD.Q) (loose:=HD.L) (Xt:=HD.Xt) (XP:=λ_ _=>True) (Yf:=Hook.obs (kHook HD.mk.heap_39 HD.as (λ_=>by kernel_rfl))) (Ya:=Hook.val (kHook HD.mk.heap_39 HD.as (λ_=>by kernel_rfl))) (YP:=Hook.says (kHook HD.mk.heap_39 HD.as (λ_=>by kernel_rfl))) (N:=8000) ?hl (Hook.of (kHook HD.mk.heap_39 HD.as (λ_=>by kernel_rfl))) (Hook.keeps (kHook HD.mk.heap_39 HD.as (λ_=>by kernel_rfl))) (λ_ _=>trivial) (λ_ _ _ _ _=>trivial) (by rfl) (by rfl) (by rfl) (λs e=>recFacts_of e) (by rfl) (by first|assumption|decide +kernel) dk #[rfl,rfl,rfl,rfl,rfl,dk] ?hw ?hc
 (case hl=>exact HT.left_of2 (by kernel_rfl) dQ (λs=>by kernel_rfl) HD.chk HD.ob)
 (case hw=>w_witness2)
 k_fill
 refine S.walk (l:=PySem.Challenge.rw_alwaysmeet_k27_falls_settled) rfl rfl (λw h Y=>PySem.W.kIn_of Y) ?F
 case F=>
  intro w mg fa h KX G hmg;exact HD.facts w mg fa h KX G hmg
