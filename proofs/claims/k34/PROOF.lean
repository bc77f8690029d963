import PyProof.Rows.All
import Wide.All
import OpenK.AllK
import Wide.FinOn
import Lean
import PyProof.EqAt
import PyProof.EqKinds
import PyProof.TupleCall
import PyProof.DictCompW
import PyProof.EnumFor
import PyProof.EnumStmt
import PyProof.EnumMake
import PyProof.Rows.EnumRows
import PyProof.Rows.SetFrom
import PyProof.Rows.LoopUnroll
import PyProof.Draws
import PyProof.Rows.FStr
import PyProof.Rows.StrNews2
import PyProof.Rows.StrNews
import PyProof.ExcClass3
import PyProof.ExcInit
import PyProof.InstStoreFacts
import PyProof.ExcArgs
import PyProof.ExcBaseAll.ValueError
import PyProof.NsDelKeeps
import PyProof.RulesAs
import KE.KTryMore
import PyProof.RulesTry
import PySem.Challenge.RW_alwaysmeet_k34_houses_that_fall_one_by_o
set_option linter.all false
section
open PySem PySem.Spec PyProof.Rows
def yAA:=@wpAny_bind
def yAB:=@List.getElem?_eq_getElem
def yAC:=@List.length_map
def yAD:=@Heap.get?_push_of_some
def yAE:=@List.getElem?_eq_some_iff
def yAF:=@List.size_toArray
def yAG:=@Nat.le_refl
def yAH:=@wpAny_pure
def yAI:=@Heap.lt_size
def yAJ:=@List.mem_singleton
def yAK:=@if_pos
def yAL:=@decide_eq_false
def yAM:=@List.mem_append_right
def yAN:=@if_neg
def yAO:=@wpS_bind
def yAP:=@List.mem_cons_of_mem
def yAQ:=@List.mem_cons_self
def yAR:=@wpAny_loadPart_at
def yAS:=@Int.toNat_natCast
def yAT:=@decide_eq_true_eq
def yAU:=@List.length_append
def yAV:=@PySem.W.mg_of
def yAW:=@Bool.false_ne_true
def yAX:=@wpS_pure
def yAY:=@Heap.get?_push_size
def yAZ:=@decide_eq_true
def yAa:=@List.map_append
def yAb:=@List.getElem?_map
def yAc:=@List.getD_eq_getElem?_getD
def yAd:=@List.mem_cons
def yAe:=@beq_iff_eq
def yAf:=@List.length_take
def yAg:=@Nat.lt_of_lt_of_le
def yAh:=@Nat.ne_of_lt
def yAi:=@List.getElem?_of_mem
def yAj:=@PyProof.Rows.boot_isinstance
def yAk:=@Bool.and_eq_true
def yAl:=@of_decide_eq_true
def yAm:=@List.mem_append
def yAn:=@List.mem_of_getElem?
def yAo:=@Array.toList_push
def yAp:=@List.map_cons
def yAq:=@List.contains_cons
def yAr:=@Bool.eq_iff_iff
def yAs:=@Array.getElem?_toList
def yAt:=@List.take_of_length_le
def yAu:=@PySem.W.mg_none_of
def yAv:=@Int.emod_lt_of_pos
def yAw:=@List.length_range
def yAx:=@Array.length_toList
def yAy:=@Nat.zero_le
def yAz:=@Nat.le_trans
def yBA:=@List.mem_map
def yBB:=@PyProof.Rows.boot_list
def yBC:=@List.getElem?_append_right
def yBD:=@wpAny_loadPart'
def yBE:=@PySem.F.plainAttrs_list
def yBF:=@List.getElem?_append_left
def yBG:=@Heap.get?_update_other
def yBH:=@PySem.boot_len
def yBI:=@List.getElem_mem
def yBJ:=@Int.emod_nonneg
def yBK:=@Bool.false_eq_true
def yBL:=@List.mem_range
def yBM:=@List.extract_eq_take_drop
def yBN:=@Heap.get?_update_ne
def yBO:=@wpAny_mono
def yBP:=@List.length_cons
def yBQ:=@wpAny_newObj_type
def yBR:=@PySem.F.type_list_append
def yBS:=@PySem.F.slot_list_append
def yBT:=@of_decide_eq_false
def yBU:=@List.getElem?_eq_none
def yBV:=@Array.getElem?_eq_some_iff
def yBW:=@PyProof.Rows.boot_tuple
def yBX:=@List.take_add_one
def yBY:=@List.pairwise_map
def yBZ:=@wpS_forRange
def yBa:=@List.mem_append_left
def yBb:=@PySem.W.kia_one
def yBc:=@List.length_filter_le
def yBd:=@wpAny_holding
def yBe:=@PyProof.Rows.slot_tuple_getitem
def yBf:=@List.append_assoc
def yBg:=@Nat.eq_of_testBit_eq
def yBh:=@Array.toList_extract
def yBi:=@Nat.ne_of_gt
def yBj:=@Nat.testBit_shiftRight
def yBk:=@Nat.lt_irrefl
def yBl:=@Array.toList_inj
def yBm:=@PySem.mem_of_lookup
def yBn:=@List.length_reverse
def yBo:=@wpAny_truthy_bool
def yBp:=@List.map_map
def yBq:=@List.append_nil
def yBr:=@PySem.SeqAt.eqv_refl
def yBs:=@Nat.lt_or_ge
def yBt:=@wpAny_isSubtype_exc
def yBu:=@List.filterMap_cons
def yBv:=@List.drop_eq_getElem_cons
def yBw:=@Nat.testBit_and
def yBx:=@List.mem_filter
def yBy:=@wpAny_Call_Name_kw
def yBz:=@List.getElem?_take
def yCA:=@wpAny_field
def yCB:=@List.lookup_cons
def yCC:=@List.any_eq_true
def yCD:=@List.all_eq_true
def yCE:=@codeAny_call_builtin
def yCF:=@Nat.pow_le_pow_right
def yCG:=@List.pairwise_singleton
def yCH:=@Bool.false_and
def yCI:=@Nat.lt_succ_of_lt
def yCJ:=@codeAny_builtin
def yCK:=@List.filter_sublist
def yCL:=@List.drop_of_length_le
def yCM:=@List.perm_ext_iff_of_nodup
def yCN:=@wpS_mono
def yCO:=@wpAny_standAt
def yCP:=@List.take_append_drop
def yCQ:=@Int.natCast_nonneg
def yCR:=@Heap.get?_update_self
def yCS:=@Int.one_mul
def yCT:=@Nat.testBit_eq_decide_div_mod_eq
def yCU:=@Option.map_some
def yCV:=@Option.isSome_iff_exists
def yCW:=@List.take_sublist
def yCX:=@List.find?_cons
def yCY:=@Int.natCast_pow
def yCZ:=@codeAny_mono
def yCa:=@wpAny_callSpecial?_slot
def yCb:=@if_false
def yCc:=@List.replicate_succ
def yCd:=@Int.eq_ofNat_of_zero_le
def yCe:=@Bool.true_and
def yCf:=@List.take_length
def yCg:=@List.length_drop
def yCh:=@List.getElem_inj
def yCi:=@Heap.size_push
def yCj:=@Option.map_eq_some_iff
def yCk:=@Int.ediv_eq_zero_of_lt
def yCl:=@Nat.eq_zero_or_pos
def yCm:=@List.getElem?_drop
def yCn:=@List.dropLast_concat_getLast
def yCo:=@Code.quiet_builtin
def yCp:=@wpAny_passesOwn
def yCq:=@PyProof.Rows.callWith_type1
def yCr:=@Nat.testBit_two_pow_sub_one
def yCs:=@List.length_nil
def yCt:=@List.ext_getElem?
def yCu:=@F.slot_tuple_iterator_next
def yCv:=@Array.perm_iff_toList_perm
def yCw:=@PyProof.Rows.F.plain_set_update_loop
def yCx:=@Nat.zero_testBit
def yCy:=@Nat.lt_succ_self
def yCz:=@beq_eq_false_iff_ne
def yDA:=@Nat.testBit_two_pow
def yDB:=@List.getElem_of_mem
def yDC:=@Array.toList_append
def yDD:=@wpAny_rule
def yDE:=@Bool.or_true
def yDF:=@listUpdate_at
def yDG:=@get?_update_seq
def yDH:=@SeqAt.EqAt.int_int
def yDI:=@PySem.W.callWith_K
def yDJ:=@Obj.data_mapFields
def yDK:=@List.range_succ
def yDL:=@List.pairwise_cons
def yDM:=@List.length_eq_zero_iff
def yDN:=@List.getElem?_replicate
def yDO:=@List.filter_append
def yDP:=@Bool.or_eq_true
def yDQ:=@List.getElem?_set_self
def yDR:=@wpAny_pyIter_list
def yDS:=@List.nodup_append
def yDT:=@List.flatten_cons
def yDU:=@PySem.W.methodCall_KW
def yDV:=@PyProof.Rows.callWith_builtin1
def yDW:=@Nat.sub_self
def yDX:=@List.perm_append_comm
def yDY:=@wpAny_call_entry
def yDZ:=@Nat.sub_sub_self
def yDa:=@List.not_mem_nil
def yDb:=@List.getElem_map
def yDc:=@Array.toList_reverse
def yDd:=@Around.under_plainId
def yDe:=@List.sum_cons
def yDf:=@wpAny_call
def yDg:=@call_meets
def yDh:=@wpAny_execs_nil
def yDi:=@Nat.le_succ
def yDj:=@List.nodup_cons
def yDk:=@List.map_congr_left
def yDl:=@List.getElem?_range
def yDm:=@wpAny_typeOf
def yDn:=@wpAny_pyIter_tuple
def yDo:=@tupleKind_room_in1
def yDp:=@Nat.zero_add
def yDq:=@Nat.le_of_lt
def yDr:=@List.filterMap_map
def yDs:=@Int.zero_add
def yDt:=@wpAny_setField
def yDu:=@if_true
def yDv:=@List.pairwise_iff_getElem
def yDw:=@wpS_modify
def yDx:=@wpAny_pyIter_enum
def yDy:=@wpAny_getItem_list_slice
def yDz:=@wpAny_comprehension_free
def yEA:=@PySem.W.kitx_list
def yEB:=@PySem.W.kitx_dict
def yEC:=@List.reverse_perm
def yED:=@List.foldl_append
def yEE:=@Bool.not_eq_true'
def yEF:=@Bool.eq_false_iff
def yEG:=@wpS_get
def yEH:=@wpAny_newList
def yEI:=@List.any_cons
def yEJ:=@Nat.le_add_right
def yEK:=@List.cons_append
def yEL:=@Nat.div_div_eq_div_mul
def yEM:=@List.find?_cons_of_pos
def yEN:=@List.find?_cons_of_neg
def yEO:=@listItems_at
def yEP:=@PyProof.Rows.boot_int
def yEQ:=@Obj.isFreed_of_fields
def yER:=@Nat.testBit_xor
def yES:=@Nat.min_le_left
def yET:=@List.nil_append
def yEU:=@List.length_singleton
def yEV:=@List.getElem?_reverse
def yEW:=@List.Perm.of_eq
def yEX:=@F.typeOf_object_class
def yEY:=@Subscript_
end
set_option Elab.async false
set_option linter.all false
set_option maxRecDepth 100000
local macro_rules | `(tactic| trivial) => `(tactic| exact ⟨rfl,rfl,rfl,by decide +kernel,rfl,by decide +kernel,by decide +kernel⟩)
namespace L2
open PySem PySem.Spec PyProof.Rows
noncomputable abbrev Key:=Sum Int Str
noncomputable def zHY : Key -> Value -> Bool
 | .inl k,v=>Value.isInt k v
 | .inr x,v=>Value.isStrOf x v
noncomputable def zb3 (w : World) : Key -> Int
 | .inl k=>hashInt k
 | .inr x=>hashStr w x
theorem zB1 : ∀ {k : Key} {v : Value},zHY k v = true -> (∃ i t,k = Sum.inl i/\v = Value.int i t) \/ (∃ x t,k = Sum.inr x/\v = Value.str x t)
 | .inl i,v,h=>by
  obtain ⟨t,e⟩:=Value.isInt_shape (k:=i) (v:=v) h;exact .inl ⟨i,t,rfl,e⟩
 | .inr x,v,h=>by
  obtain ⟨t,e⟩:=Value.isStrOf_shape (x:=x) (v:=v) h;exact .inr ⟨x,t,rfl,e⟩
theorem zNZ (i : Int) (t : Tok) : zHY (.inl i) (.int i t) = true:=by simp [zHY,Value.isInt]
theorem zNJ (x : Str) (t : Tok) : zHY (.inr x) (.str x t) = true:=by simp [zHY,Value.isStrOf]
theorem zY2 (a b : Int) : decide ((Sum.inl a : Key) = Sum.inl b) = (a == b):=by
 by_cases e : a = b
 ·subst e; simp
 ·have h : ¬ (Sum.inl a : Key) = Sum.inl b:=λq=>e (Sum.inl.inj q)
  rw [yAL h];exact (yCz.mpr e).symm
theorem zXB (a b : Str) : decide ((Sum.inr a : Key) = Sum.inr b) = decide (a = b):=by
 by_cases e : a = b
 ·subst e; simp
 ·have h : ¬ (Sum.inr a : Key) = Sum.inr b:=λq=>e (Sum.inr.inj q)
  rw [yAL h,yAL e]
theorem zXM (a : Int) (b : Str) : decide ((Sum.inl a : Key) = Sum.inr b) = false:=yAL (λq=>nomatch q)
theorem zWY (a : Str) (b : Int) : decide ((Sum.inr a : Key) = Sum.inl b) = false:=yAL (λq=>nomatch q)
noncomputable def zAM (prog : Program) (w : World) : PySem.KeyKind prog w Key where
 is:=zHY
 hash:=zb3 w
 inj:=λv a b ha hb=>by
  rcases zB1 ha with ⟨i,t,rfl,rfl⟩ | ⟨x,t,rfl,rfl⟩
  ·rcases zB1 hb with ⟨j,u,rfl,e⟩ | ⟨y,u,rfl,e⟩
   ·injection e with e1 _; rw [e1]
   ·exact nomatch e
  ·rcases zB1 hb with ⟨j,u,rfl,e⟩ | ⟨y,u,rfl,e⟩
   ·exact nomatch e
   ·injection e with e1 _; rw [e1]
 byValue:=λk v h=>by
  rcases zB1 h with ⟨i,t,rfl,rfl⟩ | ⟨x,t,rfl,rfl⟩ <;> rfl
 pyHash:=λhv h=>by
  rcases zB1 hv with ⟨i,t,rfl,rfl⟩ | ⟨x,t,rfl,rfl⟩
  ·exact wpAny_pyHash_int h
  ·exact wpAny_pyHash_str h
 eqBool:=λhu hv h=>by
  rcases zB1 hu with ⟨i,t,rfl,rfl⟩ | ⟨x,t,rfl,rfl⟩
  ·rcases zB1 hv with ⟨j,u,rfl,rfl⟩ | ⟨y,u,rfl,rfl⟩
   ·rw [zY2] at h; exact wpAny_eqBool_int h
   ·rw [zXM] at h; exact SeqAt.EqAt.int_str i t y u _ _ _ _ h
  ·rcases zB1 hv with ⟨j,u,rfl,rfl⟩ | ⟨y,u,rfl,rfl⟩
   ·rw [zWY] at h; exact SeqAt.EqAt.str_int x t j u _ _ _ _ h
   ·rw [zXB] at h; exact wpAny_eqBool_str h
 «strs» := λk x t v h=>by
  rcases zB1 h with ⟨i,u,rfl,e⟩ | ⟨y,u,rfl,e⟩
  ·exact nomatch e
  ·injection e with e1 _
   subst e1
   cases v <;> rfl
theorem zJB (prog : Program) (w : World) (i : Int) (t : Tok) : (zAM prog w).is (.inl i) (.int i t) = true:=zNZ i t
theorem zJE (prog : Program) (w : World) (x : Str) (t : Tok) : (zAM prog w).is (.inr x) (.str x t) = true:=zNJ x t
inductive V where
 | non | bl (b : Bool) | int (i : Int) | str (x : Str) | byt (b : Array UInt8) | flt (b : UInt64) | ref (a : Addr) | ty (n : String)
 deriving DecidableEq
noncomputable def RelV : V -> Value -> Prop
 | .non,u=>u = Value.none
 | .bl b,u=>u = Value.bool b
 | .int i,u=>∃ t,u = Value.int i t
 | .str x,u=>∃ t,u = Value.str x t
 | .byt b,u=>∃ t,u = Value.bytes b t
 | .flt b,u=>∃ t,u = Value.float b t
 | .ref a,u=>u = Value.ref a
 | .ty n,u=>u = Value.type n
noncomputable abbrev Vals : List V -> List Value -> Prop:=Paired RelV
theorem Vals.length {xs : List V} {us : List Value} (r : Vals xs us) : xs.length = us.length:=Paired.length r
theorem Vals.get : ∀ {xs : List V} {us : List Value} {i : Nat} {x : V},Vals xs us -> xs[i]? = some x -> ∃ u,us[i]? = some u/\RelV x u
 | _,_,_,_,.nil,e=>by simp at e
 | _,_,0,_,.cons r _,e=>by simp at e; subst e; exact ⟨_,rfl,r⟩
 | _,_,i + 1,x,.cons _ t,e=>by
  obtain ⟨u,h1,h2⟩:=Vals.get (i:=i) (x:=x) t (by simpa using e);exact ⟨u,by simpa using h1,h2⟩
theorem Vals.set {x : V} {u : Value} (r : RelV x u) : ∀ {xs : List V} {us : List Value} (i : Nat),Vals xs us -> Vals (xs.set i x) (us.set i u)
 | _,_,_,.nil => .nil
 | _,_,0,.cons _ t => .cons r t
 | _,_,i + 1,.cons q t => .cons q (Vals.set r i t)
theorem Vals.append : ∀ {xs ys : List V} {us ws : List Value},Vals xs us -> Vals ys ws -> Vals (xs++ys) (us++ws)
 | _,_,_,_,.nil,s=>s
 | _,_,_,_,.cons r t,s => .cons r (Vals.append t s)
theorem Vals.take : ∀ {xs : List V} {us : List Value} (n : Nat),Vals xs us -> Vals (xs.take n) (us.take n)
 | _,_,0,_ => .nil
 | _,_,_ + 1,.nil => .nil
 | _,_,n + 1,.cons r t => .cons r (Vals.take n t)
theorem Vals.drop : ∀ {xs : List V} {us : List Value} (n : Nat),Vals xs us -> Vals (xs.drop n) (us.drop n)
 | _,_,0,r=>r
 | _,_,_ + 1,.nil => .nil
 | _,_,n + 1,.cons _ t=>Vals.drop n t
noncomputable def RelO : Option V -> Option Value -> Prop
 | some v,some u=>RelV v u
 | none,none=>True
 | _,_=>False
noncomputable def KV {κ : Type} : List (κ × V) -> List (κ × Value) -> Prop:=Paired λ(p : κ × V) (q : κ × Value)=>p.1 = q.1/\RelV p.2 q.2
noncomputable def kV : Key -> V
 | .inl i => .int i
 | .inr x => .str x
inductive HO where
 | lst (xs : List V)
 | tup (xs : List V)
 | dK (kvs : List (Key × V)) | dT (kvs : List (List Key × V))
 | set (S : Int -> Bool) (n : Nat)
 | ins (C dx : Addr) (fs : List (Str × V))
 | own (x : Addr)
 | xd (fs : List (Str × V))
 | met (f x : Addr)
 | rng (lo hi : Int)
 | frz (o : Obj) (u : HO)
 | tbl (ps : Array Value)
 | ext (φ : Heap -> Prop)
noncomputable abbrev Hp:=Addr -> Option HO
noncomputable def upd (H : Hp) (a : Addr) (o : HO) : Hp:=λb=>if b = a then some o else H b
theorem zA1 {H : Hp} {a : Addr} {o : HO} : upd H a o a = some o:=by unfold upd; rw [yAK rfl]
theorem zA7 {H : Hp} {a b : Addr} {o : HO} (h : b≠a) : upd H a o b = H b:=by unfold upd; rw [yAN h]
theorem zZL {H : Hp} {a b : Addr} {o u : HO} (h : H a = some o) (h' : H b = some u) (d : o≠u) : a≠b:=by
 intro e; subst e; rw [h] at h'; exact d (Option.some.inj h')
theorem zA6 {H : Hp} {a b : Addr} {o : HO} (h : H a = some o) (h' : H b = none) : a≠b:=by
 intro e; subst e; rw [h] at h'; cases h'
section
variable (P : Program) (w : World)
noncomputable def ObjOk (H : Hp) (h : Heap) (a : Addr) : HO -> Prop
 | .lst xs=>xs.length <= sizeLine/\∃ (its : List Value) (n : Nat),Vals xs its/\h.get? a = some { cls := .type "list",data := .seq its.toArray n }
 | .tup xs=>xs.length <= sizeLine/\∃ its : List Value,Vals xs its/\IsTup h a its.toArray
 | .dK kvs=>kvs.length <= sizeLine/\(a == sysModules) = false/\∃ vs,KV kvs vs/\h.DictOf (zAM P w) a vs
 | .dT kvs=>kvs.length <= sizeLine/\(a == sysModules) = false/\∃ xs : List (List Key × Addr × Value),
   Paired (λ(p : List Key × V) (q : List Key × Addr × Value)=>p.1 = q.1/\H q.2.1 = some (.tup (p.1.map kV))/\RelV p.2 q.2.2) kvs xs /\
   ∃ o es ep,h.get? a = some o/\o.ExactDict/\o.data = .dict es ep/\es.toList = xs.map (entryOfKey (tupleKind (zAM P w)))/\(xs.map (·.1)).Nodup
 | .set S n=>h.SetOf (intKind P w) a S n
 | .ins C dx fs=>H dx = some (.own a)/\fs.length <= 1000/\dx≠a/\h.get? a = some (PySem.W.instObj C dx) /\
   ∃ mA,h.Ns1 dx mA/\(∀ f,RelO (fs.lookup f) (mA f))/\PySem.Within mA (fs.map (·.1))
 | .own _=>∃ o,h.get? a = some o
 | .xd fs=>∃ mA,h.Ns1 a mA/\∀ f,RelO (fs.lookup f) (mA f)
 | .rng lo hi=>∃ t u v,h.get? a = some { cls := .type "range",data := .fields #[.int lo t,.int hi u,.int 1 v] }
 | .frz o u=>h.get? a = some o/\ObjOk H h a u
 | .tbl ps=>h.get? a = some { cls := .none,data := .fields ps }
 | .met f x=>h.get? a = some (PySem.W.methodObj (.ref f) (.ref x))
 | .ext φ => φ h/\(∃ o,h.get? a = some o)/\∀ h1 h2 : Heap,φ h1 -> (∀ o,h1.get? a = some o -> h2.get? a = some o) -> φ h2
noncomputable def HOk (H : Hp) (h : Heap) : Prop:=∀ a o,H a = some o -> ObjOk P w H h a o
end
section
variable {P : Program} {w : World} {H H' : Hp} {h h' : Heap} {a : Addr} {o : HO}
theorem ObjOk.lt (x : ObjOk P w H h a o) : a < h.objs.size:=by
 cases o with
 | lst xs=>obtain ⟨_,_,_,_,e⟩:=x; exact yAI e
 | tup xs=>obtain ⟨_,_,_,p⟩:=x; exact p.lt
 | dK kvs=>obtain ⟨_,_,_,_,o,_,_,e,_⟩:=x; exact yAI e
 | dT kvs=>obtain ⟨_,_,_,_,o,_,_,e,_⟩:=x; exact yAI e
 | set S n=>obtain ⟨o,_,_,_,e,_⟩:=x; exact yAI e
 | ins C dx fs=>obtain ⟨_,_,_,e,_⟩:=x; exact yAI e
 | own y=>obtain ⟨_,e⟩:=x; exact yAI e
 | xd fs=>obtain ⟨_,⟨_,_,_,e,_⟩,_⟩:=x; exact yAI e
 | rng lo hi=>obtain ⟨_,_,_,e⟩:=x; exact yAI e
 | frz ob u=>obtain ⟨e,_⟩:=x; exact yAI e
 | tbl ps=>exact yAI (show h.get? a = some _ from x)
 | met f y=>exact yAI (show h.get? a = some _ from x)
 | ext φ => obtain ⟨_,⟨_,e⟩,_⟩:=x; exact yAI e
theorem Paired.mapP {α β : Type} {F G : α -> β -> Prop} {l₁ : List α} {l₂ : List β} (h : Paired F l₁ l₂) (f : ∀ a b,F a b -> G a b) : Paired G l₁ l₂ := by
 induction h with
 | nil=>exact .nil
 | cons r _ ih=>exact .cons (f _ _ r) ih
theorem ObjOk.stay (x : ObjOk P w H h a o) (k : ∀ b u,(b = a \/ H b = some (.own a)) -> h.get? b = some u -> h'.get? b = some u)
  (ho : ∀ b,H b = some (.own a) -> H' b = some (.own a)) (ht : ∀ b xs,H b = some (.tup xs) -> H' b = some (.tup xs)) : ObjOk P w H' h' a o:=by
 induction o with
 | lst xs=>obtain ⟨z,its,n,r,e⟩:=x; exact ⟨z,its,n,r,k _ _ (.inl rfl) e⟩
 | tup xs=>obtain ⟨z,its,r,ob,e,c⟩:=x; exact ⟨z,its,r,ob,k _ _ (.inl rfl) e,c⟩
 | dK kvs=>obtain ⟨z,y,vs,r,ob,es,ep,e,c⟩:=x; exact ⟨z,y,vs,r,ob,es,ep,k _ _ (.inl rfl) e,c⟩
 | dT kvs =>
  obtain ⟨z,y,xs,r,ob,es,ep,e,c⟩:=x;exact ⟨z,y,xs,Paired.mapP r λp q z=>⟨z.1,ht _ _ z.2.1,z.2.2⟩,ob,es,ep,k _ _ (.inl rfl) e,c⟩
 | set S n=>obtain ⟨ob,es,ep,t,e,c⟩:=x; exact ⟨ob,es,ep,t,k _ _ (.inl rfl) e,c⟩
 | ins C dx fs =>
  obtain ⟨d,z,ne,e,mA,⟨od,es,ep,e2,c⟩,r⟩:=x;exact ⟨ho _ d,z,ne,k _ _ (.inl rfl) e,mA,⟨od,es,ep,k _ _ (.inr d) e2,c⟩,r⟩
 | own y=>obtain ⟨ob,e⟩:=x; exact ⟨ob,k _ _ (.inl rfl) e⟩
 | xd fs=>obtain ⟨mA,⟨od,es,ep,e,c⟩,r⟩:=x; exact ⟨mA,⟨od,es,ep,k _ _ (.inl rfl) e,c⟩,r⟩
 | rng lo hi=>obtain ⟨t,u,v,e⟩:=x; exact ⟨t,u,v,k _ _ (.inl rfl) e⟩
 | frz ob u ih=>obtain ⟨e,q⟩:=x; exact ⟨k _ _ (.inl rfl) e,ih q⟩
 | tbl ps =>
  have e : h.get? a = some { cls := .none,data := .fields ps }:=x;show h'.get? a = some { cls := .none,data := .fields ps };exact k a _ (.inl rfl) e
 | met f y =>
  have e : h.get? a = some (PySem.W.methodObj (.ref f) (.ref y)):=x;show h'.get? a = some (PySem.W.methodObj (.ref f) (.ref y));exact k a _ (.inl rfl) e
 | ext φ => obtain ⟨p,⟨o,e⟩,st⟩:=x; exact ⟨st _ _ p λo q=>k _ _ (.inl rfl) q,⟨o,k _ _ (.inl rfl) e⟩,st⟩
theorem HOk.lt (x : HOk P w H h) (e : H a = some o) : a < h.objs.size:=(x a o e).lt
theorem HOk.fresh (x : HOk P w H h) (e : h.objs.size <= a) : H a = none:=by
 cases q : H a with
 | none=>rfl
 | some u=>exact absurd (yAg (x.lt q) e) (yBk _)
theorem HOk.kept (x : HOk P w H h) (k : ∀ b u,h.get? b = some u -> h'.get? b = some u) : HOk P w H h':=λa o e =>
 (x a o e).stay (λb u _ q=>k b u q) (λ_ q=>q) λ_ _ q=>q
theorem HOk.laid (x : HOk P w H h) (k : ∀ b u,h.get? b = some u -> h'.get? b = some u) (hp : h.objs.size <= a) (new : ObjOk P w (upd H a o) h' a o) : HOk P w (upd H a o) h':=λb u e=>by
 have hn:=x.fresh hp
 by_cases hb : b = a
 ·subst hb; rw [zA1] at e; cases e; exact new
 ·rw [zA7 hb] at e
  exact (x b u e).stay (λc v _ q=>k c v q) (λc q=>by rw [zA7 (zA6 q hn)]; exact q) λc xs q=>by rw [zA7 (zA6 q hn)]; exact q
end
noncomputable def Rd (H : Hp) (a : Addr) (u : HO) : Prop:=H a = some u \/ ∃ o,H a = some (.frz o u)
theorem Rd.ok {P : Program} {w : World} {H : Hp} {h : Heap} {a : Addr} {u : HO} (r : Rd H a u) (x : HOk P w H h) : ObjOk P w H h a u:=by
 rcases r with r | ⟨o,r⟩
 ·exact x a u r
 ·obtain ⟨_,q⟩:=x a _ r
  exact q
noncomputable def Mut : Option HO -> Prop
 | some (.lst _)=>True
 | some (.dK _)=>True
 | some (.dT _)=>True
 | some (.set _ _)=>True
 | some (.ins _ _ _)=>True
 | some (.ext _)=>True
 | _=>False
section
variable {P : Program} {w : World} {H : Hp} {h h' : Heap} {x e : Addr} {o' : HO}
theorem HOk.write (ok : HOk P w H h) (mu : Mut (H x)) (he : e = x \/ H e = some (.own x)) (k : ∀ b u,b≠e -> h.get? b = some u -> h'.get? b = some u) (heo : ∃ u,h'.get? e = some u)
  (new : ObjOk P w (upd H x o') h' x o') : HOk P w (upd H x o') h':=λb u q=>by
 have nown : ∀ c y,H c = some (.own y) -> c≠x:=λc y r z=>by subst z; rw [r] at mu; exact mu
 have ntup : ∀ c xs,H c = some (.tup xs) -> c≠x:=λc xs r z=>by subst z; rw [r] at mu; exact mu
 by_cases hb : b = x
 ·subst hb; rw [zA1] at q; cases q; exact new
 ·rw [zA7 hb] at q
  by_cases hbe : b = e
  ·have q' : H b = some (.own x):=by
    rcases he with z | z
    ·exact absurd (hbe.trans z) hb
    ·rw [hbe]; exact z
   rw [q] at q'; cases q';obtain ⟨v,hv⟩:=heo;exact ⟨v,by rw [hbe]; exact hv⟩
  ·refine (ok b u q).stay (λc v hc r=>k c v ?_ r) (λc r=>by rw [zA7 (nown c b r)]; exact r) λc xs r=>by rw [zA7 (ntup c xs r)]; exact r
   rcases hc with rfl | hc
   ·exact hbe
   ·rintro rfl
    rcases he with z | z
    ·exact nown c b hc z
    ·rw [hc] at z; cases z; exact hb rfl
end
structure Un (fs ex : List Addr) (H H' : Hp) (h h' : Heap) : Prop where
 keep : ∀ b o,h.get? b = some o -> H b = none -> b∉fs -> b∉ex -> h'.get? b = some o
 slot : ∀ b o,h.get? b = some o -> H b = none -> b∈fs -> b∉ex -> ∃ sl,h'.get? b = some { o with slots:=sl }
 free : ∀ b o,h.get? b = some o -> H b = none -> b∉ex -> H' b = none
 there : ∀ b o,h.get? b = some o -> b∉ex -> ∃ o',h'.get? b = some o'
 tups : ∀ b xs,H b = some (.tup xs) -> H' b = some (.tup xs)
 frzs : ∀ b o u,H b = some (.frz o u) -> H' b = some (.frz o u)
 tbls : ∀ b ps,H b = some (.tbl ps) -> ∃ more,H' b = some (.tbl (ps++more))
section
variable {fs fs' ex ex' : List Addr} {H H1 H2 : Hp} {h h1 h2 h' : Heap} {a x e : Addr} {o : HO}
theorem Un.any (u : Un fs ex H H1 h h1) {b : Addr} {ob : Obj} (q : h.get? b = some ob) (n : H b = none) (hx : b∉ex) : ∃ sl,h1.get? b = some { ob with slots:=sl }:=by
 by_cases hb : b∈fs
 ·exact u.slot b ob q n hb hx
 ·exact ⟨ob.slots,u.keep b ob q n hb hx⟩
theorem Un.kept (k : ∀ b u,h.get? b = some u -> h'.get? b = some u) : Un fs ex H H h h' :=
 ⟨λb ob q _ _ _=>k b ob q,λb ob q _ _ _=>⟨ob.slots,k b ob q⟩,λ_ _ _ n _=>n,λb ob q _=>⟨ob,k b ob q⟩,λ_ _ q=>q,λ_ _ _ q=>q,λ_ ps q=>⟨#[],by rw [q]; simp⟩⟩
theorem Un.refl : Un fs ex H H h h:=Un.kept λ_ _ q=>q
theorem Un.laid (k : ∀ b u,h.get? b = some u -> h'.get? b = some u) (hp : h.objs.size <= a) (hn : H a = none) : Un fs ex H (upd H a o) h h' where
 keep:=λb u q _ _ _=>k b u q
 slot:=λb u q _ _ _=>⟨u.slots,k b u q⟩
 free:=λb u q n _=>by rw [zA7 (yAh (yAg (yAI q) hp))]; exact n
 there:=λb u q _=>⟨u,k b u q⟩
 tups:=λb xs q=>by rw [zA7 (zA6 q hn)]; exact q
 frzs:=λb u xs q=>by rw [zA7 (zA6 q hn)]; exact q
 tbls:=λb ps q=>⟨#[],by rw [zA7 (zA6 q hn),q]; simp⟩
theorem Un.write (mu : Mut (H x)) (he : e = x \/ H e = some (.own x)) (k : ∀ b u,b≠e -> h.get? b = some u -> h'.get? b = some u) (heo : ∃ u,h'.get? e = some u) : Un fs ex H (upd H x o) h h':=by
 have hx : ∀ b,H b = none -> b≠x:=λb n z=>by subst z; rw [n] at mu; exact mu
 have hb : ∀ b,H b = none -> b≠e:=λb n z=>by
  subst z
  rcases he with r | r
  ·exact hx b n r
  ·rw [n] at r; cases r
 have hm : ∀ b u,H b = some u -> ¬ Mut (some u) -> b≠x:=λb u q nm z=>by subst z; rw [q] at mu; exact nm mu
 refine ⟨λb u q n _ _=>k b u (hb b n) q,λb u q n _ _=>⟨u.slots,k b u (hb b n) q⟩,λb u q n _=>by rw [zA7 (hx b n)]; exact n,λb u q _ => ?_,
  λb xs q=>by rw [zA7 (hm b _ q λz=>z)]; exact q,λb u xs q=>by rw [zA7 (hm b _ q λz=>z)]; exact q,λb ps q=>⟨#[],by rw [zA7 (hm b _ q λz=>z),q]; simp⟩⟩
 by_cases hbe : b = e
 ·subst hbe; exact heo
 ·exact ⟨u,k b u hbe q⟩
end
noncomputable def trk (h : Heap) (H : Hp) : List Addr:=(List.range h.objs.size).filter λa=>(H a).isSome
noncomputable def zRP (h : Heap) (H : Hp) : Heap:=PySem.W.hideAll h (trk h H)
theorem zO5 (h : Heap) (H : Hp) : (zRP h H).objs.size = h.objs.size:=PySem.W.hideAll_size _ _
theorem zQQ {h : Heap} {H : Hp} {b : Addr} {o : Obj} (e : h.get? b = some o) (n : H b = none) : (zRP h H).get? b = some o :=
 PySem.W.hideAll_get _ e λhm=>by
  have q : (H b).isSome = true:=(yBx.mp hm).2;rw [n] at q; simp at q
theorem zVP {h : Heap} {H : Hp} {b : Addr} {o : Obj} (e : (zRP h H).get? b = some o) : h.get? b = some o/\H b = none:=by
 have e' : h.get? b = some o:=PySem.W.of_hideAll (trk h H) e;refine ⟨e',?_⟩
 cases q : H b with
 | none=>rfl
 | some x =>
  have hm : b∈trk h H:=yBx.mpr ⟨yBL.mpr (yAI e'),by simp [q]⟩;have z : (zRP h H).get? b = none:=PySem.W.hideAll_none (trk h H) hm;rw [z] at e; cases e
noncomputable def zVF (g h : Heap) (L : Addr) : List (Addr × Obj):=(List.range h.objs.size).filterMap λa=>if a = L \/ (g.get? a).isSome = true then none else (h.get? a).map λo=>(a,o)
noncomputable def rest (g h : Heap) (L d : Addr) : List (Addr × Obj):=(zVF g h L).filter λp=>decide (p.1≠d)
structure Mod (K : PySem.W.Frag) (mg : Str -> Option Value) (base : Heap) : Prop where
 kin : K.In base
 glob : base.Ns mainGlobals mg
 blt : ∃ mb,base.Ns builtinsNs mb/\∀ x : Str,x≠"__name__" -> mb x = bootBuiltins x
 nolimit : base.NoLimit
structure Cx where
 prog : Program
 w : World
 K : PySem.W.Frag
 mg : Str -> Option Value
 base : Heap
 A : Around
 N : List Str
 s₀ : Shared
 H₀ : Hp
 env : Env
 outer : List Env
 stack : List Env
 ex : List Addr
 fn : Str -> Bool
 calm : Bool
 pn : List (Addr × Obj)
 xe : Value -> Shared -> Prop
noncomputable def frs (l : List Env) : List Addr:=l.filterMap (·.frame)
noncomputable abbrev Cx.fs (X : Cx) : List Addr:=frs X.outer
noncomputable def Vis (sc : Scope) (x : Str) : Prop:=sc.names.lookup x = some .local \/ sc.names.lookup x = some .cell \/ sc.names.lookup x = some .free
noncomputable def Loc (sc : Scope) (x : Str) : Prop:=sc.names.lookup x = some .local \/ sc.names.lookup x = some .cell
noncomputable def zaE (env : Env) (h : Heap) (m : Str -> Option Value) (x : Str) (u : Value) : Prop :=
 (env.kindOf x = some .local/\m x = some u) \/ ((env.kindOf x = some .cell \/ env.kindOf x = some .free)/\∃ c,env.cells.lookup x = some c/\h.IsCell c (some u))
structure Cx.Ok (X : Cx) : Prop where
 mod : Mod X.K X.mg X.base
 kind : X.env.scope.kind = .function
 glob : X.env.globals = mainGlobals
 blt : X.env.builtins = builtinsNs
 above : X.s₀.heap.objs.size <= X.env.locals
 inj : ∀ x y c,X.env.cells.lookup x = some c -> X.env.cells.lookup y = some c -> x = y
 has : ∀ x,(X.env.kindOf x = some .cell \/ X.env.kindOf x = some .free) -> ∃ c,X.env.cells.lookup x = some c
 cab : ∀ x c,X.fn x = true -> X.env.cells.lookup x = some c -> X.s₀.heap.objs.size <= c
 hd : X.calm = true -> X.A.handled = none
 frames : X.A.frames = some X.stack
 stk : X.stack = X.outer \/ (X.stack = X.env::X.outer/\X.env.frame = some X.env.locals)
 exf : ∀ b∈X.ex,b≠X.env.locals/\∀ x c,X.env.cells.lookup x = some c -> c≠b
 bs : ∀ b o,X.base.get? b = some o -> X.s₀.heap.get? b = some o/\X.H₀ b = none
 bsz : X.base.objs.size <= X.s₀.heap.objs.size
 noex : ∀ b o,X.base.get? b = some o -> b∉X.ex
 exfs : ∀ b∈X.ex,b∉X.fs
 funs : X.s₀.heap.FunFrames X.base X.outer
 frf : ∀ b∈X.fs,X.H₀ b = none
structure Inv (X : Cx) (pins : List (Addr × Obj)) (σ : List (Option V)) (H : Hp) (s : Shared) : Prop where
 ok : X.Ok
 os : s.os = X.s₀.os
 bare : AllBare s.gens
 base : Un X.fs X.ex X.H₀ H X.s₀.heap s.heap
 loc : ∃ m,s.heap.Ns X.env.locals m/\∀ (i : Nat) (x : Str) (v : V),X.N[i]? = some x -> σ[i]? = some (some v) -> Vis X.env.scope x -> ∃ u,RelV v u/\zaE X.env s.heap m x u
 cell : ∀ x c,X.env.cells.lookup x = some c -> ∃ v,s.heap.IsCell c v
 free : H X.env.locals = none
 freeC : ∀ x c,X.env.cells.lookup x = some c -> H c = none
 pin : ∀ p∈X.pn++pins,s.heap.get? p.1 = some p.2/\H p.1 = none/\p.1≠X.env.locals/\p.1∉X.fs/\∀ v,p.2.data ≠ .cell v
 hok : HOk X.prog X.w H s.heap
 len : σ.length = X.N.length
section
variable {X : Cx} {pins : List (Addr × Obj)} {σ : List (Option V)} {H H' : Hp} {s : Shared} {h' : Heap}
theorem Cx.Ok.nofr (ok : X.Ok) {b : Addr} {o : Obj} (e : X.base.get? b = some o) : b∉X.fs:=λhb=>by
 have:=(ok.funs.mem hb).1
 rw [e] at this; cases this
theorem Inv.bs (I : Inv X pins σ H s) : ∀ b o,X.base.get? b = some o -> s.heap.get? b = some o/\H b = none:=λb o e =>
 ⟨I.base.keep b o (I.ok.bs b o e).1 (I.ok.bs b o e).2 (I.ok.nofr e) (I.ok.noex b o e),I.base.free b o (I.ok.bs b o e).1 (I.ok.bs b o e).2 (I.ok.noex b o e)⟩
theorem Inv.bk (I : Inv X pins σ H s) : ∀ b o,X.base.get? b = some o -> s.heap.get? b = some o:=λb o e=>(I.bs b o e).1
theorem Inv.mod (I : Inv X pins σ H s) : Mod X.K X.mg X.base:=I.ok.mod
theorem Inv.kIn (I : Inv X pins σ H s) : X.K.In s.heap:=I.ok.mod.kin.keeps I.bk
theorem Inv.fr (I : Inv X pins σ H s) : ∃ m,Fr X.base X.env.locals s.heap m :=
 let ⟨m,hn,_⟩:=I.loc
 ⟨m,hn,I.bk,yAz I.ok.bsz I.ok.above⟩
theorem Inv.lt (I : Inv X pins σ H s) : X.env.locals < s.heap.objs.size:=let ⟨_,hn,_⟩:=I.loc; hn.lt
theorem Inv.sz (I : Inv X pins σ H s) : X.s₀.heap.objs.size <= s.heap.objs.size:=yAz I.ok.above (yDq I.lt)
theorem Inv.nofs (I : Inv X pins σ H s) {a : Addr} (h : s.heap.objs.size <= a) : a∉X.fs:=λhb=>by
 obtain ⟨_,o,ho,_⟩:=I.ok.funs.mem hb;exact absurd (yAg (yAI ho) (yAz I.sz h)) (yBk _)
theorem Inv.cne (I : Inv X pins σ H s) : ∀ x c,X.env.cells.lookup x = some c -> c≠X.env.locals:=λx c e z=>by
 obtain ⟨v,o,ho,hd⟩:=I.cell x c e;obtain ⟨m,⟨o',es,ep,ho',hd',_⟩,_⟩:=I.loc;rw [z,ho'] at ho; cases ho; rw [hd'] at hd; cases hd
theorem Inv.funs (I : Inv X pins σ H s) : s.heap.FunFrames X.base X.outer:=by
 have all : ∀ (l : List Env),(∀ b∈frs l,b∈X.fs) -> X.s₀.heap.FunFrames X.base l -> s.heap.FunFrames X.base l:=by
  intro l
  induction l with
  | nil=>intro _ _; exact trivial
  | cons env r ih =>
   intro hs hl;obtain ⟨hk,⟨L,o,hf,hn,ho,hd⟩,hr⟩:=hl;have hL : L∈X.fs:=hs L (by unfold frs; rw [yBu,hf]; exact yAQ);obtain ⟨sl,e⟩:=I.base.slot L o ho (I.ok.frf L hL) hL λz=>I.ok.exfs L z hL;exact ⟨hk,⟨L,_,hf,hn,e,hd⟩,ih (λb hb=>hs b (by unfold frs; rw [yBu,hf]; exact yAP _ hb)) hr⟩
 exact all X.outer (λ_ hb=>hb) I.ok.funs
theorem Inv.stack (I : Inv X pins σ H s) : s.heap.FunFrames X.base X.stack:=by
 rcases I.ok.stk with e | ⟨e,hf⟩
 ·rw [e]; exact I.funs
 ·rw [e]
  obtain ⟨m,hn,_⟩:=I.loc;refine .cons (by rw [I.ok.kind]; decide) hf hn ?_ I.funs;exact Heap.get?_none_of_le (yAz I.ok.bsz I.ok.above)
theorem Inv.stkSub (I : Inv X pins σ H s) : ∀ b∈frs X.stack,b∈X.env.locals::X.fs:=λb hb=>by
 rcases I.ok.stk with e | ⟨e,hf⟩
 ·rw [e] at hb; exact yAP _ hb
 ·rw [e] at hb
  unfold frs at hb;rw [yBu,hf] at hb;exact hb
theorem Inv.stkFree (I : Inv X pins σ H s) : ∀ b∈frs X.stack,H b = none:=λb hb=>by
 rcases yAd.mp (I.stkSub b hb) with e | hb
 ·rw [e]; exact I.free
 ·obtain ⟨_,o,ho,_⟩:=I.ok.funs.mem hb
  exact I.base.free b o ho (I.ok.frf b hb) λz=>I.ok.exfs b z hb
theorem Inv.step {g' : Array GenState} {t' : Nat} {d' : Drawn} {ch : List Addr} (I : Inv X pins σ H s)
  (hch : ∀ b∈ch,(b∈X.ex \/ X.s₀.heap.objs.size <= b)/\b≠X.env.locals/\(∀ x c,X.env.cells.lookup x = some c -> c≠b)/\∀ p∈X.pn++pins,p.1≠b)
  (keep : ∀ b o,b≠X.env.locals -> b∉X.fs -> b∉ch -> s.heap.get? b = some o -> H b = none -> h'.get? b = some o)
  (slot : ∀ b o,b≠X.env.locals -> b∈X.fs -> b∉ch -> s.heap.get? b = some o -> H b = none -> ∃ sl,h'.get? b = some { o with slots:=sl }) (free : ∀ b o,b∉ch -> s.heap.get? b = some o -> H b = none -> H' b = none)
  (there : ∀ b o,b∉ch -> s.heap.get? b = some o -> ∃ o',h'.get? b = some o')
  (tups : ∀ b xs,H b = some (.tup xs) -> H' b = some (.tup xs)) (frzs : ∀ b o u,H b = some (.frz o u) -> H' b = some (.frz o u)) (tbls : ∀ b ps,H b = some (.tbl ps) -> ∃ more,H' b = some (.tbl (ps++more)))
  (ns : ∀ m,s.heap.Ns X.env.locals m -> h'.Ns X.env.locals m) (hok : HOk X.prog X.w H' h') (hg : AllBare g') :
  Inv X pins σ H' { s with heap:=h',gens:=g',drawn:=d',toks:=t' }:=by
 have neL : ∀ b o,X.s₀.heap.get? b = some o -> b≠X.env.locals:=λb o e=>yAh (yAg (yAI e) I.ok.above)
 have neC : ∀ b o,X.s₀.heap.get? b = some o -> b∉X.ex -> b∉ch:=λb o e hx hb=>by
  rcases (hch b hb).1 with z | z
  ·exact hx z
  ·exact absurd (yAg (yAI e) z) (yBk _)
 have cellK : ∀ x c,X.env.cells.lookup x = some c -> ∀ v,s.heap.IsCell c v -> h'.IsCell c v:=λx c e v ⟨o,ho,hd⟩=>by
  have nch : c∉ch:=λz=>(hch c z).2.2.1 x c e rfl
  by_cases hc : c∈X.fs
  ·obtain ⟨sl,q⟩:=slot c o (I.cne x c e) hc nch ho (I.freeC x c e)
   exact ⟨_,q,hd⟩
  ·exact ⟨o,keep c o (I.cne x c e) hc nch ho (I.freeC x c e),hd⟩
 refine ⟨I.ok,I.os,hg,⟨λb o e n hb hx => ?_,λb o e n hb hx => ?_,λb o e n hx => ?_,λb o e hx => ?_,λb xs e=>tups b xs (I.base.tups b xs e),λb o xs e=>frzs b o xs (I.base.frzs b o xs e),λb ps e => ?_⟩,?_,λx c e => ?_,?_,λx c e => ?_,λp hp => ?_,hok,I.len⟩
 ·exact keep b o (neL b o e) hb (neC b o e hx) (I.base.keep b o e n hb hx) (I.base.free b o e n hx)
 ·obtain ⟨sl,e1⟩:=I.base.slot b o e n hb hx
  obtain ⟨sl',e2⟩:=slot b _ (neL b o e) hb (neC b o e hx) e1 (I.base.free b o e n hx);exact ⟨sl',e2⟩
 ·obtain ⟨o',e1⟩:=I.base.there b o e hx
  exact free b o' (neC b o e hx) e1 (I.base.free b o e n hx)
 ·obtain ⟨o',e1⟩:=I.base.there b o e hx
  exact there b o' (neC b o e hx) e1
 ·obtain ⟨m1,e1⟩:=I.base.tbls b ps e
  obtain ⟨m2,e2⟩:=tbls b _ e1;exact ⟨m1++m2,by rw [e2,Array.append_assoc]⟩
 ·obtain ⟨m,hn,hl⟩:=I.loc
  refine ⟨m,ns m hn,λi x v e1 e2 e3 => ?_⟩;obtain ⟨u,r,l⟩:=hl i x v e1 e2 e3;refine ⟨u,r,?_⟩
  rcases l with l | ⟨k,c,e,z⟩
  ·exact .inl l
  ·exact .inr ⟨k,c,e,cellK x c e _ z⟩
 ·obtain ⟨v,z⟩:=I.cell x c e
  exact ⟨v,cellK x c e v z⟩
 ·obtain ⟨m,⟨o,_,_,ho,_⟩,_⟩:=I.loc
  exact free _ o (λz=>(hch _ z).2.1 rfl) ho I.free
 ·obtain ⟨v,o,ho,hd⟩:=I.cell x c e
  exact free c o (λz=>(hch c z).2.2.1 x c e rfl) ho (I.freeC x c e)
 ·obtain ⟨e,n,ne,nf,d⟩:=I.pin p hp
  have nch : p.1∉ch:=λz=>(hch p.1 z).2.2.2 p hp rfl;exact ⟨keep p.1 p.2 ne nf nch e n,free p.1 p.2 nch e n,ne,nf,d⟩
theorem Inv.un {t' : Nat} (I : Inv X pins σ H s) (u : Un X.fs [] H H' s.heap h') (hok : HOk X.prog X.w H' h') : Inv X pins σ H' { s with heap:=h',toks:=t' }:=by
 obtain ⟨m,⟨o,es,ep,ho,r⟩,_⟩:=id I.loc;obtain ⟨sl,hL⟩:=u.any ho I.free (by simp)
 exact I.step (g':=s.gens) (d':=s.drawn) (ch:=[]) (λ_ z=>nomatch z) (λb o _ hb _ e n=>u.keep b o e n hb (by simp)) (λb o _ hb _ e n=>u.slot b o e n hb (by simp)) (λb o _ e n=>u.free b o e n (by simp)) (λb o _ e=>u.there b o e (by simp)) u.tups u.frzs u.tbls (λm' hm=>by
  obtain ⟨o',es',ep',ho',r'⟩:=hm;rw [ho] at ho'; cases ho';exact ⟨_,es',ep',hL,r'⟩) hok I.bare
theorem Inv.call {g' : Array GenState} {t' : Nat} {d' : Drawn} {ch : List Addr} (I : Inv X pins σ H s) (u : Un (frs X.stack) ch H H' s.heap h') (hok : HOk X.prog X.w H' h') (hg : AllBare g')
  (hch : ∀ b∈ch,(b∈X.ex \/ X.s₀.heap.objs.size <= b)/\b≠X.env.locals/\(∀ x c,X.env.cells.lookup x = some c -> c≠b)/\∀ p∈X.pn++pins,p.1≠b) :
  Inv X pins σ H' { s with heap:=h',gens:=g',drawn:=d',toks:=t' }:=by
 obtain ⟨m,⟨o,es,ep,ho,r⟩,_⟩:=id I.loc;obtain ⟨sl,hL⟩:=u.any ho I.free λz=>(hch _ z).2.1 rfl
 exact I.step (ch:=ch) hch (λb o hL hb hc e n=>u.keep b o e n (λz=>(yAd.mp (I.stkSub b z)).elim hL hb) hc) (λb o _ _ hc e n=>u.any e n hc) (λb o hc e n=>u.free b o e n hc) (λb o hc e=>u.there b o e hc) u.tups u.frzs u.tbls (λm' hm=>by
  obtain ⟨o',es',ep',ho',r'⟩:=hm;rw [ho] at ho'; cases ho';exact ⟨_,es',ep',hL,r'⟩) hok hg
theorem Inv.turned {t' : Nat} {it : Addr} (I : Inv X pins σ H s) (k : ∀ b o,b≠it -> s.heap.get? b = some o -> h'.get? b = some o) (hn : H it = none) (hL : it≠X.env.locals)
  (h1 : it∈X.ex \/ X.s₀.heap.objs.size <= it) (h2 : ∀ x c,X.env.cells.lookup x = some c -> c≠it) (h3 : ∀ p∈X.pn++pins,p.1≠it) : Inv X pins σ H { s with heap:=h',toks:=t' }:=by
 have nit : ∀ b u,H b = some u -> b≠it:=λb u e z=>by rw [z,hn] at e; cases e
 refine I.step (g':=s.gens) (d':=s.drawn) (ch:=[it]) (λb hb => ?_) (λb o _ _ hc e _=>k b o (λz=>hc (by simp [z])) e) (λb o _ _ hc e _=>⟨o.slots,k b o (λz=>hc (by simp [z])) e⟩) (λ_ _ _ _ n=>n)
  (λb o hc e=>⟨o,k b o (λz=>hc (by simp [z])) e⟩) (λ_ _ e=>e) (λ_ _ _ e=>e) (λb ps e=>⟨#[],by rw [e]; simp⟩) (λm hm => ?_) (λb u e => ?_) I.bare
 ·have e : b = it:=by simpa using hb
  subst e;exact ⟨h1,hL,h2,h3⟩
 ·obtain ⟨o,es,ep,ho,r⟩:=hm
  exact ⟨o,es,ep,k _ o (Ne.symm hL) ho,r⟩
 ·refine (I.hok b u e).stay (λc v hc q=>k c v ?_ q) (λ_ q=>q) λ_ _ q=>q
  rcases hc with z | z
  ·rw [z]; exact nit b u e
  ·exact nit c _ z
theorem Inv.tok (I : Inv X pins σ H s) (t : Nat) : Inv X pins σ H { s with toks:=t }:=I.un (h':=s.heap) (t':=t) Un.refl I.hok
theorem Inv.kept {t' : Nat} (I : Inv X pins σ H s) (k : ∀ b u,s.heap.get? b = some u -> h'.get? b = some u) : Inv X pins σ H { s with heap:=h',toks:=t' }:=I.un (Un.kept k) (I.hok.kept k)
theorem Inv.laid {a : Addr} {o : HO} {t' : Nat} (I : Inv X pins σ H s) (k : ∀ b u,s.heap.get? b = some u -> h'.get? b = some u) (hp : s.heap.objs.size <= a) (new : ObjOk X.prog X.w (upd H a o) h' a o) :
  Inv X pins σ (upd H a o) { s with heap:=h',toks:=t' }:=I.un (Un.laid k hp (I.hok.fresh hp)) (I.hok.laid k hp new)
theorem Inv.write {x e : Addr} {o : HO} {t' : Nat} (I : Inv X pins σ H s) (mu : Mut (H x)) (he : e = x \/ H e = some (.own x)) (k : ∀ b u,b≠e -> s.heap.get? b = some u -> h'.get? b = some u) (heo : ∃ u,h'.get? e = some u)
  (new : ObjOk X.prog X.w (upd H x o) h' x o) : Inv X pins σ (upd H x o) { s with heap:=h',toks:=t' }:=I.un (Un.write mu he k heo) (I.hok.write mu he k heo new)
theorem Inv.weak {σ' : List (Option V)} (I : Inv X pins σ H s) (hl : σ'.length = σ.length) (w : ∀ (i : Nat) v,σ'[i]? = some (some v) -> σ[i]? = some (some v)) : Inv X pins σ' H s :=
 ⟨I.ok,I.os,I.bare,I.base,let ⟨m,hn,hl'⟩:=I.loc; ⟨m,hn,λi x v e1 e2 e3=>hl' i x v e1 (w i v e2) e3⟩,I.cell,I.free,I.freeC,I.pin,I.hok,hl.trans I.len⟩
theorem Inv.pins_of {pins' : List (Addr × Obj)} (I : Inv X pins σ H s) (h : ∀ p∈pins',s.heap.get? p.1 = some p.2/\H p.1 = none/\p.1≠X.env.locals/\p.1∉X.fs/\∀ v,p.2.data ≠ .cell v) : Inv X pins' σ H s :=
 ⟨I.ok,I.os,I.bare,I.base,I.loc,I.cell,I.free,I.freeC,λp hp=>(yAm.mp hp).elim (λz=>I.pin p (yBa _ z)) (h p),I.hok,I.len⟩
theorem zGS {N : List Str} (hN : N.Nodup) {i j : Nat} {x : Str} (a : N[i]? = some x) (b : N[j]? = some x) : i = j:=by
 obtain ⟨h1,e1⟩:=yAE.mp a;obtain ⟨h2,e2⟩:=yAE.mp b;exact (yCh hN).mp (e1.trans e2.symm)
theorem zIQ {M : Model} {A : Around} {E : Value -> Shared -> Prop} {i : Nat} {x : Str} {v : V} {u : Value} {Q : Unit -> Shared -> Prop} (I : Inv X pins σ H s) (hN : X.N.Nodup) (hi : X.N[i]? = some x) (hx : Loc X.env.scope x) (r : RelV v u)
  (h : ∀ s',Inv X pins (σ.set i (some v)) H s' -> (∃ a,Heap.SameBut a s.heap s'.heap/\(a = X.env.locals \/ X.env.cells.lookup x = some a)) -> Q () s') (hf : X.fn x = true \/ X.env.scope.names.lookup x = some .local:=by first | exact .inl rfl | exact .inr rfl | assumption) : wpAny M A (storeName X.env x u) Q E s:=by
 obtain ⟨m,hn,hl⟩:=id I.loc;have hcls : (X.env.scope.kind == .class||(X.env.scope.kind == .module&&X.env.locals != X.env.globals)) = false:=by rw [I.ok.kind]; rfl
 have hiσ : i < σ.length:=by rw [I.len]; exact (yAE.mp hi).1
 have cne:=I.cne
 have tracked : ∀ {a : Addr} {h' : Heap},(∃ o,s.heap.get? a = some o/\H a = none) -> Heap.SameBut a s.heap h' -> HOk X.prog X.w H h':=λ{a h'} ha hs b ob e=>by
  obtain ⟨_,_,hfree⟩:=ha;refine (I.hok b ob e).stay (λc w' hc q=>(hs.2 c ?_).trans q) (λ_ q=>q) λ_ _ q=>q
  rintro rfl
  rcases hc with rfl | hc
  ·rw [hfree] at e; cases e
  ·rw [hfree] at hc; cases hc
 rcases hx with hk | hk
 ·refine wpAny_storeName_local hk hn (λh' hn' hs => ?_) hcls
  obtain ⟨oL,_,_,hoL,_⟩:=id hn;refine h _ ⟨I.ok,I.os,I.bare,⟨λb o e n hb hx => ?_,λb o e n hb hx => ?_,I.base.free,λb o e hx => ?_,I.base.tups,I.base.frzs,I.base.tbls⟩,⟨_,hn',λj y v' e1 e2 e3 => ?_⟩,λy c e => ?_,I.free,I.freeC,λp hp => ?_,tracked ⟨oL,hoL,I.free⟩ hs,by simpa using I.len⟩ ⟨_,hs,.inl rfl⟩
  ·exact (hs.2 b (yAh (yAg (yAI e) I.ok.above))).trans (I.base.keep b o e n hb hx)
  ·obtain ⟨sl,e1⟩:=I.base.slot b o e n hb hx
   exact ⟨sl,(hs.2 b (yAh (yAg (yAI e) I.ok.above))).trans e1⟩
  ·obtain ⟨o',e1⟩:=I.base.there b o e hx
   exact ⟨o',(hs.2 b (yAh (yAg (yAI e) I.ok.above))).trans e1⟩
  ·by_cases hj : j = i
   ·subst hj
    rw [hi] at e1; cases e1;rw [yDQ hiσ] at e2
    cases e2
    exact ⟨u,r,.inl ⟨hk,by simp⟩⟩
   ·rw [List.getElem?_set_ne (Ne.symm hj)] at e2
    obtain ⟨u',r',q⟩:=hl j y v' e1 e2 e3;refine ⟨u',r',?_⟩
    rcases q with ⟨k,e⟩ | ⟨k,c,e,z⟩
    ·refine .inl ⟨k,?_⟩
     have : y≠x:=λe=>hj (zGS hN e1 (e ▸ hi))
     simp [this,e]
    ·exact .inr ⟨k,c,e,z.sameBut hs (cne y c e)⟩
  ·obtain ⟨w',z⟩:=I.cell y c e
   exact ⟨w',z.sameBut hs (cne y c e)⟩
  ·obtain ⟨e,n,ne,nf,d⟩:=I.pin p hp
   exact ⟨(hs.2 p.1 ne).trans e,n,ne,nf,d⟩
 ·have hfn : X.fn x = true:=by
   rcases hf with z | z
   ·exact z
   ·rw [z] at hk; cases hk
  obtain ⟨c,hc⟩:=I.ok.has x (.inl hk);obtain ⟨w',z⟩:=I.cell x c hc;refine wpAny_storeName_cell I.ok.kind hk hc z (λh' hc' hs => ?_);obtain ⟨oc,hoc,hocd⟩:=id z;refine h { s with heap:=h' } ⟨I.ok,I.os,I.bare,⟨λb o e n hb hx => ?_,λb o e n hb hx => ?_,I.base.free,λb o e hx => ?_,I.base.tups,I.base.frzs,I.base.tbls⟩,⟨m,hn.sameBut hs (Ne.symm (cne x c hc)),λj y v' e1 e2 e3 => ?_⟩,λy c' e => ?_,I.free,I.freeC,λp hp => ?_,tracked ⟨oc,hoc,I.freeC x c hc⟩ hs,by simpa using I.len⟩ ⟨c,hs,.inr hc⟩
  ·exact (hs.2 b (yAh (yAg (yAI e) (I.ok.cab x c hfn hc)))).trans (I.base.keep b o e n hb hx)
  ·obtain ⟨sl,e1⟩:=I.base.slot b o e n hb hx
   exact ⟨sl,(hs.2 b (yAh (yAg (yAI e) (I.ok.cab x c hfn hc)))).trans e1⟩
  ·obtain ⟨o',e1⟩:=I.base.there b o e hx
   exact ⟨o',(hs.2 b (yAh (yAg (yAI e) (I.ok.cab x c hfn hc)))).trans e1⟩
  ·by_cases hj : j = i
   ·subst hj
    rw [hi] at e1; cases e1;rw [yDQ hiσ] at e2
    cases e2
    exact ⟨u,r,.inr ⟨.inl hk,c,hc,hc'⟩⟩
   ·rw [List.getElem?_set_ne (Ne.symm hj)] at e2
    obtain ⟨u',r',q⟩:=hl j y v' e1 e2 e3;refine ⟨u',r',?_⟩
    rcases q with q | ⟨k,c',e,z'⟩
    ·exact .inl q
    ·refine .inr ⟨k,c',e,z'.sameBut hs ?_⟩
     rintro rfl
     exact hj (zGS hN e1 (I.ok.inj _ _ _ e hc ▸ hi))
  ·by_cases hcc : c' = c
   ·subst hcc; exact ⟨_,hc'⟩
   ·obtain ⟨w2,z2⟩:=I.cell y c' e
    exact ⟨w2,z2.sameBut hs hcc⟩
  ·obtain ⟨e,n,ne,nf,d⟩:=I.pin p hp
   refine ⟨(hs.2 p.1 ?_).trans e,n,ne,nf,d⟩;intro q;rw [q,hoc] at e;have q' : oc = p.2:=Option.some.inj e;exact d w' (by rw [<- q']; exact hocd)
theorem zDV {M : Model} {A : Around} {E : Value -> Shared -> Prop} {i : Nat} {x : Str} {v : V} {u : Value} {Q : Unit -> Shared -> Prop} (I : Inv X pins σ H s) (hN : X.N.Nodup) (hi : X.N[i]? = some x) (hx : Loc X.env.scope x) (r : RelV v u)
  (h : ∀ s',Inv X pins (σ.set i (some v)) H s' -> Q () s') (hf : X.fn x = true \/ X.env.scope.names.lookup x = some .local:=by first | exact .inl rfl | exact .inr rfl | assumption) : wpAny M A (storeName X.env x u) Q E s :=
 zIQ I hN hi hx r (λs' I' _=>h s' I') hf
theorem Inv.call' {s' : Shared} {ch : List Addr} (I : Inv X pins σ H s) (ho : s'.os = s.os) (u : Un (frs X.stack) ch H H' s.heap s'.heap) (hok : HOk X.prog X.w H' s'.heap) (hg : AllBare s'.gens)
  (hch : ∀ b∈ch,(b∈X.ex \/ X.s₀.heap.objs.size <= b)/\b≠X.env.locals/\(∀ x c,X.env.cells.lookup x = some c -> c≠b)/\∀ p∈X.pn++pins,p.1≠b) : Inv X pins σ H' s':=by
 obtain ⟨h',g',d',t',o'⟩:=s';have e : o' = s.os:=ho;subst e;exact I.call (g':=g') (t':=t') (d':=d') u hok hg hch
end
noncomputable abbrev XK:=Value -> Option Addr -> Hp -> Prop
noncomputable abbrev St:=List (Option V)
noncomputable abbrev VK:=V -> Hp -> Prop
noncomputable abbrev TE:=St -> Hp -> VK -> Prop
noncomputable abbrev TT:=St -> Hp -> (Bool -> Hp -> Prop) -> Prop
noncomputable abbrev TA:=St -> Hp -> (List V -> Hp -> Prop) -> Prop
structure Ends where
 nx : St -> Hp -> Prop
 rt : VK
 bk : St -> Hp -> Prop:=λ_ _=>False
 ct : St -> Hp -> Prop:=λ_ _=>False
noncomputable abbrev TS:=Ends -> St -> Hp -> Prop
noncomputable def EP (X : Cx) (pins : List (Addr × Obj)) (σ : St) (Q : VK) (u : Value) (s' : Shared) : Prop:=∃ v H',Inv X pins σ H' s'/\RelV v u/\Q v H'
noncomputable def TP (X : Cx) (pins : List (Addr × Obj)) (σ : St) (Q : Bool -> Hp -> Prop) (b : Bool) (s' : Shared) : Prop:=∃ H',Inv X pins σ H' s'/\Q b H'
noncomputable def AP (X : Cx) (pins : List (Addr × Obj)) (σ : St) (Q : List V -> Hp -> Prop) (us : List Value) (s' : Shared) : Prop:=∃ vs H',Inv X pins σ H' s'/\Vals vs us/\Q vs H'
noncomputable def SP (X : Cx) (pins : List (Addr × Obj)) (D : Ends) (f : Flow) (s' : Shared) : Prop :=
 match f with
 | .next=>∃ σ' H',Inv X pins σ' H' s'/\D.nx σ' H'
 | .brk=>∃ σ' H',Inv X pins σ' H' s'/\D.bk σ' H'
 | .cont=>∃ σ' H',Inv X pins σ' H' s'/\D.ct σ' H'
 | .ret u=>∃ v σ' H',Inv X pins σ' H' s'/\RelV v u/\D.rt v H'
noncomputable def PE (X : Cx) (e : Expr) (t : TE) : Prop :=
 ∀ (pins : List (Addr × Obj)) (s : Shared) (σ : St) (H : Hp) (Q : VK),Inv X pins σ H s -> t σ H Q -> wpAny (model X.prog X.w) X.A (eval e X.env) (EP X pins σ Q) X.xe s
noncomputable def PT (X : Cx) (e : Expr) (t : TT) : Prop :=
 ∀ (pins : List (Addr × Obj)) (s : Shared) (σ : St) (H : Hp) (Q : Bool -> Hp -> Prop),Inv X pins σ H s -> t σ H Q -> wpAny (model X.prog X.w) X.A (isTrue e X.env (eval e X.env)) (TP X pins σ Q) X.xe s
noncomputable def PW (X : Cx) (e : Expr) (t : TT) : Prop :=
 ∀ (whole : Sem Value) (pins : List (Addr × Obj)) (s : Shared) (σ : St) (H : Hp) (Q : Bool -> Hp -> Prop),Inv X pins σ H s -> t σ H Q -> wpAny (model X.prog X.w) X.A (isTrue e X.env whole) (TP X pins σ Q) X.xe s
theorem PW.pt {X : Cx} {e : Expr} {t : TT} (h : PW X e t) : PT X e t:=h _
noncomputable def PA (X : Cx) (es : List Expr) (t : TA) : Prop :=
 ∀ (pos : Pos) (pins : List (Addr × Obj)) (s : Shared) (σ : St) (H : Hp) (Q : List V -> Hp -> Prop),Inv X pins σ H s -> t σ H Q -> wpAny (model X.prog X.w) X.A (spliced (backTo pos (starEach es X.env))) (AP X pins σ Q) X.xe s
noncomputable def PS (X : Cx) (st : Stmt) (t : TS) : Prop :=
 ∀ (pins : List (Addr × Obj)) (s : Shared) (σ : St) (H : Hp) (D : Ends),Inv X pins σ H s -> t D σ H -> wpAny (model X.prog X.w) X.A (exec st X.env) (SP X pins D) X.xe s
noncomputable def PSs (X : Cx) (st : List Stmt) (t : TS) : Prop :=
 ∀ (pins : List (Addr × Obj)) (s : Shared) (σ : St) (H : Hp) (D : Ends),Inv X pins σ H s -> t D σ H -> wpAny (model X.prog X.w) X.A (execs st X.env) (SP X pins D) X.xe s
theorem thn {α : Type} {t : Sem α} {Q Q' : α -> Shared -> Prop} {M : Model} {A : Around} {E : Value -> Shared -> Prop} {s : Shared} (h : wpAny M A t Q E s) (hQ : ∀ a s,Q a s -> Q' a s) : wpAny M A t Q' E s:=yBO h hQ λ_ _ x=>x
section
variable {X : Cx}
noncomputable def zN5 (i : Nat) : TE:=λσ H Q=>∃ v,σ[i]? = some (some v)/\Q v H
noncomputable def tC (v : V) : TE:=λ_ H Q=>Q v H
theorem zWP {i : Nat} {x : Str} {pos : Pos} (hN : X.N[i]? = some x) (hv : Vis X.env.scope x) (hd : (x == ("__debug__" : Str)) = false:=by decide) (hcd : (x == ("__classdict__" : Str)) = false:=by decide) : PE X (.Name x pos) (zN5 i):=by
 intro pins s σ H Q I h;obtain ⟨v,e,h⟩:=h;obtain ⟨m,hn,hl⟩:=I.loc;obtain ⟨u,r,l⟩:=hl i x v hN e hv;have fin : EP X pins σ Q u s:=⟨v,H,I,r,h⟩
 rcases l with ⟨hk,hm⟩ | ⟨hk,c,hc,hcell⟩
 ·exact wpAny_Name (wpAny_loadName_local I.ok.kind hk hn hm fin) hd
 ·rcases hk with hk | hk
  ·exact wpAny_Name (wpAny_loadName_cell I.ok.kind hk hc hcell fin) hd
  ·exact wpAny_Name (wpAny_loadName_free I.ok.kind hk hc hcell fin hcd) hd
theorem zA4 {i j pos} : PE X (.Constant (.int i) j pos) (tC (.int i)):=λ_ _ _ H _ I h=>wpAny_Constant_int ⟨.int i,H,I.tok _,⟨_,rfl⟩,h⟩
theorem zEU {b j pos} : PE X (.Constant (.bool b) j pos) (tC (.bl b)):=λ_ _ _ H _ I h=>Constant_bool ⟨.bl b,H,I,rfl,h⟩
theorem zCK {j pos} : PE X (.Constant .none j pos) (tC .non):=λ_ _ _ H _ I h=>Constant_none ⟨.non,H,I,rfl,h⟩
theorem zDT {x j pos} : PE X (.Constant (.str x) j pos) (tC (.str x)):=λ_ _ _ H _ I h=>Calls.Constant_str ⟨.str x,H,I.tok _,⟨_,rfl⟩,h⟩
noncomputable def Gl (X : Cx) (x : Str) : Prop:=X.env.kindOf x = some .globalImplicit
theorem zDP {E : Value -> Shared -> Prop} {pins : List (Addr × Obj)} {s : Shared} {σ : St} {H : Hp} {x : Str} {u : Value} {pos : Pos} {Q : Value -> Shared -> Prop} (I : Inv X pins σ H s) (hg : Gl X x) (hm : X.mg x = some u) (h : Q u s)
  (hd : (x == ("__debug__" : Str)) = false:=by decide) : wpAny (model X.prog X.w) X.A (eval (.Name x pos) X.env) Q E s :=
 Calls.Name_function_global I.ok.kind hg (Calls.loadGlobal_global (by rw [I.ok.glob]; exact I.mod.glob.keeps I.bk) hm h) hd
theorem zDW {E : Value -> Shared -> Prop} {pins : List (Addr × Obj)} {s : Shared} {σ : St} {H : Hp} {x : Str} {u : Value} {pos : Pos} {Q : Value -> Shared -> Prop} (I : Inv X pins σ H s) (hg : Gl X x) (hm : X.mg x = none) (hv : bootBuiltins x = some u) (h : Q u s)
  (hn : x≠"__name__":=by decide) (hd : (x == ("__debug__" : Str)) = false:=by decide) : wpAny (model X.prog X.w) X.A (eval (.Name x pos) X.env) Q E s:=by
 obtain ⟨mb,h1,h2⟩:=I.mod.blt;exact Calls.Name_function_global I.ok.kind hg (Calls.loadGlobal_builtin (by rw [I.ok.glob]; exact I.mod.glob.keeps I.bk) hm (by rw [I.ok.blt]; exact h1.keeps I.bk) ((h2 x hn).trans hv) h) hd
theorem zEE {x : Str} {v : V} {u : Value} {pos : Pos} (hg : Gl X x) (hm : X.mg x = some u) (r : RelV v u) (hd : (x == ("__debug__" : Str)) = false:=by decide) : PE X (.Name x pos) (tC v) :=
 λ_ _ _ H _ I h=>zDP I hg hm ⟨v,H,I,r,h⟩ hd
theorem zBF {x : Str} {v : V} {u : Value} {pos : Pos} (hg : Gl X x) (hm : X.mg x = none) (hv : bootBuiltins x = some u) (r : RelV v u) (hn : x≠"__name__":=by decide) (hd : (x == ("__debug__" : Str)) = false:=by decide) : PE X (.Name x pos) (tC v) :=
 λ_ _ _ H _ I h=>zDW I hg hm hv ⟨v,H,I,r,h⟩ hn hd
variable {a b : Expr} {ta tb : TE} {pos : Pos}
noncomputable def PC (X : Cx) (op : CmpOp) (a b : Expr) (t : TE) : Prop :=
 ∀ (pins : List (Addr × Obj)) (s : Shared) (σ : St) (H : Hp) (Q : VK),Inv X pins σ H s -> t σ H Q ->
  wpAny (model X.prog X.w) X.A (eval a X.env) (λv s₁ => wpAny (model X.prog X.w) X.A (eval b X.env) (λu s₂ => wpAny (model X.prog X.w) X.A (compareOp op v u) (EP X pins σ Q) X.xe s₂) X.xe s₁) X.xe s
noncomputable def tB (t : TE) : TT:=λσ H Q=>t σ H λx H1=>∃ c,x = .bl c/\Q c H1
theorem zT0 {op : CmpOp} {t : TE} (h : PC X op a b t) (h1 : behindInMarks op b = false:=by first | exact nobehind _ (by decide) (by decide) | rfl) : PT X (.Compare a [op] [b] pos) (tB t):=by
 intro pins s σ H Q I hw;refine wpAny_isTrue_Compare1 (thn (h pins s σ H _ I hw) λv s1 h1=>thn h1 λu s2 h2=>thn h2 λc s3 hM => ?_) h1;obtain ⟨x,H1,I1,r1,q1⟩:=hM;obtain ⟨d,rfl,q⟩:=q1
 cases r1
 exact yBo ⟨H1,I1,q⟩
theorem zBU {e : Expr} {t : TE} (h : PE X e t) (he : ∀ whole,isTrue e X.env whole = (do let v <- whole; standAt e.pos; holding [v] (truthy v)):=by intro _; rfl) : PT X e (tB t):=by
 intro pins s σ H Q I hw;refine isTrue_plain (thn (h pins s σ H _ I hw) λv s1 hM => ?_) (he _);obtain ⟨x,H1,I1,r1,q1⟩:=hM;obtain ⟨d,rfl,q⟩:=q1
 cases r1
 exact yBo ⟨H1,I1,q⟩
variable {tA tB' : TT} {rest : List Expr}
noncomputable def zaU (t u : TT) : TT:=λσ H Q=>t σ H λc H1=>if c = true then u σ H1 Q else Q false H1
noncomputable def tOr (t u : TT) : TT:=λσ H Q=>t σ H λc H1=>if c = true then Q true H1 else u σ H1 Q
noncomputable def zaV (t : TT) : TT:=λσ H Q=>t σ H λc H1=>Q (!c) H1
theorem zP3 (ha : PT X a tA) : PW X (.BoolOp .And [a] pos) tA:=by
 intro wh pins s σ H Q I h;refine isTrue_and (thn (ha pins s σ H Q I h) λc s1 e => ?_)
 cases c with
 | true=>exact isTrue_and_nil e
 | false=>exact e
theorem zES (ha : PT X a tA) : PW X (.BoolOp .Or [a] pos) tA:=by
 intro wh pins s σ H Q I h;refine isTrue_or (thn (ha pins s σ H Q I h) λc s1 e => ?_)
 cases c with
 | false=>exact isTrue_or_nil e
 | true=>exact e
theorem zT8 (ha : PT X a tA) (hb : PW X (.BoolOp .And (b::rest) pos) tB') : PW X (.BoolOp .And (a::b::rest) pos) (zaU tA tB'):=by
 intro wh pins s σ H Q I h;refine isTrue_and (thn (ha pins s σ H _ I h) λc s1 hM => ?_);obtain ⟨H1,I1,q1⟩:=hM
 cases c with
 | true=>exact hb wh pins s1 σ H1 Q I1 q1
 | false=>exact ⟨H1,I1,q1⟩
theorem zHE (ha : PT X a tA) (hb : PW X (.BoolOp .Or (b::rest) pos) tB') : PW X (.BoolOp .Or (a::b::rest) pos) (tOr tA tB'):=by
 intro wh pins s σ H Q I h;refine isTrue_or (thn (ha pins s σ H _ I h) λc s1 hM => ?_);obtain ⟨H1,I1,q1⟩:=hM
 cases c with
 | true=>exact ⟨H1,I1,q1⟩
 | false=>exact hb wh pins s1 σ H1 Q I1 q1
theorem zBS (ha : PT X a tA) : PT X (.UnaryOp .Not a pos) (zaV tA):=by
 intro pins s σ H Q I h;exact isTrue_not (ha pins s σ H (λc H1=>Q (!c) H1) I h)
noncomputable def zZP (ta tb : TE) : TE:=λσ H Q=>ta σ H λx H1=>∃ c,x = .bl c/\if c = true then tb σ H1 Q else Q (.bl false) H1
noncomputable def zYV (ta : TE) : TE:=λσ H Q=>ta σ H λx H1=>∃ c,x = .bl c/\Q (.bl (!c)) H1
theorem zGB {op} {t : TE} (h : PE X a t) : PE X (.BoolOp op [a] pos) t:=λpins s σ H Q I hw=>BoolOp_one (h pins s σ H Q I hw)
theorem zGM (ha : PE X a ta) (hb : PE X (.BoolOp .And (b::rest) pos) tb) : PE X (.BoolOp .And (a::b::rest) pos) (zZP ta tb):=by
 intro pins s σ H Q I h;refine BoolOp_and (thn (ha pins s σ H _ I h) λv s1 hM => ?_);obtain ⟨x,H1,I1,r1,q1⟩:=hM;obtain ⟨c,rfl,q1⟩:=q1
 cases r1
 refine yBo ?_
 cases c with
 | true=>exact hb pins s1 σ H1 Q I1 q1
 | false=>exact ⟨.bl false,H1,I1,rfl,q1⟩
theorem zWI (ha : PE X a ta) : PE X (.UnaryOp .Not a pos) (zYV ta):=by
 intro pins s σ H Q I h;refine UnaryOp_ (thn (ha pins s σ H _ I h) λv s1 hM => ?_);obtain ⟨x,H1,I1,r1,q1⟩:=hM;obtain ⟨c,rfl,q1⟩:=q1
 cases r1
 exact not_of (yBo ⟨.bl (!c),H1,I1,rfl,q1⟩)
noncomputable def tIf (t : TT) (ta tb : TE) : TE:=λσ H Q=>t σ H λc H1=>if c = true then ta σ H1 Q else tb σ H1 Q
theorem zF3 {c : Expr} (hc : PT X c tA) (ha : PE X a ta) (hb : PE X b tb) : PE X (.IfExp c a b pos) (tIf tA ta tb):=by
 intro pins s σ H Q I h;refine wpAny_IfExp (thn (hc pins s σ H _ I h) λd s1 hM => ?_);obtain ⟨H1,I1,q1⟩:=hM
 cases d with
 | true=>exact ha pins s1 σ H1 Q I1 q1
 | false=>exact hb pins s1 σ H1 Q I1 q1
end
noncomputable def SqL (K : PySem.W.Frag) (H : Hp) (a : Addr) (xs : List V) : Prop :=
 Rd H a (.lst xs) \/
  ∃ (o : Obj) (its : Array Value) (n : Nat),K.lookup a = some o/\o.cls = .type "list"/\o.dict = none/\o.data = .seq its n/\its.size <= sizeLine/\Vals xs its.toList
noncomputable def SqT (K : PySem.W.Frag) (H : Hp) (a : Addr) (xs : List V) : Prop :=
 Rd H a (.tup xs) \/
  ∃ (o : Obj) (its : Array Value) (n : Nat),K.lookup a = some o/\o.cls = .type "tuple"/\o.data = .seq its n/\its.size <= sizeLine/\Vals xs its.toList
noncomputable def zYB : Value -> Option V
 | .none=>some .non
 | .bool b=>some (.bl b)
 | .int i _=>some (.int i)
 | .str x _=>some (.str x)
 | .bytes b _=>some (.byt b)
 | .float b _=>some (.flt b)
 | .ref a=>some (.ref a)
 | .type n=>some (.ty n)
 | _=>none
theorem RelV.abs {x : V} {u : Value} (r : RelV x u) : zYB u = some x:=by
 cases x with
 | non=>cases r; rfl
 | bl _=>cases r; rfl
 | int _=>obtain ⟨t,rfl⟩:=r; rfl
 | str _=>obtain ⟨t,rfl⟩:=r; rfl
 | byt _=>obtain ⟨t,rfl⟩:=r; rfl
 | flt _=>obtain ⟨t,rfl⟩:=r; rfl
 | ref _=>cases r; rfl
 | ty _=>cases r; rfl
theorem RelV.inj {x y : V} {u : Value} (r : RelV x u) (q : RelV y u) : x = y:=Option.some.inj (r.abs.symm.trans q.abs)
theorem Vals.inj {xs : List V} {us : List Value} (h : Vals xs us) : ∀ {ys : List V},Vals ys us -> xs = ys:=by
 induction h with
 | nil=>intro ys k; cases k; rfl
 | cons r _ ih =>
  intro ys k
  cases k with
  | cons r' t'=>rw [r.inj r',ih t']
section
variable {X : Cx} {pins : List (Addr × Obj)} {σ : St} {H : Hp} {s : Shared} {a : Addr} {xs ys : List V}
theorem SqL.of {K : PySem.W.Frag} (h : H a = some (.lst xs)) : SqL K H a xs := .inl (.inl h)
theorem SqT.of {K : PySem.W.Frag} (h : H a = some (.tup xs)) : SqT K H a xs := .inl (.inl h)
theorem Inv.list (I : Inv X pins σ H s) (h : SqL X.K H a xs) : ∃ its : List Value,Vals xs its/\PlainL s.heap a its.toArray/\xs.length <= sizeLine:=by
 rcases h with h | ⟨o,its,n,hk,hc,hd,hs,hz,r⟩
 ·obtain ⟨z,its,n,r,e⟩:=h.ok I.hok
  exact ⟨its,r,⟨_,n,e,rfl,rfl,rfl⟩,z⟩
 ·refine ⟨its.toList,r,⟨o,n,I.kIn a o hk,hc,hd,by simpa using hs⟩,?_⟩
  have e:=r.length;simp only [yAx] at e;lia
theorem Inv.tuple (I : Inv X pins σ H s) (h : SqT X.K H a xs) : ∃ its : List Value,Vals xs its/\IsTup s.heap a its.toArray/\xs.length <= sizeLine:=by
 rcases h with h | ⟨o,its,n,hk,hc,hs,hz,r⟩
 ·obtain ⟨z,its,r,p⟩:=h.ok I.hok
  exact ⟨its,r,p,z⟩
 ·refine ⟨its.toList,r,⟨o,I.kIn a o hk,hc,n,by simpa using hs⟩,?_⟩
  have e:=r.length;simp only [yAx] at e;lia
theorem Inv.list_inj (I : Inv X pins σ H s) (h : SqL X.K H a xs) (h' : SqL X.K H a ys) : xs = ys:=by
 obtain ⟨its,r,⟨o,n,e,_,_,d⟩,_⟩:=I.list h;obtain ⟨its',r',⟨o',n',e',_,_,d'⟩,_⟩:=I.list h';rw [e] at e'; cases e';rw [d] at d'
 injection d' with d1 _
 have : its = its':=by simpa using congrArg Array.toList d1
 subst this;exact r.inj r'
theorem Inv.tuple_inj (I : Inv X pins σ H s) (h : SqT X.K H a xs) (h' : SqT X.K H a ys) : xs = ys:=by
 obtain ⟨its,r,⟨o,e,_,n,d⟩,_⟩:=I.tuple h;obtain ⟨its',r',⟨o',e',_,n',d'⟩,_⟩:=I.tuple h';rw [e] at e'; cases e';rw [d] at d'
 injection d' with d1 _
 have : its = its':=by simpa using congrArg Array.toList d1
 subst this;exact r.inj r'
end
noncomputable abbrev Cx.wish (X : Cx) (E : Value -> Shared -> Prop) : Cx:={ X with xe:=E }
noncomputable abbrev Cx.nox (X : Cx) : Cx:=X.wish λ_ _=>False
theorem Cx.Ok.wish {X : Cx} (ok : X.Ok) (E : Value -> Shared -> Prop) : (X.wish E).Ok :=
 ⟨ok.mod,ok.kind,ok.glob,ok.blt,ok.above,ok.inj,ok.has,ok.cab,ok.hd,ok.frames,ok.stk,ok.exf,ok.bs,ok.bsz,ok.noex,ok.exfs,ok.funs,ok.frf⟩
theorem Cx.Ok.unwish {X : Cx} {E : Value -> Shared -> Prop} (ok : (X.wish E).Ok) : X.Ok :=
 ⟨ok.mod,ok.kind,ok.glob,ok.blt,ok.above,ok.inj,ok.has,ok.cab,ok.hd,ok.frames,ok.stk,ok.exf,ok.bs,ok.bsz,ok.noex,ok.exfs,ok.funs,ok.frf⟩
section
variable {X : Cx} {pins : List (Addr × Obj)} {σ : St} {H : Hp} {s : Shared} {E : Value -> Shared -> Prop}
theorem Inv.wish (I : Inv X pins σ H s) (E : Value -> Shared -> Prop) : Inv (X.wish E) pins σ H s:=⟨I.ok.wish E,I.os,I.bare,I.base,I.loc,I.cell,I.free,I.freeC,I.pin,I.hok,I.len⟩
theorem Inv.unwish (I : Inv (X.wish E) pins σ H s) : Inv X pins σ H s:=⟨I.ok.unwish,I.os,I.bare,I.base,I.loc,I.cell,I.free,I.freeC,I.pin,I.hok,I.len⟩
theorem SP.unwish {D : Ends} {f : Flow} {s' : Shared} (h : SP (X.wish E) pins D f s') : SP X pins D f s':=by
 cases f with
 | next=>obtain ⟨σ',H',I,q⟩:=h; exact ⟨σ',H',I.unwish,q⟩
 | brk=>obtain ⟨σ',H',I,q⟩:=h; exact ⟨σ',H',I.unwish,q⟩
 | cont=>obtain ⟨σ',H',I,q⟩:=h; exact ⟨σ',H',I.unwish,q⟩
 | ret u=>obtain ⟨v,σ',H',I,r,q⟩:=h; exact ⟨v,σ',H',I.unwish,r,q⟩
theorem PSs.nox {st : List Stmt} {t : TS} (h : PSs X.nox st t) : PSs X st t:=λpins s σ H D I hw =>
 yBO (h pins s σ H D (I.wish _) hw) (λ_ _ q=>q.unwish) λ_ _ z=>False.elim z
end
section
variable {X : Cx} {st : Stmt} {rest : List Stmt} {t u : TS} {e : Expr} {te : TE} {pos : Pos}
noncomputable def zZA : TS:=λD σ H=>D.nx σ H
noncomputable def zTB (t u : TS) : TS:=λD σ H=>t { D with nx:=u D } σ H
theorem zAG : PSs X [] zZA:=λ_ _ σ H _ I h=>yDh ⟨σ,H,I,h⟩
theorem zA2 (h1 : PS X st t) (h2 : PSs X rest u) : PSs X (st::rest) (zTB t u):=by
 intro pins s σ H D I h;refine wpAny_execs_cons (thn (h1 pins s σ H { D with nx:=u D } I h) λf s1 q => ?_)
 cases f with
 | next =>
  obtain ⟨σ',H',I',q⟩:=q;exact h2 pins s1 σ' H' D I' q
 | ret v=>exact q
 | brk=>exact q
 | cont=>exact q
theorem zA5 (h1 : PS X st t) : PSs X [st] t:=by
 intro pins s σ H D I h;refine wpAny_execs_cons (thn (h1 pins s σ H D I h) λf s1 q => ?_)
 cases f with
 | next=>exact yDh q
 | ret v=>exact q
 | brk=>exact q
 | cont=>exact q
theorem Inv.quiet {pins : List (Addr × Obj)} {σ : St} {H : Hp} {s : Shared} (I : Inv X pins σ H s) : interactive X.env = false:=by simp [interactive,I.ok.kind]
noncomputable def zZK (te : TE) : TS:=λD σ H=>te σ H λ_ H1=>D.nx σ H1
theorem zBO (he : PE X e te) (hs : swapsWith e none pos.line X.env = pure false:=by rfl) : PS X (.Expr e pos) (zZK te):=by
 intro pins s σ H D I h;refine wpAny_Expr_any (thn (he pins s σ H _ I h) λv s1 hM => ?_) I.quiet hs;obtain ⟨x,H1,I1,r1,q1⟩:=hM;exact ⟨σ,H1,I1,q1⟩
noncomputable def zaN (te : TE) : TS:=λD σ H=>te σ H D.rt
theorem zAE (he : PE X e te) : PS X (.Return (some e) pos) (zaN te):=by
 intro pins s σ H D I h;refine wpAny_Return_some (thn (he pins s σ H _ I h) λv s1 hM => ?_);obtain ⟨x,H1,I1,r1,q1⟩:=hM;exact ⟨x,σ,H1,I1,r1,q1⟩
noncomputable def zaJ (c : TT) (t u : TS) : TS:=λD σ H=>c σ H λb H1=>if b = true then t D σ H1 else u D σ H1
theorem zBA {c : Expr} {a b : List Stmt} {tc : TT} (hc : PT X c tc) (ha : PSs X a t) (hb : PSs X b u) : PS X (.If c a b pos) (zaJ tc t u):=by
 intro pins s σ H D I h;refine wpAny_If (thn (hc pins s σ H _ I h) λd s1 hM => ?_);obtain ⟨H1,I1,q1⟩:=hM
 cases d with
 | true=>exact ha pins s1 σ H1 D I1 q1
 | false=>exact hb pins s1 σ H1 D I1 q1
noncomputable def zY3 : TS:=λ_ _ _=>False
theorem zAP {sts : List Stmt} : PSs X sts zY3:=λ_ _ _ _ _ _ h=>h.elim
end
noncomputable abbrev TG:=V -> St -> Hp -> (St -> Hp -> Prop) -> Prop
noncomputable abbrev TGs:=List V -> St -> Hp -> (St -> Hp -> Prop) -> Prop
noncomputable def PG (X : Cx) (target : Expr) (t : TG) : Prop :=
 ∀ (pins : List (Addr × Obj)) (s : Shared) (σ : St) (H : Hp) (v : V) (u : Value) (Q : St -> Hp -> Prop),Inv X pins σ H s -> RelV v u -> t v σ H Q ->
  wpAny (model X.prog X.w) X.A (assign target X.env u) (λ_ s'=>∃ σ' H',Inv X pins σ' H' s'/\Q σ' H') X.xe s
noncomputable def PGs (X : Cx) (ts : List Expr) (t : TGs) : Prop :=
 ∀ (pins : List (Addr × Obj)) (s : Shared) (σ : St) (H : Hp) (vs : List V) (us : List Value) (Q : St -> Hp -> Prop),Inv X pins σ H s -> Vals vs us -> t vs σ H Q ->
  wpAny (model X.prog X.w) X.A (assignInOrder ((assignEach ts X.env).map (·.2)) us) (λ_ s'=>∃ σ' H',Inv X pins σ' H' s'/\Q σ' H') X.xe s
noncomputable abbrev zZS:=V -> V -> V -> Hp -> (Hp -> Prop) -> Prop
noncomputable def za7 (X : Cx) (t : zZS) : Prop :=
 ∀ (pins : List (Addr × Obj)) (s : Shared) (σ : St) (H : Hp) (o i v : V) (ov iv u : Value) (Q : Hp -> Prop),Inv X pins σ H s -> RelV o ov -> RelV i iv -> RelV v u -> t o i v H Q ->
  wpAny (model X.prog X.w) X.A (setItem ov iv u) (λ_ s'=>∃ H',Inv X pins σ H' s'/\Q H') X.xe s
noncomputable abbrev TIp:=V -> V -> Hp -> VK -> Prop
noncomputable def PIp (X : Cx) (op : Operator) (t : TIp) : Prop :=
 ∀ (pins : List (Addr × Obj)) (s : Shared) (σ : St) (H : Hp) (x y : V) (v u : Value) (Q : VK),Inv X pins σ H s -> RelV x v -> RelV y u -> t x y H Q ->
  wpAny (model X.prog X.w) X.A (inplaceOp op v u) (EP X pins σ Q) X.xe s
section
variable {X : Cx} {pos : Pos}
noncomputable def zH8 (i : Nat) : TG:=λv σ H Q=>Q (σ.set i (some v)) H
theorem zAD {i : Nat} {x : Str} (hN : X.N.Nodup) (hi : X.N[i]? = some x) (hx : Loc X.env.scope x) (hf : X.fn x = true \/ X.env.scope.names.lookup x = some .local:=by first | exact .inl rfl | exact .inr rfl | assumption) : PG X (.Name x pos) (zH8 i):=by
 intro pins s σ H v u Q I r h;exact wpAny_assign_Name (zDV I hN hi hx r (λs' I'=>⟨_,H,I',h⟩) hf)
noncomputable def zZY : TGs:=λvs σ H Q=>vs = []/\Q σ H
noncomputable def zPR (t : TG) (u : TGs) : TGs:=λvs σ H Q=>∃ v r,vs = v::r/\t v σ H λσ' H'=>u r σ' H' Q
theorem zEG : PGs X [] zZY:=by
 intro pins s σ H vs us Q I r h;obtain ⟨e,h⟩:=h;subst e
 cases r
 exact assignInOrder_nil ⟨σ,H,I,h⟩
theorem zBD {e : Expr} {es : List Expr} {t : TG} {u : TGs} (h1 : PG X e t) (h2 : PGs X es u)
  (hs : (assignEach (e::es) X.env).map (·.2) = assign e X.env::(assignEach es X.env).map (·.2):=by rfl) : PGs X (e::es) (zPR t u):=by
 intro pins s σ H vs us Q I r h;obtain ⟨v,vr,e1,h⟩:=h;subst e1
 cases r with
 | cons r rr =>
  rw [hs];refine assignInOrder_cons (thn (h1 pins s σ H _ _ _ I r h) λ_ s1 hM => ?_);obtain ⟨σ1,H1,I1,q1⟩:=hM;exact h2 pins s1 σ1 H1 _ _ Q I1 rr q1
noncomputable def zYL (K : PySem.W.Frag) (n : Nat) (t : TGs) : TG:=λv σ H Q=>∃ a xs,v = .ref a/\SqT K H a xs/\xs.length = n/\t xs σ H Q
theorem zP7 {es : List Expr} {k : Nat} {t : TGs} {n : Nat} (hc : X.calm = true) (h : PGs X es t)
  (hn : (assignEach es X.env).length = n:=by rfl) (hst : (assignEach es X.env).findIdx? (·.1) = none:=by rfl) : PG X (.Tuple es k pos) (zYL X.K n t):=by
 intro pins s σ H v u Q I r hw;obtain ⟨a,xs,e1,hq,hl,hw⟩:=hw;subst e1
 cases r
 obtain ⟨its,rv,ht,hz⟩:=I.tuple hq;refine assign_Tuple_tuple (I.ok.hd hc) ht (by simp [hn,<- hl,rv.length]) hst λh' hx => ?_;have I1 : Inv X pins σ H { s with heap:=h' }:=I.kept (t':=s.toks) λb o e=>hx b o (yAh (yAI e)) e;exact h pins _ σ H xs _ Q I1 (by simpa using rv) hw
noncomputable def zaT (to ti : TE) (t : zZS) : TG:=λv σ H Q=>to σ H λo H1=>ti σ H1 λi H2=>t o i v H2 λH3=>Q σ H3
theorem zTA {o i : Expr} {to ti : TE} {t : zZS} (ho : PE X o to) (hi : PE X i ti) (hs : za7 X t)
  (ha : ∀ v,assign (.Subscript o i pos) X.env v = (do
   let ov <- holding [v] (eval o X.env)
   let iv <- holding [v,ov] (eval i X.env)
   standAt pos
   holding [v,ov,iv] (setItem ov iv v)
   release [v,ov,iv] []):=by intro _; rfl) : PG X (.Subscript o i pos) (zaT to ti t):=by
 intro pins s σ H v u Q I r h;rw [ha];refine yAA (yBd (thn (ho pins s σ H _ I h) λov s1 hM => ?_));obtain ⟨x,H1,I1,r1,q1⟩:=hM;refine yAA (yBd (thn (hi pins s1 σ H1 _ I1 q1) λiv s2 hM => ?_));obtain ⟨y,H2,I2,r2,q2⟩:=hM;refine yAA (yCO (yAA (yBd (thn (hs pins s2 σ H2 x y v ov iv u _ I2 r1 r2 r q2) λ_ s3 hM => ?_))));obtain ⟨H3,I3,q3⟩:=hM;exact wpAny_release ⟨σ,H3,I3,q3⟩
noncomputable def za3 (te : TE) (g : TG) : TS:=λD σ H=>te σ H λx H1=>g x σ H1 D.nx
theorem zPX {tg e : Expr} {te : TE} {g : TG} (he : PE X e te) (hg : PG X tg g) (hs : swapsWithSole [tg] e pos.line X.env = pure false:=by rfl) (hw : swappedStores [tg] e X.env = pure none:=by rfl)
  (h1 : (assignEach [tg] X.env).map (·.2) = [assign tg X.env]:=by rfl) : PS X (.Assign [tg] e pos) (za3 te g):=by
 intro pins s σ H D I h;refine wpAny_Assign_stores (thn (he pins s σ H _ I h) λv s1 hM => ?_) hs hw;obtain ⟨x,H1,I1,r1,q1⟩:=hM;rw [h1];exact thn (hg pins s1 σ H1 x v _ I1 r1 q1) λ_ s2 q=>q
theorem zAB {i : Nat} {x : Str} {e : Expr} {te : TE} {pos' : Pos} (hN : X.N.Nodup) (hi : X.N[i]? = some x) (hx : Loc X.env.scope x) (he : PE X e te) (hs : swapsWith e (some (.Name x pos')) pos.line X.env = pure false:=by rfl) (hf : X.fn x = true \/ X.env.scope.names.lookup x = some .local:=by first | exact .inl rfl | exact .inr rfl | assumption) :
  PS X (.Assign [.Name x pos'] e pos) (za3 te (zH8 i)):=by
 intro pins s σ H D I h;refine wpAny_Assign_Name (thn (he pins s σ H _ I h) λv s1 hM => ?_) hs;obtain ⟨y,H1,I1,r1,q1⟩:=hM;exact zDV I1 hN hi hx r1 (λs2 I2=>⟨_,H1,I2,q1⟩) hf
noncomputable def zbB (i : Nat) (te : TE) (ti : TIp) : TS:=λD σ H=>∃ x,σ[i]? = some (some x)/\te σ H λy H1=>ti x y H1 λz H2=>D.nx (σ.set i (some z)) H2
theorem zSW {i : Nat} {x : Str} {e : Expr} {te : TE} {op : Operator} {ti : TIp} {pos' : Pos} (hN : X.N.Nodup) (hi : X.N[i]? = some x) (hx : Loc X.env.scope x) (he : PE X e te) (ho : PIp X op ti) (hf : X.fn x = true \/ X.env.scope.names.lookup x = some .local:=by first | exact .inl rfl | exact .inr rfl | assumption) :
  PS X (.AugAssign (.Name x pos') op e pos) (zbB i te ti):=by
 intro pins s σ H D I h;obtain ⟨v,e1,h⟩:=h;obtain ⟨m,hn,hl⟩:=I.loc;have vis : Vis X.env.scope x:=by rcases hx with k | k; exact .inl k; exact .inr (.inl k)
 obtain ⟨u,r,l⟩:=hl i x v hi e1 vis;refine wpAny_AugAssign_Name ?_
 have go : wpAny (model X.prog X.w) X.A (eval e X.env) (λw s₂ => wpAny (model X.prog X.w) X.A (inplaceOp op u w) (λr s₃ => wpAny (model X.prog X.w) X.A (storeName X.env x r) (λ_=>SP X pins D .next) X.xe s₃) X.xe s₂) X.xe s:=by
  refine thn (he pins s σ H _ I h) λw s1 hM => ?_;obtain ⟨y,H1,I1,r1,q1⟩:=hM;refine thn (ho pins s1 σ H1 v y u w _ I1 r r1 q1) λz s2 hM => ?_;obtain ⟨zv,H2,I2,r2,q2⟩:=hM;exact zDV I2 hN hi hx r2 (λs3 I3=>⟨_,H2,I3,q2⟩) hf
 rcases l with ⟨hk,hm⟩ | ⟨hk,c,hc,hcell⟩
 ·exact wpAny_loadName_local I.ok.kind hk hn hm go
 ·rcases hk with hk | hk
  ·exact wpAny_loadName_cell I.ok.kind hk hc hcell go
  ·rcases hx with k | k
   ·have : X.env.scope.names.lookup x = some .free:=hk
    rw [k] at this; cases this
   ·have : X.env.scope.names.lookup x = some .free:=hk
    rw [k] at this; cases this
noncomputable def ipI (f : Int -> Int -> Int) : TIp:=λx y H Q=>∃ i j,x = .int i/\y = .int j/\Q (.int (f i j)) H
theorem zTD : PIp X .Add (ipI λi j=>i + j):=by
 intro pins s σ H x y v u Q I r1 r2 h;obtain ⟨i,j,e1,e2,q⟩:=h;subst e1; subst e2;obtain ⟨t,rfl⟩:=r1;obtain ⟨t',rfl⟩:=r2;exact iadd_int ⟨.int _,H,I.tok _,⟨_,rfl⟩,q⟩
end
section
variable {X : Cx} {pos : Pos}
noncomputable def zXP (c : TT) (tb : TS) : TS:=λD σ H=>∃ W : Nat -> St -> Hp -> Prop,(∃ m,W m σ H)/\∀ m σ H,W m σ H ->
 c σ H λb H1=>if b = true then ∃ N : St -> Hp -> Prop,(∀ σ' H',N σ' H' -> ∃ m',m' < m/\W m' σ' H')/\tb { D with nx:=N,ct:=N,bk:=D.nx } σ H1 else D.nx σ H1
theorem zR0 {c : Expr} {body : List Stmt} {tc : TT} {tb : TS} (hp : PassesOwn (model X.prog X.w) X.A X.env X.xe) (hc : PT X c tc) (hb : PSs X body tb) : PS X (.While c body [] pos) (zXP tc tb):=by
 intro pins s σ H D I h;obtain ⟨W,⟨m0,w0⟩,turn⟩:=h;refine wpAny_While (codeAny_whileLoop (λn s'=>∃ σ' H',Inv X pins σ' H' s'/\W n σ' H') ?_ m0 ⟨σ,H,I,w0⟩)
 rintro n s1 ⟨σ1,H1,I1,w1⟩
 refine yCp hp (thn (hc pins s1 σ1 H1 _ I1 (turn n σ1 H1 w1)) λb s2 hM => ?_);obtain ⟨H2,I2,q2⟩:=hM
 cases b with
 | true =>
  obtain ⟨N,hN,q2⟩:=q2;rw [yAK rfl];refine yCp hp (thn (hb pins s2 σ1 H2 _ I2 q2) λf s3 q3 => ?_)
  cases f with
  | next =>
   obtain ⟨σ3,H3,I3,n3⟩:=q3;obtain ⟨m',hm,w3⟩:=hN σ3 H3 n3;exact ⟨m',hm,σ3,H3,I3,w3⟩
  | cont =>
   obtain ⟨σ3,H3,I3,n3⟩:=q3;obtain ⟨m',hm,w3⟩:=hN σ3 H3 n3;exact ⟨m',hm,σ3,H3,I3,w3⟩
  | brk=>exact q3
  | ret v=>exact q3
 | false =>
  rw [yAN yAW];exact yDh ⟨σ1,H2,I2,q2⟩
end
structure It where
 go : Nat -> Hp -> Prop
 yld : Nat -> Hp -> V -> Hp -> Prop
 stop : Nat -> Hp -> Prop
noncomputable def zF5 (X : Cx) (pins : List (Addr × Obj)) (H : Hp) (b : Addr) : Prop :=
 H b = none/\b≠X.env.locals/\b∉X.fs/\(b∈X.ex \/ X.s₀.heap.objs.size <= b)/\(∀ x c,X.env.cells.lookup x = some c -> c≠b)/\∀ p∈X.pn++pins,p.1≠b
theorem Inv.fpOk {X : Cx} {pins : List (Addr × Obj)} {σ : St} {H H' : Hp} {s : Shared} {b : Addr} (I : Inv X pins σ H s) (hb : s.heap.objs.size <= b) (hn : H' b = none) : zF5 X pins H' b:=by
 refine ⟨hn,yBi (yAg I.lt hb),I.nofs hb,.inr (yAz I.sz hb),λx c e z => ?_,λp hp z => ?_⟩
 ·obtain ⟨v,q⟩:=I.cell x c e
  exact absurd (yAg q.lt (by rw [z]; exact hb)) (yBk _)
 ·exact absurd (yAg (yAI (I.pin p hp).1) (by rw [z]; exact hb)) (yBk _)
structure Turn (P : Program) (w : World) (K : PySem.W.Frag) (tg : Expr) (J : It) (fp : List Addr) (it : Addr) (tn : Nat -> Heap -> Prop) : Prop where
 mem : it∈fp
 obj : ∀ i h,tn i h -> ∀ b∈fp,∃ o,h.get? b = some o/\∀ v,o.data ≠ .cell v
 keep : ∀ i h h',tn i h -> (∀ b∈fp,∀ o,h.get? b = some o -> h'.get? b = some o) -> tn i h'
 item : ∀ (X : Cx),X.prog = P -> X.w = w -> X.K = K -> X.calm = true -> ∀ (i : Nat) (pins : List (Addr × Obj)) (s : Shared) (σ : St) (H : Hp) (E : Value -> Shared -> Prop),Inv X pins σ H s -> (∀ b∈fp,zF5 X pins H b) -> tn i s.heap -> J.go i H ->
  wpAny (model P w) X.A (pyNext (.ref it)) (λr s1=>∃ u,r = some u /\
   wpAny (model P w) X.A (letOwnedTupleGo tg (.ref it) u) (λ_ s2=>∃ x H',Inv X pins σ H' s2/\RelV x u/\J.yld i H x H'/\tn (i + 1) s2.heap/\∀ b∈fp,H' b = none) E s1) E s
 done : ∀ (X : Cx),X.prog = P -> X.w = w -> X.K = K -> X.calm = true -> ∀ (i : Nat) (pins : List (Addr × Obj)) (s : Shared) (σ : St) (H : Hp) (E : Value -> Shared -> Prop),Inv X pins σ H s -> (∀ b∈fp,zF5 X pins H b) -> tn i s.heap -> J.stop i H ->
  wpAny (model P w) X.A (pyNext (.ref it)) (λr s1=>r = none/\Inv X pins σ H s1) E s
 self : ∀ (A : Around) (i : Nat) (s : Shared) (Q : Value -> Shared -> Prop) (E : Value -> Shared -> Prop),tn i s.heap -> Q (.ref it) s -> wpAny (model P w) A (pyIter (.ref it)) Q E s
noncomputable abbrev TI:=St -> Hp -> (It -> Hp -> Prop) -> Prop
noncomputable def PIE (X : Cx) (pins : List (Addr × Obj)) (σ : St) (tg : Expr) (R : It -> Hp -> Prop) (itv : Value) (s2 : Shared) : Prop :=
 ∃ (it : Addr) (fp : List Addr) (tn : Nat -> Heap -> Prop) (J : It) (H' : Hp),itv = .ref it/\Inv X pins σ H' s2/\Turn X.prog X.w X.K tg J fp it tn/\tn 0 s2.heap/\(∀ b∈fp,zF5 X pins H' b)/\R J H'
noncomputable def PI (X : Cx) (tg iter : Expr) (wi : TI) : Prop :=
 ∀ (pins : List (Addr × Obj)) (s : Shared) (σ : St) (H : Hp) (R : It -> Hp -> Prop),Inv X pins σ H s -> wi σ H R ->
  wpAny (model X.prog X.w) X.A (eval iter X.env) (λv s1=>wpAny (model X.prog X.w) X.A (pyIter v) (PIE X pins σ tg R) X.xe s1) X.xe s
theorem zUM {M : Model} {A : Around} {E : Value -> Shared -> Prop} {s : Shared} {tg : Expr} {it : Addr} {u : Value} {o : Obj} {n : String} {vs : Array Value} {Q : Unit -> Shared -> Prop} (ho : s.heap.get? it = some o) (hc : o.cls = .type n) (hd : o.data = .fields vs)
  (hn : ["enumerate","zip","dict_itemiterator","dict_reverseitemiterator","odict_iterator","itertools.zip_longest","itertools.pairwise"].contains n = false) (hQ : Q () s) : wpAny M A (letOwnedTupleGo tg (.ref it) u) Q E s:=by
 unfold letOwnedTupleGo
 cases tg <;> first
  | exact yAH hQ
  | (cases u <;> first
    | exact yAH hQ
    | (refine yAA (wpAny_load ho ?_)
       rw [hc,hd];show wpAny M A (if (["enumerate","zip","dict_itemiterator","dict_reverseitemiterator","odict_iterator","itertools.zip_longest","itertools.pairwise"].contains n&&vs[0]? == some (rawInt _)) = true then _ else _) Q E s;rw [yAN (by intro h; rw [hn,yCH] at h; cases h)];exact yAH hQ))
noncomputable def Itl (K : PySem.W.Frag) (a : Addr) : It :=
 ⟨λi H=>∃ xs x,SqL K H a xs/\xs[i]? = some x,λi H x H'=>H' = H/\∀ xs,SqL K H a xs -> xs[i]? = some x,λi H=>∃ xs,SqL K H a xs/\xs.length <= i⟩
noncomputable def Itt (K : PySem.W.Frag) (a : Addr) : It :=
 ⟨λi H=>∃ xs x,SqT K H a xs/\xs[i]? = some x,λi H x H'=>H' = H/\∀ xs,SqT K H a xs -> xs[i]? = some x,λi H=>∃ xs,SqT K H a xs/\xs.length <= i⟩
noncomputable def Itr (lo : Int) (n : Nat) : It:=⟨λi _=>i < n,λi H x H'=>H' = H/\x = .int (lo + i),λi _=>n <= i⟩
theorem zIJ {P : Program} {w : World} {K : PySem.W.Frag} {tg : Expr} (a it : Addr) : Turn P w K tg (Itl K a) [it] it (λi h=>h.IsListIter it a i) where
 mem:=by simp
 obj:=λi h st b hb=>by
  have e : b = it:=by simpa using hb
  subst e;obtain ⟨o,e,c,d⟩:=st;exact ⟨o,e,λv z=>by rw [d] at z; cases z⟩
 keep:=λi h h' st k=>st.at λo e=>k it (by simp) o e
 item:=by
  intro X hP hw hK hc i pins s σ H E I hf st hg;subst hP hw hK;obtain ⟨xs,x,hq,hx⟩:=hg;obtain ⟨its,rv,p,hz⟩:=I.list hq;obtain ⟨u,hu,ru⟩:=rv.get hx;obtain ⟨f0,f1,f2,f3,f4,f5⟩:=hf it (by simp);refine wpAny_pyNext_list_item st p.isList (x:=u) (by simpa using hu) λh' st' sb => ?_;have I1 : Inv X pins σ H { s with heap:=h' }:=I.turned (t':=s.toks) (λb o hb e=>(sb.2 b hb).trans e) f0 f1 f3 f4 f5;obtain ⟨o,e,c,d⟩:=id st';exact ⟨u,rfl,zUM (s:={ s with heap:=h' }) e c d (by decide) ⟨x,H,I1,ru,⟨rfl,λys hy=>by rw [I.list_inj hy hq]; exact hx⟩,st',λb hb=>(hf b hb).1⟩⟩
 done:=by
  intro X hP hw hK hc i pins s σ H E I hf st hg;subst hP hw hK;obtain ⟨xs,hq,hx⟩:=hg;obtain ⟨its,rv,p,hz⟩:=I.list hq;obtain ⟨f0,f1,f2,f3,f4,f5⟩:=hf it (by simp);have hl:=rv.length;exact wpAny_pyNext_list_end (I.ok.hd hc) st p.isList (by simp; lia) λh' eb=>⟨rfl,I.turned (t':=s.toks) (λb o hb e=>eb b o hb e) f0 f1 f3 f4 f5⟩
 self:=λ_ _ _ _ _ st h=>wpAny_pyIter_listiter st h
theorem zMB {P : Program} {w : World} {K : PySem.W.Frag} {tg : Expr} (a it : Addr) : Turn P w K tg (Itt K a) [it] it (λi h=>h.IsTupleIter it a i) where
 mem:=by simp
 obj:=λi h st b hb=>by
  have e : b = it:=by simpa using hb
  subst e;obtain ⟨o,e,c,d⟩:=st;exact ⟨o,e,λv z=>by rw [d] at z; cases z⟩
 keep:=λi h h' st k=>st.at λo e=>k it (by simp) o e
 item:=by
  intro X hP hw hK hc i pins s σ H E I hf st hg;subst hP hw hK;obtain ⟨xs,x,hq,hx⟩:=hg;obtain ⟨its,rv,p,hz⟩:=I.tuple hq;obtain ⟨u,hu,ru⟩:=rv.get hx;obtain ⟨f0,f1,f2,f3,f4,f5⟩:=hf it (by simp);refine wpAny_pyNext_tuple_item st (show s.heap.IsTuple a its.toArray from p) (x:=u) (by simpa using hu) λh' st' sb => ?_;have I1 : Inv X pins σ H { s with heap:=h' }:=I.turned (t':=s.toks) (λb o hb e=>(sb.2 b hb).trans e) f0 f1 f3 f4 f5;obtain ⟨o,e,c,d⟩:=id st';exact ⟨u,rfl,zUM (s:={ s with heap:=h' }) e c d (by decide) ⟨x,H,I1,ru,⟨rfl,λys hy=>by rw [I.tuple_inj hy hq]; exact hx⟩,st',λb hb=>(hf b hb).1⟩⟩
 done:=by
  intro X hP hw hK hc i pins s σ H E I hf st hg;subst hP hw hK;obtain ⟨xs,hq,hx⟩:=hg;obtain ⟨its,rv,p,hz⟩:=I.tuple hq;obtain ⟨f0,f1,f2,f3,f4,f5⟩:=hf it (by simp);have hl:=rv.length;exact wpAny_pyNext_tuple_end (I.ok.hd hc) st (show s.heap.IsTuple a its.toArray from p) (by simp; lia) λh' eb=>⟨rfl,I.turned (t':=s.toks) (λb o hb e=>eb b o hb e) f0 f1 f3 f4 f5⟩
 self:=λ_ _ _ _ _ st h=>wpAny_pyIter_tupleiter st h
theorem zMN {P : Program} {w : World} {K : PySem.W.Frag} {tg : Expr} (it : Addr) (lo : Int) (n : Nat) : Turn P w K tg (Itr lo n) [it] it (λi h=>IsRangeIter h it (lo + (i : Nat) * 1) ((n : Int) - (i : Nat)) 1) where
 mem:=by simp
 obj:=λi h st b hb=>by
  have e : b = it:=by simpa using hb
  subst e
  exact ⟨_,st,λv z=>by
   have z' : Data.fields _ = Data.cell v:=z
   cases z'⟩
 keep:=λi h h' st k=>k it (by simp) _ st
 item:=by
  intro X hP hw hK hc i pins s σ H E I hf st hg;subst hP hw hK;obtain ⟨f0,f1,f2,f3,f4,f5⟩:=hf it (by simp);have W:=Walks.range (prog:=X.prog) (w:=X.w) (I.ok.hd hc) it lo 1 n;refine W.item i s _ _ hg st λv h' tk hv st' kk => ?_;obtain ⟨t,rfl⟩:=hv;have I1 : Inv X pins σ H { s with heap:=h',toks:=tk }:=I.turned (λb o hb e=>kk b o (by simpa using hb) e) f0 f1 f3 f4 f5;refine ⟨_,rfl,zUM (s:={ s with heap:=h',toks:=tk }) (n:="range_iterator") st' rfl rfl (by decide) ⟨.int (lo + i),H,I1,⟨t,?_⟩,⟨rfl,rfl⟩,st',λb hb=>(hf b hb).1⟩⟩;rw [Int.mul_one]
 done:=by
  intro X hP hw hK hc i pins s σ H E I hf st hg;subst hP hw hK;obtain ⟨f0,f1,f2,f3,f4,f5⟩:=hf it (by simp);exact wpAny_pyNext_range_end (I.ok.hd hc) st (by have : n <= i:=hg; lia) λh' eb=>⟨rfl,I.turned (t':=s.toks) (λb o hb e=>eb b o hb e) f0 f1 f3 f4 f5⟩
 self:=λ_ _ _ _ _ st h=>wpAny_pyIter_rangeiter st h
section
variable {X : Cx} {tg : Expr}
noncomputable def zZ3 (K : PySem.W.Frag) (tl : TE) : TI:=λσ H R=>tl σ H λx H1=>∃ a,x = .ref a/\(∃ xs,SqL K H1 a xs)/\R (Itl K a) H1
theorem zU9 {l : Expr} {tl : TE} (hl : PE X l tl) : PI X tg l (zZ3 X.K tl):=by
 intro pins s σ H R I h;refine thn (hl pins s σ H _ I h) λv s1 hM => ?_;obtain ⟨x,H1,I1,r1,q1⟩:=hM;obtain ⟨a,e,⟨xs,hq⟩,q⟩:=q1;subst e
 cases r1
 obtain ⟨its,rv,p,hz⟩:=I1.list hq;refine yDR p.isList ?_;refine ⟨s1.heap.objs.size,[s1.heap.objs.size],_,_,H1,rfl,I1.kept (t':=s1.toks) λb o e=>yAD _ e,zIJ a _,⟨_,yAY _ rfl,rfl,rfl⟩,λb hb => ?_,q⟩;have e : b = s1.heap.objs.size:=by simpa using hb
 subst e;exact I1.fpOk (yAG _) (I1.hok.fresh (yAG _))
theorem zQO {pins : List (Addr × Obj)} {σ : St} {H : Hp} {s : Shared} {R : It -> Hp -> Prop} {E : Value -> Shared -> Prop} {lo hi : Int} {t u v : Tok} {tk : Nat} (I : Inv X pins σ H s) (h1 : -(2 ^ 62) <= lo) (h2 : lo < 2 ^ 62) (h3 : -(2 ^ 62) <= hi) (h4 : hi < 2 ^ 62)
  (q : R (Itr lo (hi - lo).toNat) H) : wpAny (model X.prog X.w) X.A (pyIter (.ref s.heap.objs.size)) (PIE X pins σ tg R) E { s with heap:=s.heap.push { cls := .type "range",data := .fields #[.int lo t,.int hi u,.int 1 v] },toks:=tk }:=by
 refine wpAny_pyIter_range (IsRange.new ..) (small_one h1 h2 h3 h4) ?_;have I1 : Inv X pins σ H { s with heap:=s.heap.push { cls := .type "range",data := .fields #[.int lo t,.int hi u,.int 1 v] },toks:=tk }:=I.kept λb o e=>yAD _ e
 refine ⟨(s.heap.push { cls := .type "range",data := .fields #[.int lo t,.int hi u,.int 1 v] }).objs.size,[(s.heap.push { cls := .type "range",data := .fields #[.int lo t,.int hi u,.int 1 v] }).objs.size],_,_,H,rfl,
  I1.kept (t':=tk) λb o e=>yAD _ e,zMN _ lo (hi - lo).toNat,?_,λb hb => ?_,q⟩
 ·have e1 : lo + ((0 : Nat) : Int) * 1 = lo:=by simp
  have e2 : (((hi - lo).toNat : Nat) : Int) - ((0 : Nat) : Int) = Builtin.Range.rangeSize lo hi 1:=by rw [rangeSize_one]; split <;> lia
  show IsRangeIter _ _ (lo + ((0 : Nat) : Int) * 1) ((((hi - lo).toNat : Nat) : Int) - ((0 : Nat) : Int)) 1;rw [e1,e2];exact yAY _ rfl
 ·have e : b = (s.heap.push { cls := .type "range",data := .fields #[.int lo t,.int hi u,.int 1 v] }).objs.size:=by simpa using hb
  subst e;exact I1.fpOk (yAG _) (I1.hok.fresh (yAG _))
noncomputable def zZ5 (ta : TA) : TI:=λσ H R=>ta σ H λvs H1=>∃ j : Int,vs = [.int j] /\ -(2 ^ 62) <= j/\j < 2 ^ 62/\R (Itr 0 j.toNat) H1
theorem zB5 {a : Expr} {ta : TA} {p pos : Pos} (hg : Gl X "range") (hm : X.mg "range" = none) (ha : PA X [a] ta) (hs : starEach [a] X.env = [(false,eval a X.env)]:=by rfl) : PI X tg (.Call (.Name "range" p) [a] [] pos) (zZ5 ta):=by
 intro pins s σ H R I h;refine Call_ (zDW I hg hm boot_range (yCq (thn (ha pos pins s σ H _ I h) λus s1 hM => ?_) hs rfl));obtain ⟨vs,H1,I1,r1,q1⟩:=hM;obtain ⟨j,e,q1,q2,q⟩:=q1;subst e
 cases r1 with
 | cons r rr =>
  cases rr
  obtain ⟨t,rfl⟩:=r;exact call_range_1 (zQO I1 (by lia) (by lia) q1 q2 (by simpa using q))
noncomputable def zZV (wi : TI) (g : TG) (tb : TS) : TS:=λD σ H=>wi σ H λJ H1=>∃ W : Nat -> Nat -> St -> Hp -> Prop,(∃ m,W 0 m σ H1)/\∀ i m σ H,W i m σ H ->
 (J.stop i H/\D.nx σ H) \/ (J.go i H/\∃ N : St -> Hp -> Prop,(∀ σ' H',N σ' H' -> ∃ m',m' < m/\W (i + 1) m' σ' H')/\∀ x H',J.yld i H x H' -> g x σ H' λσ2 H2=>tb { D with nx:=N,ct:=N,bk:=D.nx } σ2 H2)
noncomputable def zIZ (fp : List Addr) (h : Heap) : List (Addr × Obj):=fp.filterMap λb=>(h.get? b).map λo=>(b,o)
theorem zDC {fp : List Addr} {h : Heap} {b : Addr} {o : Obj} (hb : b∈fp) (e : h.get? b = some o) : (b,o)∈zIZ fp h:=List.mem_filterMap.mpr ⟨b,hb,by rw [e]; rfl⟩
theorem zP8 {fp : List Addr} {h : Heap} {p : Addr × Obj} (hp : p∈zIZ fp h) : p.1∈fp/\h.get? p.1 = some p.2:=by
 obtain ⟨b,hb,e⟩:=List.mem_filterMap.mp hp
 cases q : h.get? b with
 | none=>rw [q] at e; cases e
 | some o =>
  rw [q] at e;have e' : (b,o) = p:=Option.some.inj e;subst e';exact ⟨hb,q⟩
theorem Inv.pinned {pins : List (Addr × Obj)} {σ : St} {H : Hp} {s : Shared} {fp : List Addr} (I : Inv X pins σ H s) (hf : ∀ b∈fp,zF5 X pins H b) (ho : ∀ b∈fp,∃ o,s.heap.get? b = some o/\∀ v,o.data ≠ .cell v) : Inv X (pins++zIZ fp s.heap) σ H s :=
 I.pins_of λp hp=>(yAm.mp hp).elim (λz=>I.pin p (yAM _ z)) λz=>by
  obtain ⟨hb,e⟩:=zP8 z;obtain ⟨f0,f1,f2,_⟩:=hf p.1 hb;obtain ⟨o,e',d⟩:=ho p.1 hb;rw [e] at e'; cases e';exact ⟨e,f0,f1,f2,d⟩
theorem Inv.unpinned {pins pl : List (Addr × Obj)} {σ : St} {H : Hp} {s : Shared} (I : Inv X (pins++pl) σ H s) : Inv X pins σ H s:=I.pins_of λp hp=>I.pin p (yAM _ (yBa _ hp))
theorem zBL {iter : Expr} {body : List Stmt} {wi : TI} {g : TG} {tb : TS} {pos : Pos} (hp : PassesOwn (model X.prog X.w) X.A X.env X.xe) (hc : X.calm = true) (hi : PI X tg iter wi) (hg : PG X tg g) (hb : PSs X body tb)
  (hs : ∀ x,foldedSetIterable iter X.env x = pure x:=by intro _; rfl) : PS X (.For tg iter body [] pos) (zZV wi g tb):=by
 intro pins s σ H D I h;refine wpAny_For (thn (hi pins s σ H _ I h) λv s1 h1=>thn h1 λitv s2 h2 => ?_) hs;obtain ⟨it,fp,tn,J,H2,e,I2,T,st2,f2,W,⟨m0,w0⟩,turn⟩:=h2;subst e;have stat : ∀ {H' : Hp},(∀ b∈fp,H' b = none) -> ∀ b∈fp,zF5 X pins H' b:=λhn b hb=>⟨hn b hb,(f2 b hb).2⟩;refine codeAny_forLoop_any (λn s'=>∃ i σ' H',Inv X pins σ' H' s'/\tn i s'.heap/\(∀ b∈fp,H' b = none)/\W i n σ' H') ?_ m0 ⟨0,σ,H2,I2,st2,λb hb=>(f2 b hb).1,w0⟩
 rintro n s3 ⟨i,σ3,H3,I3,st3,fr3,w3⟩
 rcases turn i n σ3 H3 w3 with ⟨stop,qn⟩ | ⟨go,N,hN,step⟩
 ·refine yCp hp (thn (T.done X rfl rfl rfl hc i pins s3 σ3 H3 X.xe I3 (stat fr3) st3 stop) λr s4 hM => ?_)
  obtain ⟨hr,I4⟩:=hM;subst hr;exact yDh ⟨σ3,H3,I4,qn⟩
 ·refine yCp hp (thn (T.item X rfl rfl rfl hc i pins s3 σ3 H3 X.xe I3 (stat fr3) st3 go) λr s4 hM => ?_)
  obtain ⟨u,hr,h4⟩:=hM;subst hr;refine yCp hp (thn h4 λ_ s5 hM => ?_);obtain ⟨x,H5,I5,r5,y5,st5,fr5⟩:=hM;have I5':=I5.pinned (stat fr5) (T.obj _ _ st5);refine yCp hp (thn (hg _ s5 σ3 H5 x u _ I5' r5 (step x H5 y5)) λ_ s6 hM => ?_);obtain ⟨σ6,H6,I6,q6⟩:=hM;refine yCp hp (thn (hb _ s6 σ6 H6 _ I6 q6) λf s7 q7 => ?_)
  have again : ∀ {σ7 : St} {H7 : Hp},Inv X (pins++zIZ fp s5.heap) σ7 H7 s7 -> N σ7 H7 -> ∃ m,m < n/\∃ i σ' H',Inv X pins σ' H' s7/\tn i s7.heap/\(∀ b∈fp,H' b = none)/\W i m σ' H':=λ{σ7 H7} I7 n7=>by
   obtain ⟨m',hm,w7⟩:=hN σ7 H7 n7;refine ⟨m',hm,i + 1,σ7,H7,I7.unpinned,T.keep _ _ _ st5 λb hb o e=>(I7.pin (b,o) (yAM _ (yAM _ (zDC hb e)))).1,λb hb => ?_,w7⟩;obtain ⟨o,e,d⟩:=T.obj _ _ st5 b hb;exact (I7.pin (b,o) (yAM _ (yAM _ (zDC hb e)))).2.1
  cases f with
  | next=>obtain ⟨σ7,H7,I7,n7⟩:=q7; exact again I7 n7
  | cont=>obtain ⟨σ7,H7,I7,n7⟩:=q7; exact again I7 n7
  | brk=>obtain ⟨σ7,H7,I7,q7⟩:=q7; exact ⟨σ7,H7,I7.unpinned,q7⟩
  | ret v=>obtain ⟨x7,σ7,H7,I7,r7,q7⟩:=q7; exact ⟨x7,σ7,H7,I7.unpinned,r7,q7⟩
end
theorem zCJ {lo : Int} {n : Nat} {g : TG} {tb : TS} {D : Ends} {σ : St} {H : Hp} (Pv : Nat -> St -> Hp -> Prop) (h0 : Pv 0 σ H)
  (hs : ∀ i σ H,i < n -> Pv i σ H -> g (.int (lo + i)) σ H λσ2 H2=>tb { D with nx:=Pv (i + 1),ct:=Pv (i + 1),bk:=D.nx } σ2 H2) (hd : ∀ σ H,Pv n σ H -> D.nx σ H) :
  ∃ W : Nat -> Nat -> St -> Hp -> Prop,(∃ m,W 0 m σ H)/\∀ i m σ H,W i m σ H ->
   ((Itr lo n).stop i H/\D.nx σ H) \/ ((Itr lo n).go i H/\∃ N : St -> Hp -> Prop,(∀ σ' H',N σ' H' -> ∃ m',m' < m/\W (i + 1) m' σ' H')/\∀ x H',(Itr lo n).yld i H x H' -> g x σ H' λσ2 H2=>tb { D with nx:=N,ct:=N,bk:=D.nx } σ2 H2):=by
 refine ⟨λi m σ H=>m = n - i/\i <= n/\Pv i σ H,⟨n,by simp,yAy _,h0⟩,?_⟩
 rintro i m σ H ⟨rfl,hi,p⟩
 by_cases hlt : i < n
 ·refine .inr ⟨hlt,Pv (i + 1),λσ' H' p'=>⟨n - (i + 1),by lia,rfl,hlt,p'⟩,λx H' y => ?_⟩
  obtain ⟨e,y⟩:=y;subst e y;exact hs i σ _ hlt p
 ·have e : i = n:=by lia
  subst e;exact .inl ⟨yAG _,hd σ H p⟩
noncomputable abbrev R2:=V -> V -> Hp -> VK -> Prop
noncomputable def OpR (X : Cx) (f : Value -> Value -> Sem Value) (r : R2) : Prop :=
 ∀ (pins : List (Addr × Obj)) (s : Shared) (σ : St) (H : Hp) (x y : V) (v u : Value) (Q : VK),Inv X pins σ H s -> RelV x v -> RelV y u -> r x y H Q ->
  wpAny (model X.prog X.w) X.A (f v u) (EP X pins σ Q) X.xe s
noncomputable def UnR (X : Cx) (f : Value -> Sem Value) (r : V -> Hp -> VK -> Prop) : Prop :=
 ∀ (pins : List (Addr × Obj)) (s : Shared) (σ : St) (H : Hp) (x : V) (v : Value) (Q : VK),Inv X pins σ H s -> RelV x v -> r x H Q ->
  wpAny (model X.prog X.w) X.A (f v) (EP X pins σ Q) X.xe s
noncomputable def zCZ (X : Cx) (f : Value) (r : List V -> Hp -> VK -> Prop) : Prop :=
 ∀ (pins : List (Addr × Obj)) (s : Shared) (σ : St) (H : Hp) (xs : List V) (us : List Value) (Q : VK),Inv X pins σ H s -> Vals xs us -> r xs H Q ->
  wpAny (model X.prog X.w) X.A (call f us) (EP X pins σ Q) X.xe s
noncomputable def zb7 (X : Cx) (r : V -> Hp -> (Bool -> Hp -> Prop) -> Prop) : Prop :=
 ∀ (pins : List (Addr × Obj)) (s : Shared) (σ : St) (H : Hp) (x : V) (v : Value) (Q : Bool -> Hp -> Prop),Inv X pins σ H s -> RelV x v -> r x H Q ->
  wpAny (model X.prog X.w) X.A (truthy v) (TP X pins σ Q) X.xe s
noncomputable def tOp (r : R2) (ta tb : TE) : TE:=λσ H Q=>ta σ H λx H1=>tb σ H1 λy H2=>r x y H2 Q
noncomputable def tUn (r : V -> Hp -> VK -> Prop) (ta : TE) : TE:=λσ H Q=>ta σ H λx H1=>r x H1 Q
noncomputable def rI (C : Int -> Int -> Prop) (g : Int -> Int -> V) : R2:=λx y H Q=>∃ i j,x = .int i/\y = .int j/\C i j/\Q (g i j) H
noncomputable def rI0 (g : Int -> Int -> V) : R2:=λx y H Q=>∃ i j,x = .int i/\y = .int j/\Q (g i j) H
noncomputable def rU (g : Int -> V) : V -> Hp -> VK -> Prop:=λx H Q=>∃ i,x = .int i/\Q (g i) H
section
variable {X : Cx} {a b c : Expr} {ta tb tc : TE} {pos : Pos}
theorem zYU (ha : PE X a ta) (hb : PE X b tb) {pins : List (Addr × Obj)} {s : Shared} {σ : St} {H : Hp} {R : V -> V -> Hp -> Prop} (I : Inv X pins σ H s)
  (h : ta σ H λx H1=>tb σ H1 λy H2=>R x y H2) {Q : Value -> Shared -> Prop} {f : Value -> Value -> Sem Value}
  (hf : ∀ v u s2 x y H2,Inv X pins σ H2 s2 -> RelV x v -> RelV y u -> R x y H2 -> wpAny (model X.prog X.w) X.A (f v u) Q X.xe s2) :
  wpAny (model X.prog X.w) X.A (eval a X.env) (λv s₁ => wpAny (model X.prog X.w) X.A (eval b X.env) (λu s₂ => wpAny (model X.prog X.w) X.A (f v u) Q X.xe s₂) X.xe s₁) X.xe s:=by
 refine thn (ha pins s σ H _ I h) λv s1 hM => ?_;obtain ⟨x,H1,I1,r1,q1⟩:=hM;refine thn (hb pins s1 σ H1 _ I1 q1) λu s2 hM => ?_;obtain ⟨y,H2,I2,r2,q2⟩:=hM;exact hf v u s2 x y H2 I2 r1 r2 q2
theorem zA9 {op : Operator} {r : R2} (ho : OpR X (binaryOp op) r) (ha : PE X a ta) (hb : PE X b tb) : PE X (.BinOp a op b pos) (tOp r ta tb):=by
 intro pins s σ H Q I h;exact wpAny_BinOp (zYU ha hb I h λv u s2 x y H2 I2 rx ry q=>ho pins s2 σ H2 x y v u Q I2 rx ry q)
theorem zW0 {op : UnaryOp} {r : V -> Hp -> VK -> Prop} (ho : UnR X (unaryOp op) r) (ha : PE X a ta) : PE X (.UnaryOp op a pos) (tUn r ta):=by
 intro pins s σ H Q I h;refine UnaryOp_ (thn (ha pins s σ H _ I h) λv s1 hM => ?_);obtain ⟨x,H1,I1,r1,q1⟩:=hM;exact ho pins s1 σ H1 x v Q I1 r1 q1
theorem opI {f : Value -> Value -> Sem Value} {C : Int -> Int -> Prop} {g : Int -> Int -> Int}
  (rule : ∀ (i j : Int) (t u : Tok) (s : Shared) (Q : Value -> Shared -> Prop) (E : Value -> Shared -> Prop),C i j -> Q (.int (g i j) s.toks) { s with toks:=s.toks + 1 } -> wpAny (model X.prog X.w) X.A (f (.int i t) (.int j u)) Q E s) :
  OpR X f (rI C λi j => .int (g i j)):=by
 intro pins s σ H x y v u Q I rx ry h;obtain ⟨i,j,rfl,rfl,hc,q⟩:=h;obtain ⟨t,rfl⟩:=rx;obtain ⟨t',rfl⟩:=ry;exact rule i j t t' s _ _ hc ⟨.int (g i j),H,I.tok _,⟨_,rfl⟩,q⟩
theorem zXS {f : Value -> Value -> Sem Value} {g : Int -> Int -> Int}
  (rule : ∀ (i j : Int) (t u : Tok) (s : Shared) (Q : Value -> Shared -> Prop) (E : Value -> Shared -> Prop),Q (.int (g i j) s.toks) { s with toks:=s.toks + 1 } -> wpAny (model X.prog X.w) X.A (f (.int i t) (.int j u)) Q E s) :
  OpR X f (rI0 λi j => .int (g i j)):=by
 intro pins s σ H x y v u Q I rx ry h;obtain ⟨i,j,rfl,rfl,q⟩:=h;obtain ⟨t,rfl⟩:=rx;obtain ⟨t',rfl⟩:=ry;exact rule i j t t' s _ _ ⟨.int (g i j),H,I.tok _,⟨_,rfl⟩,q⟩
theorem zYT {f : Value -> Value -> Sem Value} {g : Int -> Int -> Bool}
  (rule : ∀ (i j : Int) (t u : Tok) (s : Shared) (Q : Value -> Shared -> Prop) (E : Value -> Shared -> Prop),Q (.bool (g i j)) s -> wpAny (model X.prog X.w) X.A (f (.int i t) (.int j u)) Q E s) :
  OpR X f (rI0 λi j => .bl (g i j)):=by
 intro pins s σ H x y v u Q I rx ry h;obtain ⟨i,j,rfl,rfl,q⟩:=h;obtain ⟨t,rfl⟩:=rx;obtain ⟨t',rfl⟩:=ry;exact rule i j t t' s _ _ ⟨.bl (g i j),H,I,rfl,q⟩
noncomputable def zaR (i j : Int) : Prop:=0 < j/\j < 1073741824
noncomputable def zVA (i j : Int) : Prop:=0 <= j/\j <= 1000000/\i.natAbs < 2 ^ 64
noncomputable def CMul (i j : Int) : Prop:=(-(2 ^ 64) < i/\i < 2 ^ 64) \/ (-(2 ^ 64) < j/\j < 2 ^ 64)
theorem CMul.ok {i j : Int} (h : CMul i j) : IntMulOk i j:=by
 rcases h with ⟨h1,h2⟩ | ⟨h1,h2⟩
 ·exact .of_left (intBits_le_64 h1 h2)
 ·exact .of_right (intBits_le_64 h1 h2)
theorem zM0 (k : Nat) : (0 : Int) <= 2 ^ k:=by
 rw [two_pow_cast];exact yCQ _
theorem zAX : OpR X (binaryOp .Add) (rI0 λi j => .int (i + j)):=zXS λ_ _ _ _ _ _ _ q=>add_int q
theorem zI0 : OpR X (binaryOp .Sub) (rI0 λi j => .int (i - j)):=zXS λ_ _ _ _ _ _ _ q=>sub_int q
theorem zCA : OpR X (binaryOp .Mult) (rI CMul λi j => .int (i * j)):=opI λ_ _ _ _ _ _ _ hc q=>mul_int q hc.ok
theorem zN6 : OpR X (binaryOp .FloorDiv) (rI zaR λi j => .int (i / j)):=opI λi j _ _ _ _ _ hc q=>by
 have h1 : (0 : Int) < j:=hc.1;have h2 : j < 1073741824:=hc.2;exact floordiv_int (by lia) (by rw [Int.fdiv_eq_ediv_of_nonneg i (by lia)]; exact q) (.inl (PyProof.noPylong_small (by lia)))
theorem zAY : OpR X (binaryOp .Mod) (rI (λ_ j=>0 < j) λi j => .int (i % j)):=opI λi j _ _ _ _ _ hc q=>by
 have h1 : (0 : Int) < j:=hc;exact mod_int' (by lia) (by rw [Int.fmod_eq_emod_of_nonneg i (by lia)]; exact q)
theorem zLO : OpR X (binaryOp .Pow) (rI zVA λi j => .int (i ^ j.toNat)):=opI λ_ _ _ _ _ _ _ hc q=>pow_int_small hc.1 hc.2.1 hc.2.2 q
theorem zCM : OpR X (binaryOp .LShift) (rI zVA λi j => .int (i * 2 ^ j.toNat)):=opI λ_ _ _ _ _ _ _ hc q=>lshift_int_small hc.1 hc.2.1 hc.2.2 q
theorem zLA : OpR X (binaryOp .RShift) (rI (λ_ j=>0 <= j) λi j => .int (i / 2 ^ j.toNat)):=opI λi j _ _ _ _ _ hc q =>
 rshift_int hc (by rw [Int.fdiv_eq_ediv_of_nonneg i (zM0 _)]; exact q)
theorem zE4 : OpR X (binaryOp .BitAnd) (rI0 λi j => .int (Builtin.bitAnd i j)):=zXS λ_ _ _ _ _ _ _ q=>and_int q
theorem zTY : OpR X (binaryOp .BitOr) (rI0 λi j => .int (Builtin.bitOr i j)):=zXS λ_ _ _ _ _ _ _ q=>or_int q
theorem zT7 : OpR X (binaryOp .BitXor) (rI0 λi j => .int (Builtin.bitXor i j)):=zXS λ_ _ _ _ _ _ _ q=>xor_int q
theorem unI {f : Value -> Sem Value} {g : Int -> Int}
  (rule : ∀ (i : Int) (t : Tok) (s : Shared) (Q : Value -> Shared -> Prop) (E : Value -> Shared -> Prop),Q (.int (g i) s.toks) { s with toks:=s.toks + 1 } -> wpAny (model X.prog X.w) X.A (f (.int i t)) Q E s) :
  UnR X f (rU λi => .int (g i)):=by
 intro pins s σ H x v Q I rx h;obtain ⟨i,rfl,q⟩:=h;obtain ⟨t,rfl⟩:=rx;exact rule i t s _ _ ⟨.int (g i),H,I.tok _,⟨_,rfl⟩,q⟩
theorem zOE : UnR X (unaryOp .USub) (rU λi => .int (-i)):=unI λ_ _ _ _ _ q=>neg_int q
end
noncomputable def za8 : V -> V -> Bool
 | .non,.non=>true | .non,.int _=>true | .int _,.non=>true | .non,.bl _=>true | .bl _,.non=>true | .non,.str _=>true | .str _,.non=>true
 | .int _,.int _=>true | .bl _,.bl _=>true | .str _,.str _=>true | .byt _,.byt _=>true
 | .int _,.str _=>true | .str _,.int _=>true | .bl _,.str _=>true | .str _,.bl _=>true
 | _,_=>false
noncomputable def rEq : R2:=λx y H Q=>za8 x y = true/\Q (.bl (decide (x = y))) H
noncomputable def rNe : R2:=λx y H Q=>za8 x y = true/\Q (.bl (!decide (x = y))) H
theorem zPE {i j : Int} : decide (V.int i = V.int j) = (i == j):=by
 rw [yAr]
 simp
theorem zT4 {i j : Bool} : decide (V.bl i = V.bl j) = (i == j):=by
 rw [yAr]
 simp
theorem zO4 {i j : Str} : decide (V.str i = V.str j) = (i == j):=by
 rw [yAr]
 simp
theorem zPY {i j : Array UInt8} : decide (V.byt i = V.byt j) = (i.toList == j.toList):=by
 rw [yAr]
 cases i
 cases j
 simp
section
variable {X : Cx} {a b c : Expr} {ta tb tc : TE} {pos : Pos}
theorem zAQ {pins : List (Addr × Obj)} {σ : St} {H : Hp} {s : Shared} {Q : VK} {k k' : Bool} (I : Inv X pins σ H s) (q : Q (.bl k) H) (e : k = k') : EP X pins σ Q (.bool k') s:=by
 subst e;exact ⟨.bl k,H,I,rfl,q⟩
theorem zD4 : OpR X (compareOp .Eq) rEq:=by
 intro pins s σ H x y v u Q I rx ry h;obtain ⟨hs,q⟩:=h
 cases x with
 | non =>
  cases rx
  cases y with
  | non=>cases ry; exact PySem.EqNone.eq_none_none (zAQ I q (by simp))
  | bl j=>cases ry; exact PySem.EqNone.eq_none_bool (zAQ I q (by simp))
  | int j=>obtain ⟨t',rfl⟩:=ry; exact PySem.EqNone.eq_none_int (zAQ I q (by simp))
  | str j=>obtain ⟨t',rfl⟩:=ry; exact PySem.EqNone.eq_none_str (zAQ I q (by simp))
  | _=>exact absurd (show false = true from hs) yAW
 | bl i =>
  cases rx
  cases y with
  | non=>cases ry; exact PySem.EqNone.eq_bool_none (zAQ I q (by simp))
  | bl j=>cases ry; exact eq_bool (zAQ I q zT4)
  | str j=>obtain ⟨t',rfl⟩:=ry; exact PySem.EqMixed.eq_bool_str (zAQ I q (by simp))
  | _=>exact absurd (show false = true from hs) yAW
 | int i =>
  obtain ⟨t,rfl⟩:=rx
  cases y with
  | non=>cases ry; exact PySem.EqNone.eq_int_none (zAQ I q (by simp))
  | int j=>obtain ⟨t',rfl⟩:=ry; exact eq_int (zAQ I q zPE)
  | str j=>obtain ⟨t',rfl⟩:=ry; exact PySem.EqMixed.eq_int_str (zAQ I q (by simp))
  | _=>exact absurd (show false = true from hs) yAW
 | str i =>
  obtain ⟨t,rfl⟩:=rx
  cases y with
  | non=>cases ry; exact PySem.EqNone.eq_str_none (zAQ I q (by simp))
  | bl j=>cases ry; exact PySem.EqMixed.eq_str_bool (zAQ I q (by simp))
  | int j=>obtain ⟨t',rfl⟩:=ry; exact PySem.EqMixed.eq_str_int (zAQ I q (by simp))
  | str j=>obtain ⟨t',rfl⟩:=ry; exact eq_str (zAQ I q zO4)
  | _=>exact absurd (show false = true from hs) yAW
 | byt i =>
  obtain ⟨t,rfl⟩:=rx
  cases y with
  | byt j=>obtain ⟨t',rfl⟩:=ry; exact PySem.W.eq_bytes (zAQ I q zPY)
  | _=>exact absurd (show false = true from hs) yAW
 | _=>cases y <;> exact absurd (show false = true from hs) yAW
theorem zZ4 : OpR X (compareOp .NotEq) rNe:=by
 intro pins s σ H x y v u Q I rx ry h;obtain ⟨hs,q⟩:=h
 cases x with
 | non =>
  cases rx
  cases y with
  | non=>cases ry; exact PySem.EqNone.ne_none_none (zAQ I q (by simp))
  | bl j=>cases ry; exact PySem.EqNone.ne_none_bool (zAQ I q (by simp))
  | int j=>obtain ⟨t',rfl⟩:=ry; exact PySem.EqNone.ne_none_int (zAQ I q (by simp))
  | str j=>obtain ⟨t',rfl⟩:=ry; exact PySem.EqNone.ne_none_str (zAQ I q (by simp))
  | _=>exact absurd (show false = true from hs) yAW
 | bl i =>
  cases rx
  cases y with
  | non=>cases ry; exact PySem.EqNone.ne_bool_none (zAQ I q (by simp))
  | bl j=>cases ry; exact ne_bool (zAQ I q (congrArg not zT4))
  | str j=>obtain ⟨t',rfl⟩:=ry; exact PySem.EqMixed.ne_bool_str (zAQ I q (by simp))
  | _=>exact absurd (show false = true from hs) yAW
 | int i =>
  obtain ⟨t,rfl⟩:=rx
  cases y with
  | non=>cases ry; exact PySem.EqNone.ne_int_none (zAQ I q (by simp))
  | int j=>obtain ⟨t',rfl⟩:=ry; exact ne_int (zAQ I q (congrArg not zPE))
  | str j=>obtain ⟨t',rfl⟩:=ry; exact PySem.EqMixed.ne_int_str (zAQ I q (by simp))
  | _=>exact absurd (show false = true from hs) yAW
 | str i =>
  obtain ⟨t,rfl⟩:=rx
  cases y with
  | non=>cases ry; exact PySem.EqNone.ne_str_none (zAQ I q (by simp))
  | bl j=>cases ry; exact PySem.EqMixed.ne_str_bool (zAQ I q (by simp))
  | int j=>obtain ⟨t',rfl⟩:=ry; exact PySem.EqMixed.ne_str_int (zAQ I q (by simp))
  | str j=>obtain ⟨t',rfl⟩:=ry; exact ne_str (zAQ I q (congrArg not zO4))
  | _=>exact absurd (show false = true from hs) yAW
 | byt i =>
  obtain ⟨t,rfl⟩:=rx
  cases y with
  | byt j=>obtain ⟨t',rfl⟩:=ry; exact PySem.W.ne_bytes (zAQ I q (congrArg not zPY))
  | _=>exact absurd (show false = true from hs) yAW
 | _=>cases y <;> exact absurd (show false = true from hs) yAW
theorem zM6 : OpR X (compareOp .LtE) (rI0 λi j => .bl (decide (i <= j))):=zYT λ_ _ _ _ _ _ _ q=>le_int q
theorem zUB : OpR X (compareOp .Gt) (rI0 λi j => .bl (decide (j < i))):=zYT λ_ _ _ _ _ _ _ q=>gt_int q
theorem za4 : OpR X (compareOp .GtE) (rI0 λi j => .bl (decide (j <= i))):=zYT λ_ _ _ _ _ _ _ q=>ge_int q
theorem zNM : OpR X (compareOp .In) (λx y H Q=>∃ i j,x = .str i/\y = .str j/\Q (.bl (!(Builtin.Str.occurrences j i 0 j.length 1).isEmpty)) H):=by
 intro pins s σ H x y v u Q I rx ry h;obtain ⟨i,j,rfl,rfl,q⟩:=h;obtain ⟨t,rfl⟩:=rx;obtain ⟨t',rfl⟩:=ry;exact in_str (zAQ I q rfl)
theorem zXH : OpR X (compareOp .Is) (λx y H Q=>y = .non/\Q (.bl (decide (x = .non))) H):=by
 intro pins s σ H x y v u Q I rx ry h;obtain ⟨rfl,q⟩:=h
 cases ry
 refine is_none_gen (zAQ I q ?_)
 cases x <;> first
  | (cases rx; rfl)
  | (obtain ⟨t,rfl⟩:=rx; rfl)
theorem zK0 : OpR X (compareOp .IsNot) (λx y H Q=>y = .non/\Q (.bl (!decide (x = .non))) H):=by
 intro pins s σ H x y v u Q I rx ry h;obtain ⟨rfl,q⟩:=h
 cases ry
 refine isnot_none_gen (zAQ I q ?_)
 cases x <;> first
  | (cases rx; rfl)
  | (obtain ⟨t,rfl⟩:=rx; rfl)
theorem zAO (b : Expr) {op : CmpOp} (h : op ≠ .In:=by decide) (h2 : op ≠ .NotIn:=by decide) : behindInMarks op b = false:=by
 have e1 : (op == CmpOp.In) = false:=by cases op <;> first | rfl | exact absurd rfl h
 have e2 : (op == CmpOp.NotIn) = false:=by cases op <;> first | rfl | exact absurd rfl h2
 cases b <;> simp [behindInMarks,e1,e2]
theorem zD0 {op : CmpOp} {r : R2} (ho : OpR X (compareOp op) r) (ha : PE X a ta) (hb : PE X b tb) (hm : behindInMarks op b = false) : PE X (.Compare a [op] [b] pos) (tOp r ta tb):=by
 intro pins s σ H Q I h;exact wpAny_Compare1 (zYU ha hb I h λv u s2 x y H2 I2 rx ry q=>ho pins s2 σ H2 x y v u Q I2 rx ry q) hm
noncomputable def zWT (t : TE) : TT:=λσ H Q=>t σ H λx H'=>∃ k,x = .bl k/\Q k H'
theorem zAI {op : CmpOp} {r : R2} (ho : OpR X (compareOp op) r) (ha : PE X a ta) (hb : PE X b tb) (hm : behindInMarks op b = false) : PT X (.Compare a [op] [b] pos) (zWT (tOp r ta tb)):=by
 intro pins s σ H Q I h;refine wpAny_isTrue_Compare1 (thn (ha pins s σ H _ I h) λv s1 hM => ?_) hm;obtain ⟨x,H1,I1,r1,q1⟩:=hM;refine thn (hb pins s1 σ H1 _ I1 q1) λu s2 hM => ?_;obtain ⟨y,H2,I2,r2,q2⟩:=hM;refine thn (ho pins s2 σ H2 x y v u _ I2 r1 r2 q2) λc s3 hM => ?_;obtain ⟨z,H3,I3,r3,k,e,q3⟩:=hM;subst e
 cases r3
 exact yBo ⟨H3,I3,q3⟩
noncomputable def zTE (r r' : R2) (ta tb tc : TE) : TE:=λσ H Q=>ta σ H λx H1=>tb σ H1 λy H2=>r x y H2 λz H3=>∃ k,z = .bl k /\
 (if k = true then tc σ H3 λw' H4=>r' y w' H4 Q else Q (.bl false) H3)
theorem zQR {op op' : CmpOp} {r r' : R2} (ho : OpR X (compareOp op) r) (ho' : OpR X (compareOp op') r') (ha : PE X a ta) (hb : PE X b tb) (hc : PE X c tc)
  (hm : lastMarks [op,op'] [b,c] = false:=by with_unfolding_all rfl) : PE X (.Compare a [op,op'] [b,c] pos) (zTE r r' ta tb tc):=by
 intro pins s σ H Q I h;refine Compare_chain (thn (ha pins s σ H _ I h) λv s1 hM => ?_) hm;obtain ⟨x,H1,I1,r1,q1⟩:=hM;refine chain_link (thn (hb pins s1 σ H1 _ I1 q1) λu s2 hM => ?_);obtain ⟨y,H2,I2,r2,q2⟩:=hM;refine thn (ho pins s2 σ H2 x y v u _ I2 r1 r2 q2) λd s3 hM => ?_;obtain ⟨z,H3,I3,r3,k,e,q3⟩:=hM;subst e
 cases r3
 refine yBo ?_
 cases k with
 | false=>exact ite_ff ⟨.bl false,H3,I3,rfl,q3⟩
 | true=>exact ite_tt (chain_last (thn (hc pins s3 σ H3 _ I3 q3) λw' s4 ⟨z',H4,I4,r4,q4⟩=>ho' pins s4 σ H4 y z' u w' Q I4 r2 r4 q4))
theorem zL8 {op op' : CmpOp} {r r' : R2} (ho : OpR X (compareOp op) r) (ho' : OpR X (compareOp op') r') (ha : PE X a ta) (hb : PE X b tb) (hc : PE X c tc)
  (hm : lastMarks [op,op'] [b,c] = false:=by with_unfolding_all rfl) : PT X (.Compare a [op,op'] [b,c] pos) (zWT (zTE r r' ta tb tc)):=by
 intro pins s σ H Q I h;refine isTrue_chain (thn (ha pins s σ H _ I h) λv s1 hM => ?_) hm;obtain ⟨x,H1,I1,r1,q1⟩:=hM;refine test_link (thn (hb pins s1 σ H1 _ I1 q1) λu s2 hM => ?_);obtain ⟨y,H2,I2,r2,q2⟩:=hM;refine thn (ho pins s2 σ H2 x y v u _ I2 r1 r2 q2) λd s3 hM => ?_;obtain ⟨z,H3,I3,r3,k,e,q3⟩:=hM;subst e
 cases r3
 refine yBo ?_
 cases k with
 | false =>
  obtain ⟨k',e',q'⟩:=q3
  cases e'
  exact ite_ff ⟨H3,I3,q'⟩
 | true =>
  refine ite_tt (test_last (thn (hc pins s3 σ H3 _ I3 q3) λw' s4 hM => ?_));obtain ⟨z',H4,I4,r4,q4⟩:=hM;refine thn (ho' pins s4 σ H4 y z' u w' _ I4 r2 r4 q4) λd' s5 hM => ?_;obtain ⟨z2,H5,I5,r5,k2,e2,q5⟩:=hM;subst e2
  cases r5
  exact yBo ⟨H5,I5,q5⟩
noncomputable def zaD (K : PySem.W.Frag) (x : V) (H : Hp) (k : Bool) : Prop :=
 match x with
 | .non=>k = false
 | .bl b=>k = b
 | .int i=>k = (i != 0)
 | .str y=>y.length <= sizeLine/\k = ((y.length : Int) != 0)
 | .byt y=>y.size <= sizeLine/\k = ((y.size : Int) != 0)
 | .ref p=>(∃ xs,SqL K H p xs/\k = !xs.isEmpty) \/ (∃ xs,SqT K H p xs/\k = !xs.isEmpty) \/ ∃ kvs,H p = some (.dK kvs)/\k = !kvs.isEmpty
 | _=>False
theorem zN1 {κ : Type} {kvs : List (κ × V)} {vs : List (κ × Value)} (r : KV kvs vs) : (!vs.isEmpty) = !kvs.isEmpty:=by
 cases r <;> rfl
theorem zG6 {xs : List V} {its : List Value} (r : Vals xs its) : (!its.toArray.isEmpty) = !xs.isEmpty:=by
 cases r <;> simp
theorem zFB : (sizeLine : Nat) < 2 ^ 63:=by rw [sizeLine_eq]; decide
theorem zX9 : zb7 X (λx H Q=>∃ k,zaD X.K x H k/\Q k H):=by
 intro pins s σ H x v Q I rx h;obtain ⟨k,e,q⟩:=h;have hl:=zFB;have hs : sizeLine = 16777216:=sizeLine_eq
 cases x with
 | non =>
  cases rx
  have e' : k = false:=e;subst e';exact truthy_none ⟨H,I,q⟩
 | bl b =>
  cases rx
  have e' : k = b:=e;subst e';exact yBo ⟨H,I,q⟩
 | int i =>
  obtain ⟨t,rfl⟩:=rx;have e' : k = (i != 0):=e;subst e';exact PySem.P.truthy_int ⟨H,I,q⟩
 | str y =>
  obtain ⟨t,rfl⟩:=rx;obtain ⟨hy,e'⟩ : y.length <= sizeLine/\k = ((y.length : Int) != 0):=e;subst e';exact PySem.P.truthy_str (by lia) ⟨H,I.tok _,q⟩
 | byt y =>
  obtain ⟨t,rfl⟩:=rx;obtain ⟨hy,e'⟩ : y.size <= sizeLine/\k = ((y.size : Int) != 0):=e;subst e';exact PySem.W.truthy_bytes (by lia) ⟨H,I.tok _,q⟩
 | ref p =>
  cases rx
  have e' : (∃ xs,SqL X.K H p xs/\k = !xs.isEmpty) \/ (∃ xs,SqT X.K H p xs/\k = !xs.isEmpty) \/ ∃ kvs,H p = some (.dK kvs)/\k = !kvs.isEmpty:=e
  rcases e' with ⟨xs,hx,e'⟩ | ⟨xs,hx,e'⟩ | ⟨kvs,hx,e'⟩
  ·subst e'
   obtain ⟨its,r,pl,hz⟩:=I.list hx;have hlen:=r.length;exact wpAny_truthy_list pl.isList (by simp only [yAF]; lia) ⟨H,I.tok _,by rw [zG6 r]; exact q⟩
  ·subst e'
   obtain ⟨its,r,pl,hz⟩:=I.tuple hx;have hlen:=r.length;exact truthy_tuple pl (by simp only [yAF]; lia) ⟨H,I.tok _,by rw [zG6 r]; exact q⟩
  ·subst e'
   obtain ⟨hz,hS,vs,r,m⟩ : kvs.length <= sizeLine/\(p == sysModules) = false/\∃ vs,KV kvs vs/\s.heap.DictOf (zAM X.prog X.w) p vs:=I.hok p _ hx;have hlen : kvs.length = vs.length:=Paired.length r;exact wpAny_truthy_dict hS m (by lia) ⟨H,I.tok _,by rw [zN1 r]; exact q⟩
 | _=>exact (show False from e).elim
theorem zH1 (ha : PE X a ta) (he : ∀ whole,isTrue a X.env whole = (do let v <- whole; standAt a.pos; holding [v] (truthy v))) :
  PT X a (λσ H Q=>ta σ H λx H'=>∃ k,zaD X.K x H' k/\Q k H'):=by
 intro pins s σ H Q I h;refine isTrue_plain (thn (ha pins s σ H _ I h) λv s1 hM => ?_) (he _);obtain ⟨x,H1,I1,r1,q1⟩:=hM;exact zX9 pins s1 σ H1 x v Q I1 r1 q1
theorem zM1 : OpR X (binaryOp .Add) (λx y H Q=>∃ i j,x = .str i/\y = .str j/\i.length + j.length <= sizeLine/\Q (.str (i++j)) H):=by
 intro pins s σ H x y v u Q I rx ry h;obtain ⟨i,j,rfl,rfl,hz,q⟩:=h;obtain ⟨t,rfl⟩:=rx;obtain ⟨t',rfl⟩:=ry;exact add_str (λt' tk=>⟨.str (i++j),H,I.tok _,⟨_,rfl⟩,q⟩) hz
theorem zDJ {x : V} {us : List Value} (r : Vals [x] us) : ∃ u,us = [u]/\RelV x u:=by
 cases r with
 | cons r1 r2=>cases r2; exact ⟨_,rfl,r1⟩
theorem zRQ {x y : V} {us : List Value} (r : Vals [x,y] us) : ∃ u w',us = [u,w']/\RelV x u/\RelV y w':=by
 cases r with
 | cons r1 r2 =>
  cases r2 with
  | cons r3 r4=>cases r4; exact ⟨_,_,rfl,r1,r3⟩
theorem zH6 : zCZ X (.builtin "abs") (λxs H Q=>∃ i,xs = [.int i]/\Q (.int (if i < 0 then -i else i)) H):=by
 intro pins s σ H xs us Q I r h;obtain ⟨i,rfl,q⟩:=h;obtain ⟨u,rfl,t,rfl⟩:=zDJ r;exact call_abs_int λu tk=>⟨.int (if i < 0 then -i else i),H,I.tok _,⟨_,rfl⟩,q⟩
theorem zI1 : zCZ X (.type "int") (λxs H Q=>(∃ i,xs = [.int i]/\Q (.int i) H) \/ ∃ k,xs = [.bl k]/\Q (.int (if k then 1 else 0)) H):=by
 intro pins s σ H xs us Q I r h
 rcases h with ⟨i,rfl,q⟩ | ⟨k,rfl,q⟩
 ·obtain ⟨u,rfl,t,rfl⟩:=zDJ r
  exact call_int_int ⟨.int i,H,I,⟨_,rfl⟩,q⟩
 ·obtain ⟨u,rfl,r1⟩:=zDJ r
  cases r1
  exact call_int_bool ⟨.int (if k then 1 else 0),H,I.tok _,⟨_,rfl⟩,q⟩
end
structure ObjM (h : Heap) (x dx C : Addr) (mA : Str -> Option Value) : Prop where
 obj : h.get? x = some (PySem.W.instObj C dx)
 ns : h.Ns1 dx mA
 ne : dx≠x
theorem zNY {h : Heap} {dx : Addr} {mA : Str -> Option Value} (n : h.Ns1 dx mA) : ∃ od,h.get? dx = some od/\∀ name,PySem.W.lookIn name od = some (mA name):=by
 obtain ⟨o,es,ep,ho,hd,hk,_,hm⟩:=n;refine ⟨o,ho,λname => ?_⟩;have e:=hm name;unfold nsFind findBy at e;rw [<- Array.find?_toList] at e;unfold PySem.W.lookIn;rw [hd];dsimp only
 split
 ·rename_i y q
  rw [q] at e;exact congrArg some e
 ·rename_i q
  rw [q] at e
  have a : es.toList.any (·.refKey) = false:=by
   rw [List.any_eq_false];intro y hy;obtain ⟨z,t,hkey⟩:=hk y (Array.mem_toList_iff.mp hy)
   simp [DictEntry.refKey,hkey]
  have a' : ¬ es.toList.any (·.refKey) = true:=by rw [a]; exact yAW
  rw [yAN a'];exact congrArg some e
theorem ObjM.look {h : Heap} {x dx C : Addr} {mA : Str -> Option Value} (I : ObjM h x dx C mA) : ∃ od,PySem.W.InstAt h x (PySem.W.instObj C dx) C (some od)/\∀ name,PySem.W.lookIn name od = some (mA name) :=
 let ⟨od,ho,hl⟩:=zNY I.ns
 ⟨od,⟨I.obj,rfl,rfl,ho⟩,hl⟩
section
variable {prog : Program} {w : World} {A : Around} {E : Value -> Shared -> Prop} {s : Shared} {K : PySem.W.Frag} {x dx C f : Addr} {mA : Str -> Option Value} {name : Str} {v : Value}
theorem zW5 {expr : Bool} {Q : Value -> Shared -> Prop} (X : K.In s.heap) (I : ObjM s.heap x dx C mA) (hg : PySem.W.plainGet K C name = true) (hh : PySem.W.hasDictIn K C = true)
  (ha : PySem.W.findIn K (.ref C) name = some none) (hv : mA name = some v) (hv' : PySem.W.handedIn v = true) (h : Q v { s with toks:=s.toks + 1 }) :
  wpAny (model prog w) A (getAttr (.ref x) name expr) Q E s:=by
 obtain ⟨od,J,hl⟩:=I.look;exact PySem.W.get_value X J (PySem.W.plainGet_of hg).1 (PySem.W.findObj_own hh ha rfl (by rw [hl,hv])) hv' h
theorem zQJ {pl : Sem Bool} {Q : Value × List Value -> Shared -> Prop} (X : K.In s.heap) (I : ObjM s.heap x dx C mA) (hg : PySem.W.plainGet K C name = true)
  (hf : PySem.W.findIn K (.ref C) name = some (some (.ref f))) (ht : PySem.W.isFn K (.ref f) = true) (hv : mA name = none) (h : Q (.ref f,[.ref x]) s) :
  wpAny (model prog w) A (getMethod (.ref x) name pl) Q E s:=by
 obtain ⟨od,J,hl⟩:=I.look;exact PySem.W.method_fn X J (PySem.W.plainGet_of hg).1 (PySem.W.plainGet_of hg).2 hf (yAe.mp ht) (by show (PySem.W.lookIn name od).map (·.isSome) = some false; rw [hl,hv]; rfl) h
theorem zW2 {ns : List Str} {Q : Unit -> Shared -> Prop} (X : K.In s.heap) (I : ObjM s.heap x dx C mA)
  (hs : PySem.W.findIn K (.ref C) "__setattr__" = some (some (.builtin "object.__setattr__"))) (hp : PySem.W.plainOver K C = true) (ht : PySem.W.takerIn K C name = some none) (hh : PySem.W.hasDictIn K C = true)
  (hw : PySem.Within mA ns) (hsz : ns.length <= sizeLine)
  (h : ∀ h',ObjM h' x dx C (λy=>if y = name then some v else mA y) -> Heap.SameBut dx s.heap h' -> Q () { s with heap:=h',toks:=s.toks + 2 }) :
  wpAny (model prog w) A (setAttr (.ref x) name v) Q E s:=by
 obtain ⟨od,J,hl⟩:=I.look;refine PySem.W.set_plain X J hs (PySem.W.osa_open (s:={ s with toks:=s.toks + 1 }) (r:=none) X J hp ht λb => ?_);obtain ⟨cd,hc,hd'⟩:=PySem.W.any_some hh;have hx : s.heap.get? x = some ⟨.ref C,some dx,.plain,#[]⟩:=I.obj;refine yAA (yAH (yAA (yAA (wpAny_loadPart hx (yAA (PySem.W.Looks.here (s:={ s with toks:=s.toks + 1 }) (PySem.W.looks_clsIn X hc) ?_))))));rw [hd'];refine yAH (a:=some dx) (yAA (yAH (yAA ?_)));refine wpAny_nsSet1 (s:={ s with toks:=s.toks + 1 }) I.ns λh' hn2 hs2 => ?_;obtain ⟨oD,esD,epD,hoD,hdD,hcD⟩:=hn2.count (PySem.Within.cons name v hw);refine yAA (wpAny_lookBehind hoD (by rw [hdD]; exact pastItsLine_dict (yAz hcD (by rw [yBP]; lia))) ?_);exact yAH (h _ ⟨(hs2.2 _ (Ne.symm I.ne)).trans I.obj,hn2,I.ne⟩ hs2)
theorem zSC {R : Result -> Shared -> Prop} {vs : List Value} {kw : List (Str × Value)} (X : K.In s.heap) (hm : PySem.W.makesIn K C = true)
  (hi : PySem.W.findIn K (.ref C) "__init__" = some (some (.ref f))) (hf : PySem.W.typeIn K (.ref f) = some (.type "function"))
  (h : codeAny (model prog w) (A.under (.builtin "type.__call__" ⟨.ref C::vs,kw⟩)) (.call (.ref f) ⟨.ref (s.heap.objs.size + 1)::vs,kw⟩) (PySem.W.InitBack (s.heap.objs.size + 1) R)
   { s with heap:=(s.heap.push PySem.W.emptyDict).push (PySem.W.instObj C s.heap.objs.size) }) :
  codeAny (model prog w) A (.call (.ref C) ⟨vs,kw⟩) R s:=by
 obtain ⟨hh,g,d,t,os⟩:=s;exact PySem.W.make_core (PySem.W.makes_of X hm) (PySem.W.looks_findIn X hi) (λself=>PySem.W.bind_fn X self hf) (.inl rfl) h
end
noncomputable def zG1 (f : Str) (v : V) : List (Str × V) -> List (Str × V)
 | []=>[(f,v)]
 | (g,x)::r=>if g = f then (g,v)::r else (g,x)::zG1 f v r
theorem zFX (f g : Str) (v : V) : ∀ fs : List (Str × V),(zG1 f v fs).lookup g = if g = f then some v else fs.lookup g
 | []=>by
  show List.lookup g [(f,v)] = _
  by_cases h : g = f
  ·have hb : (g == f) = true:=yAe.mpr h
   simp only [List.lookup,hb,yAK h]
  ·have hb : (g == f) = false:=yCz.mpr h
   simp only [List.lookup,hb,yAN h]
 | (k,x)::r=>by
  have ih:=zFX f g v r;rw [show zG1 f v ((k,x)::r) = (if k = f then (k,v)::r else (k,x)::zG1 f v r) from rfl]
  by_cases hk : k = f
  ·rw [yAK hk]
   by_cases h : g = k
   ·have hb : (g == k) = true:=yAe.mpr h
    simp only [List.lookup,hb,yAK (h.trans hk)]
   ·have hb : (g == k) = false:=yCz.mpr h
    simp only [List.lookup,hb,yAN (λe : g = f=>h (e.trans hk.symm))]
  ·rw [yAN hk]
   by_cases h : g = k
   ·have hb : (g == k) = true:=yAe.mpr h
    simp only [List.lookup,hb,yAN (λe : g = f=>hk (h.symm.trans e))]
   ·have hb : (g == k) = false:=yCz.mpr h
    simp only [List.lookup,hb];exact ih
theorem zFH (f : Str) (v : V) : ∀ fs : List (Str × V),f∈(zG1 f v fs).map (·.1)/\∀ g,g∈fs.map (·.1) -> g∈(zG1 f v fs).map (·.1)
 | []=>⟨by simp [zG1],λg h=>by simp at h⟩
 | (k,x)::r=>by
  obtain ⟨i1,i2⟩:=zFH f v r;rw [show zG1 f v ((k,x)::r) = (if k = f then (k,v)::r else (k,x)::zG1 f v r) from rfl]
  by_cases hk : k = f
  ·rw [yAK hk]
   subst hk;exact ⟨by simp,λg h=>by simpa using h⟩
  ·rw [yAN hk]
   refine ⟨?_,λg h => ?_⟩
   ·rw [yAp]
    exact yAP _ i1
   ·rw [yAp] at h ⊢
    rcases yAd.mp h with e | e
    ·exact yAd.mpr (.inl e)
    ·exact yAP _ (i2 g e)
theorem zFT (f : Str) (v : V) : ∀ fs : List (Str × V),(zG1 f v fs).length <= fs.length + 1
 | []=>by simp [zG1]
 | (k,x)::r=>by
  have ih:=zFT f v r;rw [show zG1 f v ((k,x)::r) = (if k = f then (k,v)::r else (k,x)::zG1 f v r) from rfl]
  by_cases hk : k = f
  ·rw [yAK hk,yBP,yBP]; lia
  ·rw [yAN hk,yBP,yBP]; lia
theorem RelO.some_of {v : V} {o : Option Value} (r : RelO (some v) o) : ∃ u,o = some u/\RelV v u:=by
 cases o with
 | none=>exact (show False from r).elim
 | some u=>exact ⟨u,rfl,r⟩
theorem RelO.none_of {o : Option Value} (r : RelO none o) : o = none:=by
 cases o with
 | none=>rfl
 | some u=>exact (show False from r).elim
theorem zHV {v : V} {u : Value} (r : RelV v u) : PySem.W.handedIn u = true:=by
 cases v with
 | non=>cases (show u = Value.none from r); rfl
 | bl b=>cases (show u = Value.bool b from r); rfl
 | int i=>obtain ⟨t,e⟩:=(show ∃ t,u = Value.int i t from r); cases e; rfl
 | str x=>obtain ⟨t,e⟩:=(show ∃ t,u = Value.str x t from r); cases e; rfl
 | byt b=>obtain ⟨t,e⟩:=(show ∃ t,u = Value.bytes b t from r); cases e; rfl
 | flt b=>obtain ⟨t,e⟩:=(show ∃ t,u = Value.float b t from r); cases e; rfl
 | ref a=>cases (show u = Value.ref a from r); rfl
 | ty n=>cases (show u = Value.type n from r); rfl
section
variable {P : Program} {w : World} {H H' : Hp} {h h' : Heap} {a C dx : Addr} {fs fs' : List (Str × V)}
theorem zFR (hok : HOk P w H h) (e : H a = some (.ins C dx fs)) : ∃ mA,ObjM h a dx C mA/\(∀ f,RelO (fs.lookup f) (mA f))/\PySem.Within mA (fs.map (·.1))/\fs.length <= 1000/\H dx = some (.own a):=by
 obtain ⟨d,z,ne,ob,mA,n,r,q⟩:=(show ObjOk P w H h a (.ins C dx fs) from hok a _ e);exact ⟨mA,⟨ob,n,ne⟩,r,q,z,d⟩
end
structure Cls (K : PySem.W.Frag) (C : Addr) : Prop where
 pg : PySem.W.plainGet K C Str.empty = true
 hd : PySem.W.hasDictIn K C = true
 po : PySem.W.plainOver K C = true
 sa : PySem.W.findIn K (.ref C) "__setattr__" = some (some (.builtin "object.__setattr__"))
theorem Cls.get {K : PySem.W.Frag} {C : Addr} (c : Cls K C) (f : Str) : PySem.W.plainGet K C f = true:=c.pg
noncomputable def NoAttr (K : PySem.W.Frag) (C : Addr) (f : Str) : Prop:=PySem.W.findIn K (.ref C) f = some none
theorem NoAttr.taker {K : PySem.W.Frag} {C : Addr} {f : Str} (n : NoAttr K C f) : PySem.W.takerIn K C f = some none:=by
 unfold PySem.W.takerIn;rw [show PySem.W.findIn K (.ref C) f = some none from n];rfl
structure Con (K : PySem.W.Frag) (C : Addr) (f : Str) (v : V) (u : Value) : Prop where
 at_ : PySem.W.findIn K (.ref C) f = some (some u)
 rel : RelV v u
 get : PySem.W.specialIn K u "__get__" = some none
 cp : PySem.W.copiedNames.contains f = false
structure Meth (K : PySem.W.Frag) (C : Addr) (m : Str) (f : Addr) : Prop where
 at_ : PySem.W.findIn K (.ref C) m = some (some (.ref f))
 fn : PySem.W.isFn K (.ref f) = true
 kp : PySem.W.keepIn K (.ref f) = true
section
variable {X : Cx} {pins : List (Addr × Obj)} {σ : St} {H : Hp} {s : Shared} {a C dx : Addr} {fs : List (Str × V)} {f : Str} {v : V} {A : Around} {E : Value -> Shared -> Prop}
theorem zMS {b : Bool} {Q : Value -> Shared -> Prop} (I : Inv X pins σ H s) (e : H a = some (.ins C dx fs)) (c : Cls X.K C) (n : NoAttr X.K C f) (l : fs.lookup f = some v)
  (h : ∀ u s',Inv X pins σ H s' -> RelV v u -> Q u s') : wpAny (model X.prog X.w) A (getAttr (.ref a) f b) Q E s:=by
 obtain ⟨mA,O,r,_,_,_⟩:=zFR I.hok e;obtain ⟨u,hu,ru⟩:=RelO.some_of (v:=v) (o:=mA f) (by rw [<- l]; exact r f);exact zW5 I.kIn O (c.get f) c.hd n hu (zHV ru) (h u _ (I.tok _) ru)
theorem zGF {m : Str} {g : Addr} {pl : Sem Bool} {Q : Value × List Value -> Shared -> Prop} (I : Inv X pins σ H s) (e : H a = some (.ins C dx fs)) (c : Cls X.K C) (k : Meth X.K C m g) (l : fs.lookup m = none)
  (h : Q (.ref g,[.ref a]) s) : wpAny (model X.prog X.w) A (getMethod (.ref a) m pl) Q E s:=by
 obtain ⟨mA,O,r,_,_,_⟩:=zFR I.hok e;have hn : mA m = none:=RelO.none_of (by rw [<- l]; exact r m);exact zQJ I.kIn O (c.get m) k.at_ k.fn hn h
theorem zMX {y : V} {u : Value} {Q : Unit -> Shared -> Prop} (I : Inv X pins σ H s) (e : H a = some (.ins C dx fs)) (c : Cls X.K C) (n : NoAttr X.K C f) (hl : fs.length < 1000) (ry : RelV y u)
  (h : ∀ s',Inv X pins σ (upd H a (.ins C dx (zG1 f y fs))) s' -> Q () s') : wpAny (model X.prog X.w) A (setAttr (.ref a) f u) Q E s:=by
 obtain ⟨mA,O,r,wi,_,ho⟩:=zFR I.hok e;have hz : (fs.map (·.1)).length <= sizeLine:=by rw [yAC,sizeLine_eq]; lia
 refine zW2 I.kIn O c.sa c.po n.taker c.hd wi hz λh' O' sb=>h _ ?_;have hd : ∃ o,h'.get? dx = some o:=let ⟨o,_,_,e',_⟩:=O'.ns; ⟨o,e'⟩;refine I.write (x:=a) (e:=dx) (by rw [e]; exact True.intro) (.inr ho) (λb q hb z=>(sb.2 b hb).trans z) hd ?_;refine ⟨by rw [zA7 O.ne]; exact ho,?_,O.ne,O'.obj,_,O'.ns,λg => ?_,λg hg => ?_⟩
 ·have:=zFT f y fs; lia
 ·show RelO ((zG1 f y fs).lookup g) (if g = f then some u else mA g)
  rw [zFX]
  by_cases q : g = f
  ·rw [yAK q,yAK q]; exact ry
  ·rw [yAN q,yAN q]; exact r g
 ·by_cases q : g = f
  ·rw [q]; exact (zFH f y fs).1
  ·refine (zFH f y fs).2 g (wi g λz=>hg ?_)
   show (if g = f then some u else mA g) = none;rw [yAN q]; exact z
theorem Inv.made (I : Inv X pins σ H s) : Inv X pins σ (upd (upd H s.heap.objs.size (.own (s.heap.objs.size + 1))) (s.heap.objs.size + 1) (.ins C s.heap.objs.size []))
  { s with heap:=(s.heap.push PySem.W.emptyDict).push (PySem.W.instObj C s.heap.objs.size) }:=by
 have e1 : (s.heap.push PySem.W.emptyDict).get? s.heap.objs.size = some PySem.W.emptyDict:=yAY s.heap rfl
 have e2 : ((s.heap.push PySem.W.emptyDict).push (PySem.W.instObj C s.heap.objs.size)).get? (s.heap.objs.size + 1) = some (PySem.W.instObj C s.heap.objs.size):=by
  have:=yAY (s.heap.push PySem.W.emptyDict) (o:=PySem.W.instObj C s.heap.objs.size) rfl
  rwa [yCi] at this
 have e3 : (s.heap.push PySem.W.emptyDict).Ns s.heap.objs.size (λ_=>none):=⟨PySem.W.emptyDict,#[],_,e1,rfl,(λe he=>absurd he (by simp)),λ_=>rfl⟩;have I1:=I.laid (a:=s.heap.objs.size) (o := .own (s.heap.objs.size + 1)) (h':=s.heap.push PySem.W.emptyDict) (t':=s.toks) (λb u q=>yAD _ q) (yAG _) ⟨_,e1⟩;refine I1.laid (a:=s.heap.objs.size + 1) (o := .ins C s.heap.objs.size []) (t':=s.toks) (λb u q=>yAD _ q) (Nat.le_of_eq (yCi _ _)) ?_;have ne : s.heap.objs.size≠s.heap.objs.size + 1:=yAh (yCy _);refine ⟨by rw [zA7 ne,zA1],yAy _,ne,e2,λ_=>none,(Heap.Ns1.of_empty e3).at λo q=>yAD _ q,λ_=>True.intro,λy hy=>absurd rfl hy⟩
theorem zNS {prog : Program} {w : World} {env : Env} {e : Expr} {f : Str} {pos : Pos} {s : Shared} {Q : Value -> Shared -> Prop} (hb : attributeBase e f env (eval e env) = eval e env)
  (h : wpAny (model prog w) A (eval e env) (λo s₁ => wpAny (model prog w) A (getAttr o f true) Q E s₁) E s) : wpAny (model prog w) A (eval (.Attribute e f pos) env) Q E s :=
 Attribute_any_ h (by rw [arm_eval_Attribute,hb])
end
noncomputable def zaB (K : PySem.W.Frag) (ta : TE) (f : Str) : TE:=λσ H Q=>ta σ H λx H1=>∃ a C dx fs v,x = .ref a/\H1 a = some (.ins C dx fs)/\Cls K C/\NoAttr K C f/\fs.lookup f = some v/\Q v H1
noncomputable def zaA (K : PySem.W.Frag) (ta tv : TE) (f : Str) : TS:=λD σ H=>tv σ H λy H1=>ta σ H1 λx H2=>∃ a C dx fs,x = .ref a/\H2 a = some (.ins C dx fs)/\Cls K C/\NoAttr K C f/\fs.length < 1000 /\
 D.nx σ (upd H2 a (.ins C dx (zG1 f y fs)))
section
variable {X : Cx} {o e value : Expr} {f : Str} {pos pos' tpos : Pos} {ta tv : TE}
theorem zBW (he : PE X e ta) (hb : attributeBase e f X.env (eval e X.env) = eval e X.env) : PE X (.Attribute e f pos) (zaB X.K ta f):=by
 intro pins s σ H Q I h;refine zNS hb (thn (he pins s σ H _ I h) λu s1 hM => ?_);obtain ⟨x,H1,I1,rx,a,C,dx,fs,v,ex,ea,c,n,l,q⟩:=hM;subst ex;obtain rfl : u = Value.ref a:=rx;exact zMS I1 ea c n l λu' s2 I2 ru=>⟨v,H1,I2,ru,q⟩
theorem zKS (ha : PE X o ta) (hv : PE X value tv) (hs : swapsWith value (some (.Attribute o f pos')) pos.line X.env = pure false) : PS X (.Assign [.Attribute o f pos'] value pos) (zaA X.K ta tv f):=by
 intro pins s σ H D I h;refine plainObj_wpAny_Assign_Attribute (thn (hv pins s σ H _ I h) λu s1 hM => ?_) hs;obtain ⟨y,H1,I1,ry,q⟩:=hM;refine thn (ha pins s1 σ H1 _ I1 q) λov s2 hM => ?_;obtain ⟨x,H2,I2,rx,a,C,dx,fs,ex,ea,c,n,l,q2⟩:=hM;subst ex;obtain rfl : ov = Value.ref a:=rx;exact zMX I2 ea c n l ry λs3 I3=>⟨σ,_,I3,q2⟩
end
section
variable {X : Cx} {pins : List (Addr × Obj)} {σ : St} {H : Hp} {s : Shared} {A : Around} {E : Value -> Shared -> Prop} {Q : Value -> Shared -> Prop} {c : Value} {b : Bool}
inductive TyOf (K : PySem.W.Frag) (H : Hp) : V -> Value -> Prop where
 | non : TyOf K H .non (.type "NoneType")
 | bl (x : Bool) : TyOf K H (.bl x) (.type "bool")
 | int (i : Int) : TyOf K H (.int i) (.type "int")
 | str (x : Str) : TyOf K H (.str x) (.type "str")
 | flt (x : UInt64) : TyOf K H (.flt x) (.type "float")
 | lst {a : Addr} {xs : List V} (e : H a = some (.lst xs)) : TyOf K H (.ref a) (.type "list")
 | frz {a : Addr} {o : Obj} {xs : List V} (e : H a = some (.frz o (.lst xs))) : TyOf K H (.ref a) (.type "list")
 | tup {a : Addr} {xs : List V} (e : H a = some (.tup xs)) : TyOf K H (.ref a) (.type "tuple")
 | dK {a : Addr} {kvs : List (Key × V)} (e : H a = some (.dK kvs)) : TyOf K H (.ref a) (.type "dict")
 | dT {a : Addr} {kvs : List (List Key × V)} (e : H a = some (.dT kvs)) : TyOf K H (.ref a) (.type "dict")
 | ins {a C dx : Addr} {fs : List (Str × V)} (e : H a = some (.ins C dx fs)) (cl : Cls K C) (ha : PySem.W.findIn K (.ref C) "__class__" = some (some (.builtin "object.__class__")))
   (hn : PySem.W.specialIn K (.builtin "object.__class__") "__get__" = some (some (.builtin "getset_descriptor.__get__"))) (htk : PySem.W.takesIn K (.builtin "object.__class__") = some true)
   (hm : PySem.W.mroIn K C (.type "object") = some true) : TyOf K H (.ref a) (.ref C)
theorem zP2 {x : V} {u t : Value} (I : Inv X pins σ H s) (rx : RelV x u) (ty : TyOf X.K H x t) (e : PySem.W.kitOne X.K t c = some b) (h : ∀ tk,Q (.bool b) { s with toks:=tk }) :
  wpAny (model X.prog X.w) A (call (.builtin "isinstance") [u,c]) Q E s:=by
 cases ty with
 | non=>cases (show u = Value.none from rx); exact yBb PySem.W.kitx_none I.kIn True.intro e (λz=>nomatch z) h
 | bl y=>cases (show u = Value.bool y from rx); exact yBb PySem.W.kitx_bool I.kIn True.intro e (λz=>nomatch z) h
 | int i=>obtain ⟨t,q⟩:=(show ∃ t,u = Value.int i t from rx); cases q; exact yBb PySem.W.kitx_int I.kIn True.intro e (λz=>nomatch z) h
 | str y=>obtain ⟨t,q⟩:=(show ∃ t,u = Value.str y t from rx); cases q; exact yBb PySem.W.kitx_str I.kIn True.intro e (λz=>nomatch z) h
 | flt y=>obtain ⟨t,q⟩:=(show ∃ t,u = Value.float y t from rx); cases q; exact yBb PySem.W.kitx_float I.kIn True.intro e (λz=>nomatch z) h
 | @lst a xs ea =>
  cases (show u = Value.ref a from rx)
  obtain ⟨_,_,n,_,h1⟩:=(show ObjOk X.prog X.w H s.heap a (.lst xs) from I.hok a _ ea);exact yBb yEA I.kIn ⟨_,h1,rfl⟩ e (λz=>nomatch z) h
 | @frz a ob xs ea =>
  cases (show u = Value.ref a from rx)
  obtain ⟨_,_,_,n,_,h1⟩:=(show ObjOk X.prog X.w H s.heap a (.frz ob (.lst xs)) from I.hok a _ ea);exact yBb yEA I.kIn ⟨_,h1,rfl⟩ e (λz=>nomatch z) h
 | @tup a xs ea =>
  cases (show u = Value.ref a from rx)
  obtain ⟨_,_,_,p⟩:=(show ObjOk X.prog X.w H s.heap a (.tup xs) from I.hok a _ ea);obtain ⟨o,h1,h2,_⟩:=p;exact yBb PySem.W.kitx_tuple I.kIn ⟨o,h1,h2⟩ e (λz=>nomatch z) h
 | @dK a kvs ea =>
  cases (show u = Value.ref a from rx)
  obtain ⟨_,_,vs,_,p⟩:=(show ObjOk X.prog X.w H s.heap a (.dK kvs) from I.hok a _ ea);obtain ⟨o,es,ep,h1,h2,_⟩:=p;exact yBb yEB I.kIn ⟨o,h1,h2.1⟩ e (λz=>nomatch z) h
 | @dT a kvs ea =>
  cases (show u = Value.ref a from rx)
  obtain ⟨_,_,xs,_,o,es,ep,h1,h2,_⟩:=(show ObjOk X.prog X.w H s.heap a (.dT kvs) from I.hok a _ ea);exact yBb yEB I.kIn ⟨o,h1,h2.1⟩ e (λz=>nomatch z) h
 | @ins a C dx fs ea cl ha hn htk hm =>
  cases (show u = Value.ref a from rx)
  obtain ⟨mA,O,_⟩:=zFR I.hok ea;obtain ⟨od,J,_⟩:=O.look;exact yBb (PySem.W.kitx_own (cl.get _) cl.hd ha hn htk hm) I.kIn J e (λz=>nomatch z) h
end
structure Room (k : Nat) (A : Around) : Prop where
 hd : A.handled = none
 dp : A.depth + 3 * k + 5 < recursionLimit
 un : A.units + 16 * k + 200 < cLine
 gd : A.guards = some []
theorem Room.mono {j k : Nat} {A : Around} (r : Room k A) (h : j <= k) : Room j A:=⟨r.hd,by have:=r.dp; lia,by have:=r.un; lia,r.gd⟩
theorem Room.deeper {k : Nat} {A : Around} (r : Room (k + 1) A) (env : Env) : Room k (A.deeper env) :=
 ⟨r.hd,by have:=r.dp; show A.depth + 1 + 3 * k + 5 < _; lia,by have:=r.un; show A.units + 3 + 16 * k + 200 < _; lia,r.gd⟩
theorem Room.in1 {k : Nat} {A : Around} (r : Room (k + 1) A) : Room k A.in1 :=
 ⟨r.hd,by have:=r.dp; show A.depth + 3 * k + 5 < _; lia,by have:=r.un; show A.units + 1 + 16 * k + 200 < _; lia,r.gd⟩
theorem zMW {A : Around} {C : Addr} {us : List Value} {kw : List (Str × Value)} : (A.under (.builtin "type.__call__" ⟨.ref C::us,kw⟩)).depth = A.depth + 1:=by
 first | rfl | simp [Around.under,Code.weight,Code.isCreation,Code.isGuard,Code.isCaller,Code.frames,Code.isFrame,guardIds]
theorem zM8 {A : Around} {C : Addr} {us : List Value} {kw : List (Str × Value)} : (A.under (.builtin "type.__call__" ⟨.ref C::us,kw⟩)).units = A.units + 1:=by
 first | rfl | simp [Around.under,Code.cUnits,Code.frames,Code.isFrame]
theorem make_guards {A : Around} {C : Addr} {us : List Value} {kw : List (Str × Value)} : (A.under (.builtin "type.__call__" ⟨.ref C::us,kw⟩)).guards = A.guards:=by
 first | rfl | simp [Around.under,Code.guards,Code.isGuard,guardIds,pushGuards]
theorem Room.make {k : Nat} {A : Around} (r : Room (k + 1) A) (C : Addr) (us : List Value) (kw : List (Str × Value)) : Room k (A.under (.builtin "type.__call__" ⟨.ref C::us,kw⟩)) :=
 ⟨r.hd,by have:=r.dp; rw [zMW]; lia,by have:=r.un; rw [zM8]; lia,make_guards.trans r.gd⟩
theorem Room.depth {k : Nat} {A : Around} (r : Room k A) : A.depth < recursionLimit:=by have:=r.dp; lia
theorem Room.units {k : Nat} {A : Around} (r : Room k A) : A.units + 64 < cLine:=by have:=r.un; lia
noncomputable def zV5 : TA:=λ_ H Q=>Q [] H
noncomputable def zOQ (ta : TE) (tr : TA) : TA:=λσ H Q=>ta σ H λx H1=>tr σ H1 λxs H2=>Q (x::xs) H2
section
variable {X : Cx} {e : Expr} {es : List Expr} {te : TE} {t : TA} {pos : Pos}
theorem zA3 : PA X [] zV5:=λ_ _ _ _ H Q I h=>Calls.spliced_nil ⟨[],H,I,.nil,h⟩
theorem zA0 (ha : PE X e te) (hr : PA X es t) (hs : starEach (e::es) X.env = (false,eval e X.env)::starEach es X.env:=by rfl) : PA X (e::es) (zOQ te t):=by
 intro pos pins s σ H Q I h;rw [hs];show wpAny _ _ (spliced ((false,eval e X.env)::backTo pos (starEach es X.env))) _ _ s;refine Calls.spliced_cons (thn (ha pins s σ H _ I h) λu s1 hM => ?_);obtain ⟨x,H1,I1,r1,q1⟩:=hM;refine thn (hr pos pins s1 σ H1 _ I1 q1) λus s2 hM => ?_;obtain ⟨xs,H2,I2,r2,q2⟩:=hM;exact ⟨x::xs,H2,I2,.cons r1 r2,q2⟩
noncomputable def zb0 (t : TA) : TE:=λσ H Q=>t σ H λxs H1=>xs.length <= sizeLine/\∀ p,H1 p = none -> Q (.ref p) (upd H1 p (.tup xs))
noncomputable def zb9 (t : TA) : TE:=λσ H Q=>t σ H λxs H1=>xs.length <= sizeLine/\∀ p,H1 p = none -> Q (.ref p) (upd H1 p (.lst xs))
theorem zEQ {x1} (h : PA X es t) : PE X (.Tuple es x1 pos) (zb0 t):=by
 intro pins s σ H Q I hq;refine wpAny_Tuple_spliced (thn (h pos pins s σ H _ I hq) λus s1 ⟨xs,H1,I1,r,z,q⟩=>⟨by rw [<- r.length]; exact z,?_⟩);have hf : H1 s1.heap.objs.size = none:=I1.hok.fresh (yAG _);refine ⟨.ref s1.heap.objs.size,upd H1 s1.heap.objs.size (.tup xs),I1.laid (t':=s1.toks) (λb u e=>yAD _ e) (yAG _) ?_,rfl,q _ hf⟩;exact ⟨z,us,r,⟨_,yAY _ rfl,rfl,_,rfl⟩⟩
theorem zBK (h : PA X es t) : PE X (.List es pos) (zb9 t):=by
 intro pins s σ H Q I hq;refine wpAny_List_spliced (thn (h pos pins s σ H _ I hq) λus s1 ⟨xs,H1,I1,r,z,q⟩=>⟨by rw [<- r.length]; exact z,?_⟩);have hf : H1 s1.heap.objs.size = none:=I1.hok.fresh (yAG _);refine ⟨.ref s1.heap.objs.size,upd H1 s1.heap.objs.size (.lst xs),I1.laid (t':=s1.toks) (λb u e=>yAD _ e) (yAG _) ?_,rfl,q _ hf⟩;exact ⟨z,us,0,r,yAY _ rfl⟩
end
noncomputable abbrev Sp:=List V -> Hp -> VK -> XK -> Prop
noncomputable abbrev CXT:=List Env -> Hp -> Shared -> XK -> Value -> Shared -> Prop
structure Env0 (P : Program) (w : World) (K : PySem.W.Frag) (mg : Str -> Option Value) (base : Heap) (A : Around) (outer : List Env) (s : Shared) (H : Hp) : Prop where
 frames : A.frames = some outer
 mod : Mod K mg base
 bs : ∀ b o,base.get? b = some o -> s.heap.get? b = some o/\H b = none
 bsz : base.objs.size <= s.heap.objs.size
 funs : s.heap.FunFrames base outer
 frf : ∀ b∈frs outer,H b = none
 hok : HOk P w H s.heap
 bare : AllBare s.gens
noncomputable def CE (outer : List Env) (P : Program) (w : World) (H : Hp) (s : Shared) (Q : VK) (u : Value) (s' : Shared) : Prop :=
 ∃ v H',s'.os = s.os/\AllBare s'.gens/\Un (frs outer) [] H H' s.heap s'.heap/\HOk P w H' s'.heap/\RelV v u/\Q v H'
noncomputable def CR (CX : CXT) (outer : List Env) (P : Program) (w : World) (H : Hp) (s : Shared) (Q : VK) (E : XK) (r : Result) (s' : Shared) : Prop :=
 match r with
 | .ok (.ret u)=>CE outer P w H s Q u s'
 | .ok _=>False
 | .error e=>CX outer H s E e s'
structure FnOk (P : Program) (w : World) (K : PySem.W.Frag) (mg : Str -> Option Value) (base : Heap) (CX : CXT) (k : Nat) (f : Addr) (fd : FuncData) (ps : List Str) (sp : Sp) : Prop where
 len : ∀ vs H Q E,sp vs H Q E -> vs.length = ps.length
 run : ∀ (A : Around) (outer : List Env) (s : Shared) (H : Hp) (args : Args) (us : List Value) (vs : List V) (Q : VK) (E : XK),Room k A -> Env0 P w K mg base A outer s H -> BindsTo s fd args (ps.zip us) -> Vals vs us -> sp vs H Q E ->
  codeAny (model P w) A (.call (.ref f) args) (CR CX outer P w H s Q E) s
theorem Env0.make {P : Program} {w : World} {K : PySem.W.Frag} {mg : Str -> Option Value} {base : Heap} {A : Around} {outer : List Env} {s : Shared} {H : Hp} (e : Env0 P w K mg base A outer s H) (C : Addr) (us : List Value) (kw : List (Str × Value)) :
  Env0 P w K mg base (A.under (.builtin "type.__call__" ⟨.ref C::us,kw⟩)) outer s H:=⟨by first | exact e.frames | (simpa [Around.under,Code.envs,Code.isFrame,pushEnvs] using e.frames),e.mod,e.bs,e.bsz,e.funs,e.frf,e.hok,e.bare⟩
theorem Env0.in1 {P : Program} {w : World} {K : PySem.W.Frag} {mg : Str -> Option Value} {base : Heap} {A : Around} {outer : List Env} {s : Shared} {H : Hp} (e : Env0 P w K mg base A outer s H) :
  Env0 P w K mg base A.in1 outer s H:=⟨e.frames,e.mod,e.bs,e.bsz,e.funs,e.frf,e.hok,e.bare⟩
section
variable {X : Cx} {pins : List (Addr × Obj)} {σ : St} {H : Hp} {s s' : Shared}
theorem Inv.env0 (I : Inv X pins σ H s) : Env0 X.prog X.w X.K X.mg X.base X.A X.stack s H :=
 ⟨I.ok.frames,I.ok.mod,I.bs,yAz I.ok.bsz I.sz,I.stack,I.stkFree,I.hok,I.bare⟩
theorem Inv.after {Q : VK} {u : Value} (I : Inv X pins σ H s) (h : CE X.stack X.prog X.w H s Q u s') : EP X pins σ Q u s':=by
 obtain ⟨v,H',os,bare,un,hok,r,q⟩:=h;obtain ⟨hh,g,d,t,os'⟩:=s';obtain rfl : os' = s.os:=os;exact ⟨v,H',I.call (h':=hh) (g':=g) (d':=d) (t':=t) (ch:=[]) un hok bare (λb z=>absurd z (by simp)),r,q⟩
end
noncomputable def zVL (sp : Sp) (dvs : List V) (E : XK) (t : TA) : TE:=λσ H Q=>t σ H λvs H1=>sp (vs++dvs) H1 Q E
noncomputable def zX8 (C : Addr) (m : Str) (sp : Sp) (dvs : List V) (E : XK) (ta : TE) (t : TA) : TE:=λσ H Q=>ta σ H λx H1=>∃ a dx fs,x = .ref a/\H1 a = some (.ins C dx fs)/\fs.lookup m = none /\
 t σ H1 λvs H2=>sp (x::(vs++dvs)) H2 Q E
noncomputable def zZF (C : Addr) (sp : Sp) (dvs : List V) (E : XK) (t : TA) : TE:=λσ H Q=>t σ H λvs H1=>∀ x dx,H1 x = none -> H1 dx = none -> dx≠x ->
 sp (.ref x::(vs++dvs)) (upd (upd H1 dx (.own x)) x (.ins C dx [])) (λv H2=>v = .non/\Q (.ref x) H2) E
noncomputable def Binds (K : PySem.W.Frag) (fd : FuncData) (ps : List Str) (ds : List Value) : Prop :=
 ∀ (s : Shared) (us : List Value),K.In s.heap -> (us++ds).length = ps.length -> BindsTo s fd ⟨us,[]⟩ (ps.zip (us++ds))
theorem Binds.all {K : PySem.W.Frag} {fd : FuncData} {ps : List Str} (h : ∀ us : List Value,us.length = ps.length -> bindArgs fd ⟨us,[]⟩ = pure (ps.zip us)) : Binds K fd ps []:=λs us _ hl=>by
 rw [yBq] at hl ⊢;exact .of_eq (h us hl)
noncomputable def zDD (CX : CXT) (X : Cx) (E : XK) : Prop:=∀ (pins : List (Addr × Obj)) (σ : St) (H : Hp) (s : Shared) (e : Value) (s' : Shared),Inv X pins σ H s -> CX X.stack H s E e s' -> X.xe e s'
section
variable {X : Cx} {CX : CXT} {k : Nat} {f C : Addr} {fd : FuncData} {ps : List Str} {sp : Sp} {dvs : List V} {ds : List Value} {E : XK} {x m : Str} {p pos apos : Pos} {e o : Expr} {es : List Expr} {ta : TE} {t : TA}
theorem zKX {pins : List (Addr × Obj)} {σ : St} {H : Hp} {s : Shared} {Q : VK} {us : List Value} {vs : List V} (F : FnOk X.prog X.w X.K X.mg X.base CX k f fd ps sp) (hr : Room k X.A) (hb : Binds X.K fd ps ds) (hd : Vals dvs ds) (hx : zDD CX X E)
  (I : Inv X pins σ H s) (r : Vals vs us) (h : sp (vs++dvs) H Q E) : wpAny (model X.prog X.w) X.A (call (.ref f) us) (EP X pins σ Q) X.xe s:=by
 have r2 : Vals (vs++dvs) (us++ds):=r.append hd;have hl : (us++ds).length = ps.length:=by rw [<- r2.length]; exact F.len _ _ _ _ h
 refine yDf (yCZ (F.run X.A X.stack s H ⟨us,[]⟩ (us++ds) (vs++dvs) Q E hr I.env0 (hb s us I.kIn hl) r2 h) λr s' hq => ?_)
 cases r with
 | error e=>exact hx pins σ H s e s' I hq
 | ok fl =>
  cases fl with
  | ret u=>exact I.after hq
  | next=>exact False.elim hq
  | brk=>exact False.elim hq
  | cont=>exact False.elim hq
theorem zAA (F : FnOk X.prog X.w X.K X.mg X.base CX k f fd ps sp) (hr : Room k X.A) (hg : Gl X x) (hm : X.mg x = some (.ref f)) (hk : PySem.W.keepIn X.K (.ref f) = true) (hb : Binds X.K fd ps ds) (hd : Vals dvs ds) (hx : zDD CX X E)
  (ha : PA X (e::es) t) (hdb : (x == ("__debug__" : Str)) = false:=by decide) (he : starEach (e::es) X.env = (false,eval e X.env)::starEach es X.env:=by rfl) (hpl : (backTo pos (starEach es X.env)).any (·.1) = false:=by rfl) :
  PE X (.Call (.Name x p) (e::es) [] pos) (zVL sp dvs E t):=by
 intro pins s σ H Q I h;refine yBy (zDP I hg hm ?_ hdb);refine yDI (h₀ := X.base) I.ok.mod.kin hk (thn (ha pos pins s σ H _ I h) λus s1 hM => ?_) he hpl;obtain ⟨vs,H1,I1,r,q⟩:=hM;refine ⟨I1.kIn,?_⟩;exact zKX F hr hb hd hx I1 r q
theorem zCQ {pl : Sem Bool} (he : PE X o ta) (c : Cls X.K C) (hm : Meth X.K C m f) (F : FnOk X.prog X.w X.K X.mg X.base CX k f fd ps sp) (hr : Room k X.A) (hb : Binds X.K fd ps ds) (hd : Vals dvs ds) (hx : zDD CX X E) (ha : PA X (e::es) t)
  (hst : starEach (e::es) X.env = (false,eval e X.env)::starEach es X.env:=by rfl) (hpl : (backTo pos (starEach es X.env)).any (·.1) = false:=by rfl)
  (ht : eval (.Call (.Attribute o m apos) (e::es) [] pos) X.env = (do
   let ov <- eval o X.env
   standAt apos.atName
   let (f,first) <- holding [ov] (getMethod ov m pl)
   callWith pos f first (backTo pos (starEach (e::es) X.env)) (backToKw pos (keywordEach [] X.env))):=by rfl) :
  PE X (.Call (.Attribute o m apos) (e::es) [] pos) (zX8 C m sp dvs E ta t):=by
 intro pins s σ H Q I h;refine yDU (pl:=pl) (thn (he pins s σ H _ I h) λu s1 hM => ?_) ht;obtain ⟨x,H1,I1,rx,a,dx,fs,ex,ea,l,q⟩:=hM;subst ex;obtain rfl : u = Value.ref a:=rx;refine zGF I1 ea c hm l ?_;refine yDI (first:=[.ref a]) (h₀ := X.base) I.ok.mod.kin hm.kp (thn (ha pos pins s1 σ H1 _ I1 q) λus s2 hM => ?_) hst hpl;obtain ⟨vs,H2,I2,r,q2⟩:=hM;refine ⟨I2.kIn,?_⟩;exact zKX (us := .ref a::us) (vs := .ref a::vs) F hr hb hd hx I2 (.cons rfl r) q2
theorem zDS {pl : Sem Bool} (he : PE X o ta) (c : Cls X.K C) (hm : Meth X.K C m f) (F : FnOk X.prog X.w X.K X.mg X.base CX k f fd ps sp) (hr : Room k X.A) (hb : Binds X.K fd ps ds) (hd : Vals dvs ds) (hx : zDD CX X E)
  (ht : eval (.Call (.Attribute o m apos) [] [] pos) X.env = (do
   let ov <- eval o X.env
   standAt apos.atName
   let (f,first) <- holding [ov] (getMethod ov m pl)
   callWith pos f first (backTo pos (starEach [] X.env)) (backToKw pos (keywordEach [] X.env))):=by rfl) :
  PE X (.Call (.Attribute o m apos) [] [] pos) (zX8 C m sp dvs E ta zV5):=by
 intro pins s σ H Q I h;refine yDU (pl:=pl) (thn (he pins s σ H _ I h) λu s1 hM => ?_) ht;obtain ⟨x,H1,I1,rx,a,dx,fs,ex,ea,l,q⟩:=hM;subst ex;obtain rfl : u = Value.ref a:=rx;refine zGF I1 ea c hm l ?_;exact PySem.W.callWith_K0 (first:=[.ref a]) I1.kIn hm.kp (zKX (us:=[.ref a]) (vs:=[.ref a]) F hr hb hd hx I1 (.cons rfl .nil) q)
structure Mk (K : PySem.W.Frag) (C f : Addr) : Prop where
 makes : PySem.W.makesIn K C = true
 init : PySem.W.findIn K (.ref C) "__init__" = some (some (.ref f))
 fn : PySem.W.isFn K (.ref f) = true
 kp : PySem.W.keepIn K (.ref C) = true
theorem zRD {pins : List (Addr × Obj)} {σ : St} {H : Hp} {s : Shared} {Q : VK} {us : List Value} {vs : List V} (M : Mk X.K C f) (F : FnOk X.prog X.w X.K X.mg X.base CX k f fd ps sp) (hr : Room (k + 1) X.A) (hb : Binds X.K fd ps ds) (hd : Vals dvs ds)
  (hx : zDD CX X E) (I : Inv X pins σ H s) (r : Vals vs us)
  (h : ∀ x dx,H x = none -> H dx = none -> dx≠x -> sp (.ref x::(vs++dvs)) (upd (upd H dx (.own x)) x (.ins C dx [])) (λv H2=>v = .non/\Q (.ref x) H2) E) :
  wpAny (model X.prog X.w) X.A (call (.ref C) us) (EP X pins σ Q) X.xe s:=by
 have hq:=h (s.heap.objs.size + 1) s.heap.objs.size (I.hok.fresh (yDi _)) (I.hok.fresh (yAG _)) (yAh (yCy _));have I2:=Inv.made (C:=C) I;have r2 : Vals (V.ref (s.heap.objs.size + 1)::(vs++dvs)) (Value.ref (s.heap.objs.size + 1)::(us++ds)) := .cons rfl (r.append hd)
 have hl : (Value.ref (s.heap.objs.size + 1)::us++ds).length = ps.length:=by
  have e:=r2.length;rw [F.len _ _ _ _ hq] at e;exact e.symm
 refine yDf (zSC (f:=f) I.kIn M.makes M.init (yAe.mp M.fn) (yCZ (F.run _ X.stack _ _ ⟨Value.ref (s.heap.objs.size + 1)::us,[]⟩ (Value.ref (s.heap.objs.size + 1)::(us++ds)) _ _ E (hr.make C us [])
  (I2.env0.make C us []) (hb _ (Value.ref (s.heap.objs.size + 1)::us) I2.kIn hl) r2 hq) λr s' hq' => ?_))
 cases r with
 | error e=>exact hx pins σ _ _ e s' I2 hq'
 | ok fl =>
  cases fl with
  | ret u =>
   obtain ⟨v,H',I3,rv,ev,q3⟩:=I2.after hq';subst ev;exact ⟨rv,⟨V.ref (s.heap.objs.size + 1),H',I3,rfl,q3⟩⟩
  | next=>exact False.elim hq'
  | brk=>exact False.elim hq'
  | cont=>exact False.elim hq'
theorem zHG (M : Mk X.K C f) (F : FnOk X.prog X.w X.K X.mg X.base CX k f fd ps sp) (hr : Room (k + 1) X.A) (hg : Gl X x) (hm : X.mg x = some (.ref C)) (hb : Binds X.K fd ps ds) (hd : Vals dvs ds) (hx : zDD CX X E)
  (ha : PA X (e::es) t) (hdb : (x == ("__debug__" : Str)) = false:=by decide) (he : starEach (e::es) X.env = (false,eval e X.env)::starEach es X.env:=by rfl) (hpl : (backTo pos (starEach es X.env)).any (·.1) = false:=by rfl) :
  PE X (.Call (.Name x p) (e::es) [] pos) (zZF C sp dvs E t):=by
 intro pins s σ H Q I h;refine yBy (zDP I hg hm ?_ hdb);refine yDI (h₀ := X.base) I.ok.mod.kin M.kp (thn (ha pos pins s σ H _ I h) λus s1 hM => ?_) he hpl;obtain ⟨vs,H1,I1,r,q⟩:=hM;refine ⟨I1.kIn,?_⟩;exact zRD M F hr hb hd hx I1 r q
end
section
variable {X : Cx} {CX : CXT} {k : Nat} {f C : Addr} {fd : FuncData} {ps ks : List Str} {sp : Sp} {E : XK} {x m : Str} {p pos apos kpos : Pos} {e o : Expr} {es : List Expr} {kws : List Keyword} {te ta : TE} {t tk : TA} {nm : Option Str}
structure KBinds (K : PySem.W.Frag) (fd : FuncData) (ps ks : List Str) (g : List Value -> List Value -> List Value) (gV : List V -> List V -> List V) : Prop where
 to : ∀ (s : Shared) (us ws : List Value),K.In s.heap -> (g us ws).length = ps.length -> BindsTo s fd ⟨us,ks.zip ws⟩ (ps.zip (g us ws))
 rel : ∀ {vs : List V} {us : List Value} {zs : List V} {ws : List Value},Vals vs us -> Vals zs ws -> Vals (gV vs zs) (g us ws)
variable {g : List Value -> List Value -> List Value} {gV : List V -> List V -> List V}
end
structure FnScope (N P : List Str) (sc : Scope) : Prop where
 kind : sc.kind = .function
 co : sc.isCoroutine = false
 gen : sc.isGenerator = false
 nd : N.Nodup
 pre : N.take P.length = P
 par : ∀ x∈P,sc.names.lookup x = some .local \/ sc.names.lookup x = some .cell
 nofree : ∀ y∈sc.names,y.2 ≠ .free
theorem zIP {kindOf : Str -> Option NameKind} {x : Str} : ∀ {binds : List (Str × Value)} {m : Str -> Option Value},(∀ v,(x,v)∉binds) -> bindL kindOf binds m x = m x
 | [],_,_=>rfl
 | (n,v)::r,m,h=>by
  unfold bindL;rw [zIP λw hw=>h w (yAP _ hw)]
  split
  ·have : x≠n:=by rintro rfl; exact h v yAQ
   simp [this]
  ·rfl
theorem zHM {kindOf : Str -> Option NameKind} {x : Str} : ∀ {binds : List (Str × Value)} {m : Str -> Option Value},(∀ v,(x,v)∉binds) -> bindC kindOf binds m x = m x
 | [],_,_=>rfl
 | (n,v)::r,m,h=>by
  unfold bindC;rw [zHM λw hw=>h w (yAP _ hw)]
  split
  ·rfl
  ·have : x≠n:=by rintro rfl; exact h v yAQ
   simp [this]
theorem zHU {kindOf : Str -> Option NameKind} {x : Str} {v : Value} : ∀ {P : List Str} {vs : List Value} {i : Nat} {m : Str -> Option Value},P.Nodup -> P[i]? = some x -> vs[i]? = some v -> kindOf x = some .local ->
  bindL kindOf (P.zip vs) m x = some v
 | [],_,_,_,_,h,_,_=>by simp at h
 | _::_,[],_,_,_,_,h,_=>by simp at h
 | p::P,w::vs,0,m,nd,h1,h2,hk=>by
  simp at h1 h2; subst h1; subst h2
  show bindL kindOf ((p,w)::P.zip vs) m p = _;unfold bindL;rw [zIP λv hv=>(yDj.mp nd).1 (List.of_mem_zip hv).1,yAK hk]
  simp
 | p::P,w::vs,i + 1,m,nd,h1,h2,hk=>by
  show bindL kindOf ((p,w)::P.zip vs) m x = _;unfold bindL;exact zHU (i:=i) (yDj.mp nd).2 (by simpa using h1) (by simpa using h2) hk
theorem zIN {kindOf : Str -> Option NameKind} {x : Str} {v : Value} : ∀ {P : List Str} {vs : List Value} {i : Nat} {m : Str -> Option Value},P.Nodup -> P[i]? = some x -> vs[i]? = some v -> kindOf x≠some .local ->
  bindC kindOf (P.zip vs) m x = some v
 | [],_,_,_,_,h,_,_=>by simp at h
 | _::_,[],_,_,_,_,h,_=>by simp at h
 | p::P,w::vs,0,m,nd,h1,h2,hk=>by
  simp at h1 h2; subst h1; subst h2
  show bindC kindOf ((p,w)::P.zip vs) m p = _;unfold bindC;rw [zHM λv hv=>(yDj.mp nd).1 (List.of_mem_zip hv).1,yAN hk]
  simp
 | p::P,w::vs,i + 1,m,nd,h1,h2,hk=>by
  show bindC kindOf ((p,w)::P.zip vs) m x = _;unfold bindC;exact zIN (i:=i) (yDj.mp nd).2 (by simpa using h1) (by simpa using h2) hk
noncomputable def zG3 (N : List Str) (vs : List V) : St:=vs.map some++List.replicate (N.length - vs.length) none
noncomputable def zR8 (CX : CXT) (P : Program) (w : World) (K : PySem.W.Frag) (mg : Str -> Option Value) (base : Heap) (N : List Str) (qual : Str) (scope : Scope) (f : Addr) (cd : Value) (A : Around) (outer : List Env) (s : Shared) (H : Hp) (E : XK) : Cx where
 prog:=P
 w:=w
 K:=K
 mg:=mg
 base:=base
 A:=A.deeper (envOfC qual scope s.heap.objs.size f cd)
 N:=N
 s₀ := s
 H₀ := H
 env:=envOfC qual scope s.heap.objs.size f cd
 outer:=outer
 stack:=envOfC qual scope s.heap.objs.size f cd::outer
 ex:=[]
 calm:=true
 fn:=λ_=>true
 pn:=[]
 xe:=λe s'=>wpAny (model P w) (A.deeper (envOfC qual scope s.heap.objs.size f cd)) (leaving (envOfC qual scope s.heap.objs.size f cd) e) (λ_ s''=>CX outer H s E e s'') (λe' s''=>CX outer H s E e' s'') s'
theorem zKV {sc : Scope} {n : Nat} {x : Str} (h : sc.names.lookup x = some .cell) : ∃ c,(cellsFrom n sc.names []).lookup x = some c:=by
 have q:=PySem.W.cellsFrom_some sc.names n [] (.inl h);exact yCV.mp q
theorem zO6 {CX : CXT} {P : Program} {w : World} {K : PySem.W.Frag} {mg : Str -> Option Value} {base : Heap} {N ps : List Str} {qual : Str} {scope : Scope} {f : Addr} {cd : Value} {A : Around} {outer : List Env} {s s1 : Shared} {H : Hp} {E : XK} {us : List Value} {vs : List V}
  (S : FnScope N ps scope) (hd : A.handled = none) (e0 : Env0 P w K mg base A outer s H) (hl : vs.length = ps.length) (r : Vals vs us)
  (x : InCallC s s.heap.objs.size (bindL (envOfC qual scope s.heap.objs.size f cd).kindOf (ps.zip us) λ_=>none) (cellsFrom (s.heap.objs.size + 1) scope.names []) (bindC (envOfC qual scope s.heap.objs.size f cd).kindOf (ps.zip us) λ_=>none) s1) :
  Inv (zR8 CX P w K mg base N qual scope f cd A outer s H E) [] (zG3 N vs) H s1:=by
 have hpl : ps.length <= N.length:=by have:=congrArg List.length S.pre; rw [yAf] at this; lia
 obtain ⟨h1,tk,rfl,hk⟩:=x.done;have noA : ∀ b : Addr,b∉(zR8 CX P w K mg base N qual scope f cd A outer s H E).ex:=λb z=>absurd (show b∈([] : List Addr) from z) (by simp)
 refine ⟨⟨e0.mod,S.kind,rfl,rfl,yAG _,λy z c h1 h2 => ?_,λy hy => ?_,λy c _ h => ?_,λ_=>hd,Around.frames_deeper e0.frames,.inr ⟨rfl,rfl⟩,λb z=>absurd z (noA b),e0.bs,e0.bsz,λb _ _=>noA b,λb z=>absurd z (noA b),e0.funs,e0.frf⟩,
  rfl,e0.bare,Un.kept hk,⟨_,x.toInCall.ns,λi y v h1 h2 h3 => ?_⟩,λy c h=>⟨_,x.cell y c h⟩,e0.hok.fresh (yAG _),λy c h => ?_,λp hp=>absurd (show p∈([] : List (Addr × Obj)) from hp) (by simp),e0.hok.kept hk,?_⟩
 ·exact name_of_addr x.apart (yBm h1) (yBm h2)
 ·have hy : scope.names.lookup y = some .cell \/ scope.names.lookup y = some .free:=hy
  rcases hy with hy | hy
  ·exact zKV hy
  ·exact absurd rfl (S.nofree _ (yBm hy))
 ·exact yDq (x.above y c (yBm h))
 ·have hi : i < vs.length:=by
   unfold zG3 at h2
   by_cases hi : i < vs.length
   ·exact hi
   ·rw [yBC (by simpa using hi)] at h2
    rw [yDN] at h2
    split at h2 <;> cases h2
  have ha : vs[i]? = some v:=by
   unfold zG3 at h2;rw [yBF (by simpa using hi),yAb] at h2
   cases e : vs[i]? with
   | none=>rw [e] at h2; cases h2
   | some a=>rw [e] at h2; cases h2; rfl
  obtain ⟨u,hu,rv⟩:=r.get ha
  have hp : ps[i]? = some y:=by
   rw [<- S.pre,List.getElem?_take_of_lt (by lia)]; exact h1
  have ndP : ps.Nodup:=by rw [<- S.pre]; exact S.nd.sublist (yCW _ _)
  refine ⟨u,rv,?_⟩
  rcases S.par y (yAn hp) with k | k
  ·exact .inl ⟨k,zHU ndP hp hu k⟩
  ·obtain ⟨c,e⟩:=zKV (n:=s.heap.objs.size + 1) k
   refine .inr ⟨.inl k,c,e,?_⟩;have q:=x.cell y c e;rw [zIN ndP hp hu (by show scope.names.lookup y≠_; rw [k]; decide)] at q;exact q
 ·exact e0.hok.fresh (yDq (x.above y c (yBm h)))
 ·unfold zG3
  show _ = N.length;rw [yAU,yAC,List.length_replicate];lia
theorem zX0 {CX : CXT} {P : Program} {w : World} {K : PySem.W.Frag} {mg : Str -> Option Value} {base : Heap} {k : Nat} {f : Addr} {name qual : Str} {params : Arguments} {body : List Stmt} {scope : Scope} {dV kV doc pm cdv ct oc : Value} {an od : Option Addr}
  {osl : Array (Option Value)} {N ps : List Str} {sp : Sp} (lk : K.lookup f = some ⟨oc,od,.func (PySem.W.fnOf name qual params body scope dV kV doc pm an cdv ct),osl⟩) (hcd : PySem.W.codeIn K cdv qual = true) (S : FnScope N ps scope)
  (len : ∀ vs H Q E,sp vs H Q E -> vs.length = ps.length)
  (hbody : ∀ (A : Around) (outer : List Env) (s : Shared) (H : Hp) (vs : List V) (Q : VK) (E : XK),Room k (A.deeper (envOfC qual scope s.heap.objs.size f cdv)) -> sp vs H Q E ->
   ∃ t,PSs (zR8 CX P w K mg base N qual scope f cdv A outer s H E) body t/\t { nx:=λ_ H'=>Q .non H',rt:=Q } (zG3 N vs) H) :
  FnOk P w K mg base CX (k + 1) f (PySem.W.fnOf name qual params body scope dV kV doc pm an cdv ct) ps sp:=by
 refine ⟨len,λA outer s H args us vs Q E hr e0 hb r hsp => ?_⟩;have hl:=len _ _ _ _ hsp;have KX : K.In s.heap:=e0.mod.kin.keeps λb o e=>(e0.bs b o e).1;have lim : s.heap.NoLimit:=e0.mod.nolimit.keeps λb o e=>(e0.bs b o e).1
 have hkind : ∀ y∈ps.zip us,scope.names.lookup y.1 = some .local \/ (scope.names.lookup y.1 = some .cell/\((cellsFrom (s.heap.objs.size + 1) scope.names []).lookup y.1).isSome = true):=λ⟨n,v⟩ hy=>by
  rcases S.par n (List.of_mem_zip hy).1 with q | q
  ·exact .inl q
  ·exact .inr ⟨q,PySem.W.cellsFrom_some _ _ _ (.inl q)⟩
 refine codeAny_call_function hr.depth (KX _ _ lk) rfl S.co S.gen rfl (PySem.W.codeRec_of KX hcd) (hb _ _ _ _ ?_);refine wpAny_newFunctionEnv_cells S.kind hkind λenv he s1 x => ?_;subst he;refine ⟨lim.keeps x.toInCall.keep,codeAny_func ?_⟩;obtain ⟨t,ht,hq⟩:=hbody A outer s H vs Q E (hr.deeper _) hsp;have I : Inv (zR8 CX P w K mg base N qual scope f cdv A outer s H E) [] (zG3 N vs) H s1:=zO6 S hr.hd e0 hl r x;refine yBO (ht [] s1 (zG3 N vs) H _ I hq) (λfl s' hs => ?_) λe s' hs=>hs
 have fin : ∀ {σ' : St} {H' : Hp} {v : V} {u : Value},Inv (zR8 CX P w K mg base N qual scope f cdv A outer s H E) [] σ' H' s' -> RelV v u -> Q v H' -> CE outer P w H s Q u s' :=
  λ{σ' H' v u} J rv q=>⟨v,H',J.os,J.bare,J.base,J.hok,rv,q⟩
 cases fl with
 | ret u =>
  obtain ⟨v,σ',H',J,rv,q⟩:=hs;exact fin J rv q
 | next =>
  obtain ⟨σ',H',J,q⟩:=hs;exact fin (v:=V.non) (u:=Value.none) J rfl q
 | brk =>
  obtain ⟨_,_,_,q⟩:=hs;exact False.elim q
 | cont =>
  obtain ⟨_,_,_,q⟩:=hs;exact False.elim q
section
variable {X : Cx} {x : Str} {p pos : Pos} {e : Expr} {es : List Expr} {t : TA} {id T : String} {r : List V -> Hp -> VK -> Prop}
noncomputable def tCB (r : List V -> Hp -> VK -> Prop) (t : TA) : TE:=λσ H Q=>t σ H λvs H1=>r vs H1 Q
theorem zAC (hc : zCZ X (.builtin id) r) (hg : Gl X x) (hm : X.mg x = none) (hv : bootBuiltins x = some (.builtin id)) (ha : PA X (e::es) t) (hn : x≠"__name__":=by decide) (hdb : (x == ("__debug__" : Str)) = false:=by decide)
  (he : starEach (e::es) X.env = (false,eval e X.env)::starEach es X.env:=by rfl) (hpl : (backTo pos (starEach es X.env)).any (·.1) = false:=by rfl) : PE X (.Call (.Name x p) (e::es) [] pos) (tCB r t):=by
 intro pins s σ H Q I h;refine yBy (zDW I hg hm hv ?_ hn hdb);refine yDV (thn (ha pos pins s σ H _ I h) λus s1 hM => ?_) he hpl;obtain ⟨vs,H1,I1,r1,q1⟩:=hM;exact hc pins s1 σ H1 vs us Q I1 r1 q1
theorem zB0 (hc : zCZ X (.type T) r) (hg : Gl X x) (hm : X.mg x = none) (hv : bootBuiltins x = some (.type T)) (ha : PA X (e::es) t) (hn : x≠"__name__":=by decide) (hdb : (x == ("__debug__" : Str)) = false:=by decide)
  (he : starEach (e::es) X.env = (false,eval e X.env)::starEach es X.env:=by rfl) (hpl : (backTo pos (starEach es X.env)).any (·.1) = false:=by rfl) : PE X (.Call (.Name x p) (e::es) [] pos) (tCB r t):=by
 intro pins s σ H Q I h;refine yBy (zDW I hg hm hv ?_ hn hdb);refine yCq (thn (ha pos pins s σ H _ I h) λus s1 hM => ?_) he hpl;obtain ⟨vs,H1,I1,r1,q1⟩:=hM;exact hc pins s1 σ H1 vs us Q I1 r1 q1
end
end L2
namespace HT
open PySem PyProof.Rows
noncomputable def lexLt : List Int -> List Int -> Bool
 | [],[]=>false
 | [],_::_=>true
 | _::_,[]=>false
 | x::xs,y::ys=>if x = y then lexLt xs ys else decide (x < y)
theorem lexLt_cons (x y : Int) (xs ys : List Int) : lexLt (x::xs) (y::ys) = if x = y then lexLt xs ys else decide (x < y):=rfl
theorem zGW : lexLt [] [] = false:=rfl
theorem zG5 (y : Int) (ys : List Int) : lexLt [] (y::ys) = true:=rfl
theorem zG2 (x : Int) (xs : List Int) : lexLt (x::xs) [] = false:=rfl
theorem eqAt_int (A : Around) (s : Shared) (a : Int) (t : Tok) (c : Int) (u : Tok) : ∃ e,SeqAt.EqAt A s (.int a t) (.int c u) e/\(e = true ↔ a = c) :=
 ⟨(a == c),yDH a t c u,by simp⟩
theorem rcLt_int (A : Around) (s : Shared) (a : Int) (t : Tok) (c : Int) (u : Tok) (prog : Program) (w : World) (E : Value -> Shared -> Prop) (Q : Value -> Shared -> Prop) (h : Q (.bool (decide (a < c))) s) :
  wpAny (model prog w) A (richCompare .Lt (.int a t) (.int c u)) Q E s :=
 (PyProof.Rows.lt_int h : wpAny (model prog w) A (compareOp .Lt (.int a t) (.int c u)) Q E s)
section
open PySem.SeqAt
open PySem.AutoSeq1 (wpAny_loadPart')
open PySem.MeetsSeq PySem.MeetsSeq2 PySem.MeetsSeq3
theorem zHA (l b : Addr) (items items2 : Array Value) (n n2 : Nat) (dd dd2 : Option Addr) (sl sl2 : Array (Option Value)) (ns ms : List Int) (hi : IntsAre items.toList ns) (hj : IntsAre items2.toList ms) :
  Meets (Builtin.«tuple.__lt__» ⟨[.ref l,.ref b],[]⟩)
   (λ_ R s=>s.heap.get? l = some { cls := .type "tuple",dict:=dd,data := .seq items n,slots:=sl }/\s.heap.get? b = some { cls := .type "tuple",dict:=dd2,data := .seq items2 n2,slots:=sl2 } /\
    R (.ok (.ret (.bool (lexLt ns ms)))) s) :=
 .of_wp λprog w A R s h=>by
  obtain ⟨hp,g,d,tk,os⟩:=s; obtain ⟨hl,hb,h⟩:=h;have f2:=AutoSeq1.sub_tuple_tuple;have z1 : items.size = ns.length:=by rw [<- hi.length]; simp
  have z2 : items2.size = ms.length:=by rw [<- hj.length]; simp
  wp_walk using yBD hl,yBD hb,wpAny_forIn_list _ (λrest b s'=>b.1 = none/\s' = ⟨hp,g,d,tk,os⟩/\∃ (vs ws : List Value) (ns' ms' : List Int),rest = vs.zip ws /\
   IntsAre vs ns'/\IntsAre ws ms'/\ns'.length + items2.size = ms'.length + items.size/\R (.ok (.ret (.bool (lexLt ns' ms')))) ⟨hp,g,d,tk,os⟩) _
  case turn =>
   rintro ⟨y,x⟩ rest b s' ⟨hb',rfl,vs,ws,ns',ms',hz,hvi,hwi,hlen,hR⟩
   cases hvi with
   | nil=>rw [List.zip_nil_left] at hz; cases hz
   | cons a t hvi' =>
    cases hwi with
    | nil=>rw [List.zip_nil_right] at hz; cases hz
    | cons c u hwi' =>
     rw [List.zip_cons_cons] at hz
     injection hz with hyx hrest
     injection hyx with hy hx
     subst hy hx;rw [lexLt_cons] at hR;simp only [yBP] at hlen;obtain ⟨e,he,hiff⟩:=eqAt_int A.in1 ⟨hp,g,d,tk,os⟩ a t c u;refine yAA (he prog w _ _ ?_)
     cases e with
     | true =>
      rw [yAK (hiff.mp rfl)] at hR
      wp_walk
      exact ⟨rfl,rfl,_,_,_,_,hrest,hvi',hwi',by lia,hR⟩
     | false =>
      rw [yAN (λq=>absurd (hiff.mpr q) yAW)] at hR;have hri:=rcLt_int A.in1 ⟨hp,g,d,tk,os⟩ a t c u prog w
      wp_walk using hri
      exact ⟨_,rfl,by simpa using hR⟩
  case fin =>
   rintro ⟨b1,b2⟩ s' ⟨hb',rfl,vs,ws,ns',ms',hz,hvi,hwi,hlen,hR⟩
   simp only at hb';subst hb'
   have hv : lexLt ns' ms' = decide (items.size < items2.size):=by
    cases hvi with
    | nil =>
     cases hwi with
     | nil =>
      simp only [yCs] at hlen;rw [zGW];exact (yAL (by lia)).symm
     | cons c u hw =>
      simp only [yCs,yBP] at hlen;rw [zG5];exact (yAZ (by lia)).symm
    | cons a t hv =>
     cases hwi with
     | nil =>
      simp only [yCs,yBP] at hlen;rw [zG2];exact (yAL (by lia)).symm
     | cons c u hw =>
      rw [List.zip_cons_cons] at hz
      cases hz
   rw [hv] at hR
   wp_walk
   exact ⟨_,rfl,by simpa [Builtin.Tuple.tupleCompareSizes] using hR⟩
  case h =>
   exact ⟨rfl,rfl,items.toList,items2.toList,ns,ms,rfl,hi,hj,by lia,h⟩
end
section
variable {prog : Program} {w : World} {A : Around} {E : Value -> Shared -> Prop} {s : Shared}
theorem lt_tupInts {l b : Addr} {items items2 : Array Value} {ns ms : List Int} {Q : Value -> Shared -> Prop} (hl : IsTup s.heap l items) (hb : IsTup s.heap b items2) (hi : IntsAre items.toList ns) (hj : IntsAre items2.toList ms)
  (hu : A.units < cLine) (h : Q (.bool (lexLt ns ms)) s) : wpAny (model prog w) A (compareOp .Lt (.ref l) (.ref b)) Q E s:=by
 obtain ⟨⟨cls,dd,data,sl⟩,ho,hc,n,hd⟩:=id hl;obtain ⟨⟨cls2,dd2,data2,sl2⟩,ho2,hc2,n2,hd2⟩:=id hb;simp only at hc hd hc2 hd2;subst hc hd hc2 hd2
 exact richCompare_meets_room (op := .Lt) ⟨_,ho,rfl⟩ ⟨_,ho2,rfl⟩ PySem.F.slot_tuple_lt PySem.F.entry_tuple_lt (PySem.F.args_tuple_lt_2 _ _) (zHA l b items items2 n n2 dd dd2 sl sl2 ns ms hi hj)
  ⟨ho,ho2,show Value.bool (lexLt ns ms)≠Value.notImplemented/\Q (.bool (lexLt ns ms)) s from ⟨(λx=>nomatch x),h⟩⟩ hu
noncomputable def sIx (n d : Nat) : Option Int -> Nat
 | none=>d
 | some v=>if v < 0 then (v + (n : Int)).toNat else min v.toNat n
theorem zXZ (n d : Nat) (hd : d <= n) (o : Option Int) : sIx n d o <= n:=by
 cases o with
 | none=>exact hd
 | some v =>
  show (if v < 0 then (v + (n : Int)).toNat else min v.toNat n) <= n
  by_cases hv : v < 0
  ·rw [yAK hv]; lia
  ·rw [yAN hv]; exact Nat.min_le_right _ _
theorem zO2 (v : Int) (n d : Nat) : (if v < 0 then max (v + (n : Int)) 0 else min v (n : Int)) = ((sIx n d (some v) : Nat) : Int):=by
 show (if v < 0 then max (v + (n : Int)) 0 else min v (n : Int)) = (((if v < 0 then (v + (n : Int)).toNat else min v.toNat n) : Nat) : Int)
 by_cases hv : v < 0
 ·simp only [yAK hv]; lia
 ·simp only [yAN hv]; lia
theorem zMO (lo hi : Option Int) (n : Nat) : Builtin.Slice.sliceAdjust lo hi 1 (n : Int) = (((sIx n 0 lo : Nat) : Int),((sIx n n hi : Nat) : Int)):=by
 have h1 : ¬ ((1 : Int) < 0):=by lia
 unfold Builtin.Slice.sliceAdjust;simp only [h1,yCb];refine Prod.ext ?_ ?_
 ·cases lo with
  | none=>rfl
  | some v=>exact zO2 v n 0
 ·cases hi with
  | none=>rfl
  | some v=>exact zO2 v n n
theorem zMA (i j : Nat) : Builtin.Slice.slicePlaces (i : Int) (j : Int) 1 = j - i:=by
 unfold Builtin.Slice.slicePlaces;have h1 : (1 : Int) > 0:=by lia
 simp only [h1,yDu,Int.ediv_one]
 split <;> lia
theorem zE7 {v : Value} {o : Option Int} {Q : Option Int -> Shared -> Prop} (p : IsPart v o) (h : Q o s) : wpAny (model prog w) A (Builtin.Slice.slicePartIndex v) Q E s:=by
 cases p with
 | none=>exact slicePart_none h
 | int i t=>exact slicePart_int h
theorem zCX {sl : Addr} {vl vu : Value} {lo hi : Option Int} {n : Nat} {Q : Int × Int × Nat -> Shared -> Prop} (hs : s.heap.IsSliceOf sl vl vu .none) (pl : IsPart vl lo) (pu : IsPart vu hi)
  (h : Q (((sIx n 0 lo : Nat) : Int),1,sIx n n hi - sIx n 0 lo) s) : wpAny (model prog w) A (Builtin.Slice.sliceApplied (.ref sl) (pure (n : Int))) Q E s:=by
 obtain ⟨os,hos,hcs,hds⟩:=id hs;unfold Builtin.Slice.sliceApplied Builtin.Slice.sliceFields;refine yAA (yAA (yCA hos hds (x:=vl) rfl (yAA (yCA hos hds (x:=vu) rfl (yAA (yCA hos hds (x := .none) rfl (yAH ?_)))))));refine yAA (slicePart_none ?_);show wpAny _ _ (if ((1 : Int) == 0) = true then _ else _) _ _ s;rw [yAN (by decide)];refine yAA (zE7 pl (yAA (zE7 pu (yAA (yAH ?_)))));show wpAny _ _ (match Builtin.Slice.sliceAdjust lo hi 1 (n : Int) with | (lo,hi)=>pure (lo,(1 : Int),Builtin.Slice.slicePlaces lo hi 1)) _ _ s;rw [zMO lo hi n];show wpAny _ _ (pure (((sIx n 0 lo : Nat) : Int),(1 : Int),Builtin.Slice.slicePlaces ((sIx n 0 lo : Nat) : Int) ((sIx n n hi : Nat) : Int) 1)) _ _ s;rw [zMA];exact yAH h
theorem zQW (xs : Array Value) (i k : Nat) : ((List.range k).filterMap λ(m : Nat)=>xs[((i : Int) + (m : Int) * 1).toNat]?).toArray = ((xs.toList.drop i).take k).toArray:=by
 have e : (λ(m : Nat)=>xs[((i : Int) + (m : Int) * 1).toNat]?) = λm=>xs[i + m]? := by
  funext m
  have : ((i : Int) + (m : Int) * 1).toNat = i + m:=by lia
  rw [this]
 rw [e]
 have:=pick_run xs i k
 rw [yDr] at this;have e2 : ((λx=>xs[x]?) ∘ λx=>i + x) = λm=>xs[i + m]? := rfl;rw [e2] at this;rw [this]
theorem getItem_tuple_cut {t sl : Addr} {items : Array Value} {vl vu : Value} {lo hi : Option Int} {Q : Value -> Shared -> Prop} (ht : IsTup s.heap t items) (hs : s.heap.IsSliceOf sl vl vu .none) (pl : IsPart vl lo) (pu : IsPart vu hi)
  (hw : ¬ (sIx items.size 0 lo = 0/\sIx items.size items.size hi = items.size))
  (h : Q (.ref s.heap.objs.size) { s with heap:=s.heap.push { cls := .type "tuple",data := .seq ((items.toList.drop (sIx items.size 0 lo)).take (sIx items.size items.size hi - sIx items.size 0 lo)).toArray } })
  (hsz : items.size <= sizeLine) : wpAny (model prog w) A (getItem (.ref t) (.ref sl)) Q E s:=by
 have htake : sizeOk (.seq ((items.toList.drop (sIx items.size 0 lo)).take (sIx items.size items.size hi - sIx items.size 0 lo)).toArray):=by
  show ((items.toList.drop (sIx items.size 0 lo)).take (sIx items.size items.size hi - sIx items.size 0 lo)).toArray.size <= sizeLine;rw [yAF,yAf,yCg,yAx];lia
 have hj : sIx items.size items.size hi <= items.size:=zXZ _ _ (yAG _) hi;obtain ⟨os,hos,hcs,hds⟩:=id hs;have hTs : s.TypeIs (.ref sl) "slice":=⟨os,hos,hcs⟩;unfold getItem
 try with_reducible refine yBd ?_
 first | refine yAA (yAH ?_) | skip
 refine yAA (wpAny_sequenceKey ht.typeIs (by decide) ?_)
 refine yAA (yCa (name:=Str.ofString "__getitem__") ht.typeIs yBe
  (yDY yBe ht.typeIs entry_tuple_getitem ?_ (args_tuple_getitem _ _)))
 show wpAny _ _ (Builtin.Tuple.tupleItemsOf (.ref t) >>= _) _ _ s;refine yAA (tupleItemsOf_ ht ?_);refine yAA (yDm hTs ?_);rw [yAK (by decide)];refine yAA (zCX hs pl pu ?_)
 have hno : ¬ ((((sIx items.size 0 lo : Nat) : Int) == 0&&(1 : Int) == 1&&(sIx items.size items.size hi - sIx items.size 0 lo) == items.size) = true):=by
  intro q;rw [yAk,yAk] at q;have q1 : ((sIx items.size 0 lo : Nat) : Int) = 0:=eq_of_beq q.1.1;have q2 : sIx items.size items.size hi - sIx items.size 0 lo = items.size:=eq_of_beq q.2;exact hw ⟨by lia,by lia⟩
 show wpAny _ _ (if (((sIx items.size 0 lo : Nat) : Int) == 0&&(1 : Int) == 1&&(sIx items.size items.size hi - sIx items.size 0 lo) == items.size) = true then _ else _) _ _ s;rw [yAN hno,zQW]
 first
  | exact yAA (m:=Builtin.Tuple.tupleExact _) (yBQ (yAH ⟨_,rfl,yAH h⟩) htake)
  | exact yAA (m:=Builtin.Tuple.tupleExact _) (yBQ (yAA (yAH (yAH ⟨_,rfl,yAH h⟩))) htake)
  | exact yAA (yAA (m:=Builtin.Tuple.tupleExact _) (yBQ (yAH (yAH ⟨_,rfl,yAH h⟩)) htake))
  | exact yAA (yAA (m:=Builtin.Tuple.tupleExact _) (yBQ (yAH ⟨_,rfl,yAH h⟩) htake))
end
end HT
namespace L2
open PySem PySem.Spec PyProof.Rows
noncomputable abbrev TO:=St -> Hp -> (Option Int -> Hp -> Prop) -> Prop
noncomputable def PO (X : Cx) (e : Option Expr) (t : TO) : Prop :=
 ∀ (pins : List (Addr × Obj)) (s : Shared) (σ : St) (H : Hp) (Q : Option Int -> Hp -> Prop),Inv X pins σ H s -> t σ H Q ->
  wpAny (model X.prog X.w) X.A (evalPart e X.env) (λu s'=>∃ o H',Inv X pins σ H' s'/\IsPart u o/\Q o H') X.xe s
noncomputable def zW7 : TO:=λ_ H Q=>Q none H
noncomputable def za0 (t : TE) : TO:=λσ H Q=>t σ H λx H1=>∃ i,x = .int i/\Q (some i) H1
theorem zGP {ns : List Int} : ∀ {us : List Value},Vals (ns.map V.int) us -> IntsAre us ns:=by
 induction ns with
 | nil=>intro us r; rw [List.map_nil] at r; cases r; exact .nil
 | cons n ns ih =>
  intro us r;rw [yAp] at r
  cases r with
  | cons r1 r2 =>
   obtain ⟨t,e⟩:=r1;subst e;exact .cons n t (ih r2)
section
variable {X : Cx} {e : Expr} {te : TE} {lo hi : Option Expr} {tl th : TO} {pos p2 : Pos}
theorem zAN : PO X none zW7:=by
 intro pins s σ H Q I h;rw [evalPart_none];exact yAH ⟨none,H,I,.none,h⟩
theorem zAL (h : PE X e te) : PO X (some e) (za0 te):=by
 intro pins s σ H Q I hw;rw [evalPart_some];refine thn (h pins s σ H _ I hw) λu s1 hM => ?_;obtain ⟨x,H1,I1,r1,q1⟩:=hM;obtain ⟨i,rfl,q⟩:=q1;obtain ⟨t,rfl⟩:=r1;exact ⟨some i,H1,I1,.int i t,q⟩
noncomputable def SlR (X : Cx) (r : V -> Option Int -> Option Int -> Hp -> VK -> Prop) : Prop :=
 ∀ (pins : List (Addr × Obj)) (s : Shared) (σ : St) (H : Hp) (x : V) (v vl vu : Value) (lo hi : Option Int) (sl : Addr) (Q : VK),Inv X pins σ H s -> RelV x v -> s.heap.IsSliceOf sl vl vu .none -> IsPart vl lo -> IsPart vu hi -> r x lo hi H Q ->
  ∃ T id,typeLookup (.type T) "__getitem__" = pure (some (.builtin id))/\s.TypeIs v T/\wpAny (model X.prog X.w) X.A (getItem v (.ref sl)) (EP X pins σ Q) X.xe s
noncomputable def tSl (r : V -> Option Int -> Option Int -> Hp -> VK -> Prop) (te : TE) (tl th : TO) : TE:=λσ H Q=>te σ H λx H1=>tl σ H1 λl H2=>th σ H2 λu H3=>r x l u H3 Q
theorem zAJ {r : V -> Option Int -> Option Int -> Hp -> VK -> Prop} (hr : SlR X r) (he : PE X e te) (hl : PO X lo tl) (hu : PO X hi th) : PE X (.Subscript e (.Slice lo hi none p2) pos) (tSl r te tl th):=by
 intro pins s σ H Q I h;refine yEY (thn (he pins s σ H _ I h) λv s1 hM => ?_);obtain ⟨x,H1,I1,r1,q1⟩:=hM;refine wpAny_Slice (thn (hl pins s1 σ H1 _ I1 q1) λvl s2 hM => ?_);obtain ⟨l,H2,I2,pl,q2⟩:=hM;refine thn (hu pins s2 σ H2 _ I2 q2) λvu s3 hM => ?_;obtain ⟨u,H3,I3,pu,q3⟩:=hM;rw [evalPart_none];refine yAH ?_;have I4 : Inv X pins σ H3 { s3 with heap:=s3.heap.push { cls := .type "slice",data := .fields #[vl,vu,.none] } }:=I3.kept (t':=s3.toks) λb ob q=>yAD _ q;obtain ⟨T,id,hT,ht,hg⟩:=hr pins { s3 with heap:=s3.heap.push { cls := .type "slice",data := .fields #[vl,vu,.none] } } σ H3 x v vl vu l u s3.heap.objs.size Q I4 r1 (Heap.IsSliceOf.new ..) pl pu q3;show wpAny (model X.prog X.w) X.A (subscriptTail e (.Slice lo hi none p2) v (.ref s3.heap.objs.size)) (EP X pins σ Q) X.xe { s3 with heap:=s3.heap.push { cls := .type "slice",data := .fields #[vl,vu,.none] } };exact tail_any (ops:=[.ref s3.heap.objs.size,v]) ht hT hg (by with_unfolding_all rfl)
noncomputable def zFZ (xs : List V) (lo hi : Option Int) : List V:=(xs.drop (HT.sIx xs.length 0 lo)).take (HT.sIx xs.length xs.length hi - HT.sIx xs.length 0 lo)
theorem zFS (xs : List V) (lo hi : Option Int) : (zFZ xs lo hi).length <= xs.length:=by
 unfold zFZ;rw [yAf,yCg];lia
noncomputable def zaI (K : PySem.W.Frag) : V -> Option Int -> Option Int -> Hp -> VK -> Prop:=λx lo hi H Q=>∃ a xs,x = .ref a/\SqT K H a xs /\
 ¬ (HT.sIx xs.length 0 lo = 0/\HT.sIx xs.length xs.length hi = xs.length)/\∀ p,H p = none -> Q (.ref p) (upd H p (.tup (zFZ xs lo hi)))
theorem zY8 : SlR X (zaI X.K):=by
 intro pins s σ H x v vl vu lo hi sl Q I rx hs pl pu h;obtain ⟨a,xs,rfl,hx,hw,q⟩:=h
 cases rx
 obtain ⟨its,r,ht,hz⟩:=I.tuple hx;have hlen : its.toArray.size = xs.length:=by rw [yAF]; exact r.length.symm
 refine ⟨"tuple",_,PyProof.Rows.slot_tuple_getitem.lookup,ht.typeIs,?_⟩;refine HT.getItem_tuple_cut ht hs pl pu (by rw [hlen]; exact hw) ?_ (by rw [hlen]; exact hz);rw [hlen];refine ⟨.ref s.heap.objs.size,_,I.laid (t':=s.toks) (o := .tup (zFZ xs lo hi)) (λb ob q=>yAD _ q) (yAG _) ?_,rfl,q _ (I.hok.fresh (yAG _))⟩;exact ⟨yAz (zFS xs lo hi) hz,_,(r.drop (HT.sIx xs.length 0 lo)).take (HT.sIx xs.length xs.length hi - HT.sIx xs.length 0 lo),IsTup.new _ _⟩
end
noncomputable def ixN (n : Nat) (i : Int) : Option Nat:=if 0 <= i then (if i < n then some i.toNat else none) else if -(n : Int) <= i then some (i + n).toNat else none
noncomputable def atI {α : Type} (xs : List α) (i : Int) : Option α := (ixN xs.length i).bind λj=>xs[j]?
theorem zNA {n : Nat} {i : Int} {j : Nat} (h : ixN n i = some j) : seqIndex? i n = some j/\j < n /\ -(n : Int) <= i/\i < n:=by
 unfold ixN at h
 by_cases h0 : 0 <= i
 ·rw [yAK h0] at h
  by_cases h1 : i < n
  ·rw [yAK h1] at h
   have e : i.toNat = j:=Option.some.inj h;exact ⟨by rw [seqIndex_of h0 h1,e],by lia,by lia,h1⟩
  ·rw [yAN h1] at h; cases h
 ·rw [yAN h0] at h
  by_cases h1 : -(n : Int) <= i
  ·rw [yAK h1] at h
   have e : (i + n).toNat = j:=Option.some.inj h;exact ⟨by rw [seqIndex_neg (by lia) h1,e],by lia,h1,by lia⟩
  ·rw [yAN h1] at h; cases h
theorem zJK {α : Type} {xs : List α} {i : Int} {v : α} (h : atI xs i = some v) : ∃ j,seqIndex? i xs.length = some j/\xs[j]? = some v/\j < xs.length /\ -(xs.length : Int) <= i/\i < xs.length:=by
 unfold atI at h
 cases e : ixN xs.length i with
 | none=>rw [e] at h; cases h
 | some j =>
  rw [e] at h;obtain ⟨h1,h2,h3,h4⟩:=zNA e;exact ⟨j,h1,h,h2,h3,h4⟩
theorem zD5 {α : Type} {xs : List α} {j : Nat} {v : α} (h : xs[j]? = some v) : atI xs (j : Int) = some v:=by
 have hj : j < xs.length:=(yAE.mp h).1
 have e : ixN xs.length (j : Int) = some j:=by
  unfold ixN;rw [yAK (by lia),yAK (by lia)]; simp
 unfold atI; rw [e]; exact h
noncomputable def zVR (b : Expr) : Prop:=∀ o i,subscripted b false o i = operate [o,i] (getItem o i)
noncomputable def IxR (X : Cx) (r : R2) : Prop :=
 ∀ (value slice : Expr) (pins : List (Addr × Obj)) (s : Shared) (σ : St) (H : Hp) (x y : V) (v u : Value) (Q : VK),Inv X pins σ H s -> RelV x v -> RelV y u -> r x y H Q ->
  subscripted slice false v u = operate [v,u] (getItem v u) -> wpAny (model X.prog X.w) X.A (subscriptTail value slice v u) (EP X pins σ Q) X.xe s
noncomputable def MtR (X : Cx) (id : String) (r : V -> List V -> Hp -> VK -> Prop) : Prop :=
 ∀ (pins : List (Addr × Obj)) (s : Shared) (σ : St) (H : Hp) (x : V) (xs : List V) (v : Value) (us : List Value) (Q : VK),Inv X pins σ H s -> RelV x v -> Vals xs us -> r x xs H Q ->
  wpAny (model X.prog X.w) X.A (call (.builtin id) (v::us)) (EP X pins σ Q) X.xe s
section
variable {X : Cx} {a b : Expr} {ta tb : TE} {pos : Pos}
theorem zBH {r : R2} (hr : IxR X r) (ha : PE X a ta) (hb : PE X b tb) (hs : zVR b) : PE X (.Subscript a b pos) (tOp r ta tb):=by
 intro pins s σ H Q I h;exact yEY (zYU ha hb I h λv u s2 x y H2 I2 rx ry q=>hr a b pins s2 σ H2 x y v u Q I2 rx ry q (hs _ _))
noncomputable def zaF (K : PySem.W.Frag) : R2:=λx y H Q=>∃ p xs i v,x = .ref p/\y = .int i/\SqL K H p xs/\atI xs i = some v/\Q v H
noncomputable def za6 (K : PySem.W.Frag) : R2:=λx y H Q=>∃ p xs i v,x = .ref p/\y = .int i/\SqT K H p xs/\atI xs i = some v/\Q v H
noncomputable def zaH : R2:=λx y H Q=>∃ z i c,x = .str z/\y = .int i/\z.length <= sizeLine/\atI z.cps.toList i = some c/\Q (.str ⟨#[c]⟩) H
theorem zAR : IxR X (zaF X.K):=by
 intro value slice pins s σ H x y v u Q I rx ry h hs;obtain ⟨p,xs,i,z,rfl,rfl,hq,he,q⟩:=h
 cases rx
 obtain ⟨t,rfl⟩:=ry;obtain ⟨its,r,pl,hz⟩:=I.list hq;obtain ⟨j,h1,h2,h3,h4,h5⟩:=zJK he;obtain ⟨w,ew,rw'⟩:=r.get h2;have hl:=r.length;have hn:=zFB;have fin : EP X pins σ Q w s:=⟨z,H,I,rw',q⟩
 by_cases h0 : 0 <= i
 ·have hj : i.toNat = j:=by
   rw [seqIndex_of h0 h5] at h1;exact Option.some.inj h1
  exact item_listR pl.isList h0 (by lia) (by rw [hj]; simpa using ew) fin hs
 ·have hj : (i + (its.toArray.size : Int)).toNat = j:=by
   rw [seqIndex_neg (by lia) h4] at h1;rw [yAF,<- hl];exact Option.some.inj h1
  exact subscriptTail_builtinR (x:=w) pl.isList.typeIs slot_list_getitem.lookup
   (wpAny_getItem_list_neg (Q:=λr s'=>r = w/\EP X pins σ Q r s') pl.isList (by lia) (by rw [yAF] <;> lia) (by lia) (by rw [hj]; simpa using ew) ⟨rfl,fin⟩) hs
theorem zY1 : IxR X (za6 X.K):=by
 intro value slice pins s σ H x y v u Q I rx ry h hs;obtain ⟨p,xs,i,z,rfl,rfl,hq,he,q⟩:=h
 cases rx
 obtain ⟨t,rfl⟩:=ry;obtain ⟨its,r,pl,hz⟩:=I.tuple hq;obtain ⟨j,h1,h2,h3,h4,h5⟩:=zJK he;obtain ⟨w,ew,rw'⟩:=r.get h2;have hl:=r.length;have hn:=zFB;have fin : EP X pins σ Q w s:=⟨z,H,I,rw',q⟩
 exact subscriptTail_builtinR (x:=w) pl.typeIs slot_tuple_getitem.lookup
  (getItem_tuple (j:=j) (Q:=λr s'=>r = w/\EP X pins σ Q r s') pl (by lia) (by lia) (by rw [yAF,<- hl]; exact h1) (by simpa using ew) ⟨rfl,fin⟩) hs
theorem zT6 : IxR X zaH:=by
 intro value slice pins s σ H x y v u Q I rx ry h hs;obtain ⟨z,i,c,rfl,rfl,hz,he,q⟩:=h;obtain ⟨t,rfl⟩:=rx;obtain ⟨t',rfl⟩:=ry;obtain ⟨j,h1,h2,h3,h4,h5⟩:=zJK he;have hl : z.cps.toList.length = z.length:=by simp [Str.length]
 rw [hl] at h1 h4 h5;have hn:=zFB
 exact tail_any (typeIs_str s z t) slot_str_getitem.lookup (getItem_str (c:=c) (by
  have e1 : decide (i < -(2 ^ 63 : Int)) = false:=yAL (by lia);have e2 : decide (i >= 2 ^ 63) = false:=yAL (by lia);rw [e1,e2,Bool.or_false]) (by rw [h1]; simpa using h2) ⟨.str ⟨#[c]⟩,H,I.tok _,⟨_,rfl⟩,q⟩) hs
theorem zMH (its : List Value) (n j : Nat) (u : Value) : Obj.mapSeq (·.setIfInBounds j u) { cls := .type "list",data := .seq its.toArray n } = { cls := .type "list",data := .seq (its.set j u).toArray n }:=by
 simp [Obj.mapSeq]
theorem Inv.lst {pins : List (Addr × Obj)} {σ : St} {H : Hp} {s : Shared} {p : Addr} {xs : List V} (I : Inv X pins σ H s) (h : H p = some (.lst xs)) :
  ∃ (its : List Value) (n : Nat),Vals xs its/\s.heap.get? p = some { cls := .type "list",data := .seq its.toArray n }/\xs.length <= sizeLine:=by
 obtain ⟨z,its,n,r,e⟩:=I.hok p _ h;exact ⟨its,n,r,e,z⟩
theorem Inv.lstUpd {pins : List (Addr × Obj)} {σ : St} {H : Hp} {s : Shared} {p : Addr} {xs ys : List V} {its its' : List Value} {n n' : Nat} {f : Obj -> Obj} (I : Inv X pins σ H s) (h : H p = some (.lst xs))
  (ho : s.heap.get? p = some { cls := .type "list",data := .seq its.toArray n }) (hf : f { cls := .type "list",data := .seq its.toArray n } = { cls := .type "list",data := .seq its'.toArray n' }) (r : Vals ys its') (hz : ys.length <= sizeLine) (t : Nat) :
  Inv X pins σ (upd H p (.lst ys)) { s with heap:=s.heap.update p f,toks:=t }:=by
 have e : (s.heap.update p f).get? p = some { cls := .type "list",data := .seq its'.toArray n' }:=by
  rw [yCR f ho (by rw [hf] <;> rfl),hf]
 refine I.write (x:=p) (e:=p) (by rw [h]; exact trivial) (.inl rfl) (λb u hb q=>(yBG _ _ (Ne.symm hb)).trans q) ⟨_,e⟩ ?_;exact ⟨hz,its',n',r,e⟩
noncomputable def za5 : V -> V -> V -> Hp -> (Hp -> Prop) -> Prop:=λo i v H Q=>∃ p xs k j,o = .ref p/\i = .int k/\H p = some (.lst xs)/\ixN xs.length k = some j/\Q (upd H p (.lst (xs.set j v)))
theorem zLM : za7 X za5:=by
 intro pins s σ H o i v ov iv u Q I ro ri rv h;obtain ⟨p,xs,k,j,rfl,rfl,hp,hj,q⟩:=h
 cases ro
 obtain ⟨t,rfl⟩:=ri;obtain ⟨its,n,r,ho,hz⟩:=I.lst hp;obtain ⟨h1,h2,h3,h4⟩:=zNA hj;have hl:=r.length;have hn:=zFB
 have I' : Inv X pins σ (upd H p (.lst (xs.set j v))) { s with heap:=s.heap.update p (Obj.mapSeq (·.setIfInBounds j u)) } :=
  I.lstUpd hp ho (zMH its n j u) (r.set rv j) (by rw [List.length_set]; exact hz) s.toks
 by_cases h0 : 0 <= k
 ·have hk : k.toNat = j:=by
   rw [seqIndex_of h0 h4] at h1;exact Option.some.inj h1
  exact PySem.W.ki_setAt ho h0 (by lia) (by rw [yAF,<- hl]; exact h4) (by rw [hk]; exact ⟨_,I',q⟩)
 ·have hk : (k + (its.toArray.size : Int)).toNat = j:=by
   rw [seqIndex_neg (by lia) h3] at h1;rw [yAF,<- hl];exact Option.some.inj h1
  exact PySem.W.ki_setBack ho (by lia) (by rw [yAF,<- hl]; exact h3) (by lia) (by rw [hk]; exact ⟨_,I',q⟩)
theorem zIA (lo hi : Option Int) (n : Nat) : (sliceBounds lo hi none n).1 = ((HT.sIx n 0 lo : Nat) : Int)/\(sliceBounds lo hi none n).2.1 = ((HT.sIx n n hi : Nat) : Int)/\(sliceBounds lo hi none n).2.2 = 1:=by
 refine ⟨?_,?_,rfl⟩
 ·cases lo with
  | none=>simp [sliceBounds,HT.sIx]
  | some i =>
   simp only [sliceBounds,HT.sIx,Option.getD_none,show (1 : Int) > 0 by decide,yDu]
   by_cases h : i < 0
   ·simp only [h,yDu] <;> lia
   ·simp only [h,yCb] <;> lia
 ·cases hi with
  | none=>simp [sliceBounds,HT.sIx]
  | some i =>
   simp only [sliceBounds,HT.sIx,Option.getD_none,show (1 : Int) > 0 by decide,yDu]
   by_cases h : i < 0
   ·simp only [h,yDu] <;> lia
   ·simp only [h,yCb] <;> lia
theorem zH3 (its : List Value) (lo hi : Option Int) : slicePick its.toArray lo hi none = ((its.drop (HT.sIx its.length 0 lo)).take (HT.sIx its.length its.length hi - HT.sIx its.length 0 lo)).toArray:=by
 obtain ⟨h1,h2,h3⟩:=zIA lo hi its.toArray.size;unfold slicePick;rw [h1,h2,h3];simp only [sliceRange_one,pick_run,yAF] <;> rfl
noncomputable def zaC (K : PySem.W.Frag) : V -> Option Int -> Option Int -> Hp -> VK -> Prop:=λx lo hi H Q=>∃ a xs,x = .ref a/\SqL K H a xs/\∀ p,H p = none -> Q (.ref p) (upd H p (.lst (zFZ xs lo hi)))
theorem zAT : SlR X (zaC X.K):=by
 intro pins s σ H x v vl vu lo hi sl Q I rx hs pl pu h;obtain ⟨a,xs,rfl,hx,q⟩:=h
 cases rx
 obtain ⟨its,r,ht,hz⟩:=I.list hx;have hlen:=r.length;refine ⟨"list",_,slot_list_getitem.lookup,ht.isList.typeIs,?_⟩;refine yDy ht.isList hs pl pu .none (by simp) ?_ (by rw [yAF] <;> lia);rw [zH3,<- hlen];refine ⟨.ref s.heap.objs.size,_,I.laid (t':=s.toks) (o := .lst (zFZ xs lo hi)) (λb ob q=>yAD _ q) (yAG _) ?_,rfl,q _ (I.hok.fresh (yAG _))⟩;exact ⟨yAz (zFS xs lo hi) hz,_,0,(r.drop (HT.sIx xs.length 0 lo)).take (HT.sIx xs.length xs.length hi - HT.sIx xs.length 0 lo),yAY _ rfl⟩
noncomputable def zFO : V -> Bool
 | .non=>true
 | .bl _=>true
 | .int _=>true
 | .str _=>true
 | _=>false
noncomputable def eqV : V -> V -> Bool
 | .non,.non=>true
 | .bl a,.bl b=>a == b
 | .bl a,.int b=>(if a then 1 else 0) == b
 | .int a,.bl b=>a == (if b then 1 else 0)
 | .int a,.int b=>a == b
 | .str a,.str b=>a == b
 | _,_=>false
theorem zWJ {A : Around} {s : Shared} {y x : V} {u v : Value} (ry : RelV y u) (rx : RelV x v) (fy : zFO y = true) (fx : zFO x = true) : SeqAt.EqAt A s u v (eqV y x):=by
 cases y with
 | non =>
  cases ry
  cases x with
  | non=>cases rx; exact SeqAt.EqAt.same _
  | bl b=>cases rx; exact SeqAt.EqAt.none_bool b
  | int b=>obtain ⟨t,rfl⟩:=rx; exact SeqAt.EqAt.none_int b t
  | str b=>obtain ⟨t,rfl⟩:=rx; exact SeqAt.EqAt.none_str b t
  | _=>exact absurd (show false = true from fx) yAW
 | bl a =>
  cases ry
  cases x with
  | non=>cases rx; exact SeqAt.EqAt.bool_none a
  | bl b=>cases rx; exact SeqAt.EqAt.bool_bool a b
  | int b=>obtain ⟨t,rfl⟩:=rx; exact SeqAt.EqAt.bool_int a b t
  | str b=>obtain ⟨t,rfl⟩:=rx; exact SeqAt.EqAt.bool_str a b t
  | _=>exact absurd (show false = true from fx) yAW
 | int a =>
  obtain ⟨t',rfl⟩:=ry
  cases x with
  | non=>cases rx; exact SeqAt.EqAt.int_none a t'
  | bl b=>cases rx; exact SeqAt.EqAt.int_bool a t' b
  | int b=>obtain ⟨t,rfl⟩:=rx; exact yDH a t' b t
  | str b=>obtain ⟨t,rfl⟩:=rx; exact SeqAt.EqAt.int_str a t' b t
  | _=>exact absurd (show false = true from fx) yAW
 | str a =>
  obtain ⟨t',rfl⟩:=ry
  cases x with
  | non=>cases rx; exact SeqAt.EqAt.str_none a t'
  | bl b=>cases rx; exact SeqAt.EqAt.str_bool a t' b
  | int b=>obtain ⟨t,rfl⟩:=rx; exact SeqAt.EqAt.str_int a t' b t
  | str b=>obtain ⟨t,rfl⟩:=rx; exact SeqAt.EqAt.str_str a t' b t
  | _=>exact absurd (show false = true from fx) yAW
 | _=>exact absurd (show false = true from fy) yAW
noncomputable def eqU (x : V) (u : Value) : Bool:=match u with
 | .none=>eqV .non x
 | .bool b=>eqV (.bl b) x
 | .int i _=>eqV (.int i) x
 | .str z _=>eqV (.str z) x
 | _=>false
theorem zTK {x y : V} {u : Value} (r : RelV y u) (f : zFO y = true) : eqU x u = eqV y x:=by
 cases y with
 | non=>cases r; rfl
 | bl b=>cases r; rfl
 | int i=>obtain ⟨t,rfl⟩:=r; rfl
 | str z=>obtain ⟨t,rfl⟩:=r; rfl
 | _=>exact absurd (show false = true from f) yAW
theorem zF7 {x : V} : ∀ {xs : List V} {us : List Value},Vals xs us -> xs.all zFO = true -> us.any (eqU x) = xs.any λy=>eqV y x
 | _,_,.nil,_=>rfl
 | y::xs,u::us,.cons r t,f=>by
  rw [List.all_cons,yAk] at f;rw [yEI,yEI,zTK r f.1,zF7 t f.2]
theorem zE1 {A : Around} {s : Shared} {x : V} {v : Value} (rx : RelV x v) (fx : zFO x = true) : ∀ {xs : List V} {us : List Value},Vals xs us -> xs.all zFO = true -> ∀ u∈us,SeqAt.EqAt A s u v (eqU x u)
 | _,_,.nil,_=>λu hu=>by cases hu
 | y::xs,u::us,.cons r t,f=>λu' hu=>by
  rw [List.all_cons,yAk] at f
  rcases yAd.mp hu with rfl | hu
  ·rw [zTK r f.1]; exact zWJ r rx f.1 fx
  ·exact zE1 rx fx t f.2 u' hu
noncomputable def inV (x : V) (xs : List V) : Bool:=xs.any λy=>eqV y x
noncomputable def rIn (K : PySem.W.Frag) (neg : Bool) : R2:=λx y H Q=>∃ p xs,y = .ref p/\(SqL K H p xs \/ SqT K H p xs)/\zFO x = true/\xs.all zFO = true/\Q (.bl (if neg then !inV x xs else inV x xs)) H
theorem zQ7 : OpR X (compareOp .In) (rIn X.K false):=by
 intro pins s σ H x y v u Q I rx ry h;obtain ⟨p,xs,rfl,hq,fx,fs,q⟩:=h
 cases ry
 rcases hq with hq | hq
 ·obtain ⟨its,r,pl,hz⟩:=I.list hq
  refine SeqAt.in_listAt (eqU x) pl.isList (λw hw=>zE1 rx fx r fs w (by simpa using hw)) ⟨.bl _,H,I,rfl,?_⟩;rw [show its.toArray.any (eqU x) = its.any (eqU x) by simp,zF7 r fs];exact q
 ·obtain ⟨its,r,pl,hz⟩:=I.tuple hq
  refine SeqAt.in_tupleAt (eqU x) pl (λw hw=>zE1 rx fx r fs w (by simpa using hw)) ⟨.bl _,H,I,rfl,?_⟩;rw [show its.toArray.any (eqU x) = its.any (eqU x) by simp,zF7 r fs];exact q
theorem zEO : OpR X (compareOp .NotIn) (rIn X.K true):=by
 intro pins s σ H x y v u Q I rx ry h;obtain ⟨p,xs,rfl,hq,fx,fs,q⟩:=h
 cases ry
 rcases hq with hq | hq
 ·obtain ⟨its,r,pl,hz⟩:=I.list hq
  refine SeqAt.notIn_listAt (eqU x) pl.isList (λw hw=>zE1 rx fx r fs w (by simpa using hw)) ⟨.bl _,H,I,rfl,?_⟩;rw [show its.toArray.any (eqU x) = its.any (eqU x) by simp,zF7 r fs];exact q
 ·obtain ⟨its,r,pl,hz⟩:=I.tuple hq
  refine SeqAt.notIn_tupleAt (eqU x) pl (λw hw=>zE1 rx fx r fs w (by simpa using hw)) ⟨.bl _,H,I,rfl,?_⟩;rw [show its.toArray.any (eqU x) = its.any (eqU x) by simp,zF7 r fs];exact q
theorem zAH : zCZ X (.builtin "len") (λxs H Q=>∃ p ys,xs = [.ref p]/\(SqL X.K H p ys \/ SqT X.K H p ys)/\Q (.int ys.length) H):=by
 intro pins s σ H xs us Q I r h;obtain ⟨p,ys,rfl,hq,q⟩:=h;obtain ⟨u,rfl,rx⟩:=zDJ r
 cases rx
 have hn:=zFB
 rcases hq with hq | hq
 ·obtain ⟨its,r',pl,hz⟩:=I.list hq
  have hlen:=r'.length;exact Calls.call_len_list pl.isList (by simp only [yAF] <;> lia) ⟨.int ys.length,H,I.tok _,⟨s.toks + 1,by rw [yAF,hlen]⟩,q⟩
 ·obtain ⟨its,r',pl,hz⟩:=I.tuple hq
  have hlen:=r'.length;exact len_tuple pl (by simp only [yAF] <;> lia) ⟨.int ys.length,H,I.tok _,⟨s.toks + 1,by rw [yAF,hlen]⟩,q⟩
theorem zIO : zCZ X (.builtin "len") (λxs H Q=>∃ z,xs = [.str z]/\z.length <= sizeLine/\Q (.int z.length) H):=by
 intro pins s σ H xs us Q I r h;obtain ⟨z,rfl,hz,q⟩:=h;obtain ⟨u,rfl,t,rfl⟩:=zDJ r;have hn:=zFB;exact len_str (by lia) ⟨.int z.length,H,I.tok _,⟨_,rfl⟩,q⟩
theorem zCE : zCZ X (.type "list") (λxs H Q=>∃ p ys,xs = [.ref p]/\(SqL X.K H p ys \/ SqT X.K H p ys)/\∀ l,H l = none -> Q (.ref l) (upd H l (.lst ys))):=by
 intro pins s σ H xs us Q I r h;obtain ⟨p,ys,rfl,hq,q⟩:=h;obtain ⟨u,rfl,rx⟩:=zDJ r
 cases rx
 have fin : ∀ (its : List Value),Vals ys its -> ys.length <= sizeLine -> ∀ (h' : Heap) (c' : Nat),(∀ b o',s.heap.get? b = some o' -> h'.get? b = some o') ->
   h'.get? s.heap.objs.size = some { cls := .type "list",dict:=none,data := .seq its.toArray c',slots := #[] } -> EP X pins σ Q (.ref s.heap.objs.size) { s with heap:=h' }:=λits r' hz h' c' kp e =>
  ⟨.ref s.heap.objs.size,_,I.laid (t':=s.toks) kp (yAG _) (show ObjOk X.prog X.w _ h' _ (.lst ys) from ⟨hz,its,c',r',e⟩),rfl,q _ (I.hok.fresh (yAG _))⟩
 rcases hq with hq | hq
 ·obtain ⟨its,r',pl,hz⟩:=I.list hq
  have hlen:=r'.length;obtain ⟨o,ho,hc,n,hd⟩:=pl.isList;exact call_list_seq p (.inl rfl) ho hc hd (λh' c' kp e=>fin its r' hz h' c' kp e) (by simp only [yAF] <;> lia)
 ·obtain ⟨its,r',pl,hz⟩:=I.tuple hq
  have hlen:=r'.length;obtain ⟨o,ho,hc,n,hd⟩:=pl;exact call_list_seq p (.inr rfl) ho hc hd (λh' c' kp e=>fin its r' hz h' c' kp e) (by simp only [yAF] <;> lia)
theorem zB9 : zCZ X (.type "tuple") (λxs H Q=>∃ p ys,xs = [.ref p]/\((SqL X.K H p ys/\∀ l,H l = none -> Q (.ref l) (upd H l (.tup ys))) \/ (SqT X.K H p ys/\Q (.ref p) H))):=by
 intro pins s σ H xs us Q I r h;obtain ⟨p,ys,rfl,h⟩:=h;obtain ⟨u,rfl,rx⟩:=zDJ r
 cases rx
 rcases h with ⟨hq,q⟩ | ⟨hq,q⟩
 ·obtain ⟨its,r',pl,hz⟩:=I.list hq
  have hlen:=r'.length;refine call_tuple_list pl.isList (λh' kp => ?_) (by simp only [yAF] <;> lia);have I1 : Inv X pins σ H { s with heap:=h' }:=I.kept (t':=s.toks) kp
  have I2 : Inv X pins σ (upd H h'.objs.size (.tup ys)) { s with heap:=h'.push { cls := .type "tuple",data := .seq its.toArray } } :=
   I1.laid (t':=s.toks) (λb o e=>yAD _ e) (yAG _) (show ObjOk X.prog X.w _ _ _ (.tup ys) from ⟨hz,its,r',IsTup.new _ _⟩)
  exact ⟨.ref h'.objs.size,_,I2,rfl,q _ (I1.hok.fresh (yAG _))⟩
 ·obtain ⟨its,r',pl,hz⟩:=I.tuple hq
  exact call_tuple_same pl ⟨.ref p,H,I,rfl,q⟩
noncomputable def tyV (K : PySem.W.Frag) (T : String) (x : V) (H : Hp) : Prop:=match x with
 | .str _=>T = "str"
 | .int _=>T = "int"
 | .ref p=>(T = "list"/\∃ xs,SqL K H p xs) \/ (T = "tuple"/\∃ o,K.lookup p = some o/\o.cls = .type "tuple"/\o.dict = none) \/
   (T = "dict"/\((∃ kvs,H p = some (.dK kvs)) \/ ∃ kvs,H p = some (.dT kvs))) \/ (T = "set"/\∃ S n,H p = some (.set S n))
 | _=>False
theorem zST {pins : List (Addr × Obj)} {σ : St} {H : Hp} {s : Shared} {T : String} {x : V} {v : Value} (I : Inv X pins σ H s) (r : RelV x v) (ty : tyV X.K T x H) :
  s.TypeIs v T/\∀ a,v = .ref a -> ∃ ob,s.heap.get? a = some ob/\ob.dict = none:=by
 cases x with
 | str z =>
  obtain ⟨t,rfl⟩:=r
  cases (show T = "str" from ty)
  exact ⟨typeIs_str s z t,λ_ e=>nomatch e⟩
 | int i =>
  obtain ⟨t,rfl⟩:=r
  cases (show T = "int" from ty)
  exact ⟨typeIs_int s i t,λ_ e=>nomatch e⟩
 | ref p =>
  cases r
  rcases ty with ⟨rfl,xs,hq⟩ | ⟨rfl,o,hk,hc,hd⟩ | ⟨rfl,hk⟩ | ⟨rfl,S,n,hk⟩
  ·obtain ⟨its,_,pl,_⟩:=I.list hq
   refine ⟨pl.isList.typeIs,λa e => ?_⟩
   cases e
   obtain ⟨o,n,e,c,hd,_⟩:=pl;exact ⟨o,e,hd⟩
  ·refine ⟨⟨o,I.kIn p o hk,hc⟩,λa e => ?_⟩
   cases e
   exact ⟨o,I.kIn _ o hk,hd⟩
  ·have z : ∃ o,s.heap.get? p = some o/\o.ExactDict:=by
    rcases hk with ⟨kvs,hk⟩ | ⟨kvs,hk⟩
    ·obtain ⟨_,_,_,_,o,_,_,e,ex,_⟩:=I.hok p _ hk
     exact ⟨o,e,ex⟩
    ·obtain ⟨_,_,_,_,o,_,_,e,ex,_⟩:=I.hok p _ hk
     exact ⟨o,e,ex⟩
   obtain ⟨o,e,ex⟩:=z;refine ⟨⟨o,e,ex.1⟩,λa e2 => ?_⟩
   cases e2
   exact ⟨o,e,ex.2.1⟩
  ·obtain ⟨o,_,_,_,e,ex,_⟩:=I.hok p _ hk
   refine ⟨⟨o,e,ex.1⟩,λa e2 => ?_⟩
   cases e2
   exact ⟨o,e,ex.2.1⟩
 | _=>exact False.elim ty
noncomputable def zb8 (K : PySem.W.Frag) (T : String) (r : V -> List V -> Hp -> VK -> Prop) (to : TE) : TE:=λσ H Q=>to σ H λx H1=>tyV K T x H1/\r x [] H1 Q
noncomputable def tBM (K : PySem.W.Frag) (T : String) (r : V -> List V -> Hp -> VK -> Prop) (to : TE) (t : TA) : TE:=λσ H Q=>to σ H λx H1=>tyV K T x H1/\t σ H1 λxs H2=>r x xs H2 Q
variable {o e : Expr} {es : List Expr} {to : TE} {t : TA} {name : Str} {apos cpos : Pos} {T id : String} {r : V -> List V -> Hp -> VK -> Prop}
theorem zYH (pa : PlainAttrs T) (slot : Slot T name id) (hty : typeOf (.builtin id) = pure (.type "method_descriptor")) (hm : MtR X id r) (ho : PE X o to)
  (hbase : attributeBase o name X.env (eval o X.env) = eval o X.env:=by rfl) (hline : (apos.endLine == cpos.line) = true:=by rfl) : PE X (.Call (.Attribute o name apos) [] [] cpos) (zb8 X.K T r to):=by
 intro pins s σ H Q I h;refine wpAny_Call_method0_late hbase hline (thn (ho pins s σ H _ I h) λv s1 hM => ?_);obtain ⟨x,H1,I1,r1,ty,q1⟩:=hM;obtain ⟨h1,h2⟩:=zST I1 r1 ty;exact ⟨T,id,pa,slot,hty,h1,h2,Calls.callWith_builtin rfl (PySem.evalArgs_none (hm pins s1 σ H1 x [] v [] Q I1 r1 .nil q1))⟩
theorem zFA (pa : PlainAttrs T) (slot : Slot T name id) (hty : typeOf (.builtin id) = pure (.type "method_descriptor")) (hm : MtR X id r) (ho : PE X o to) (ha : PA X (e::es) t)
  (hbase : attributeBase o name X.env (eval o X.env) = eval o X.env:=by rfl)
  (hfew : ((backTo cpos (starEach (e::es) X.env)).all (λx => !x.1)&&(backToKw cpos (keywordEach [] X.env)).all (λx=>x.1.isSome)
   && decide ((e::es).length + ([] : List Keyword).length + (if ([] : List Keyword).isEmpty then 0 else 1) < 30)) = true:=by rfl)
  (hline : (apos.endLine == cpos.line) = true:=by rfl) (hs : starEach (e::es) X.env = (false,eval e X.env)::starEach es X.env:=by rfl) (hplain : (backTo cpos (starEach es X.env)).any (·.1) = false:=by rfl) :
  PE X (.Call (.Attribute o name apos) (e::es) [] cpos) (tBM X.K T r to t):=by
 intro pins s σ H Q I h;refine wpAny_Call_method_late hbase hfew hline rfl (thn (ho pins s σ H _ I h) λv s1 hM => ?_);obtain ⟨x,H1,I1,r1,ty,q1⟩:=hM;obtain ⟨h1,h2⟩:=zST I1 r1 ty;refine ⟨T,id,pa,slot,hty,h1,h2,?_⟩;have hA:=ha cpos pins s1 σ H1 _ I1 q1;rw [hs] at hA ⊢;refine Calls.callWith_builtin (by show (false||(backTo cpos (starEach es X.env)).any (·.1)) = false; rw [hplain] <;> rfl) (Calls.evalArgs_plain ?_);refine thn hA λus s2 hM => ?_;obtain ⟨vs,H2,I2,r2,q2⟩:=hM;exact hm pins s2 σ H2 x vs v us Q I2 r1 r2 q2
end
noncomputable def MtM (X : Cx) (id : String) (r : V -> List V -> Hp -> VK -> Prop) : Prop :=
 ∀ (pins : List (Addr × Obj)) (s : Shared) (σ : St) (H : Hp) (x : V) (xs : List V) (v : Value) (us : List Value) (Q : VK),Inv X pins σ H s -> RelV x v -> Vals xs us -> r x xs H Q ->
  wpAny (model X.prog X.w) X.A (call (.builtin id) (v::us)) (EP X pins σ Q) X.xe s
theorem Vals.zero {us : List Value} (h : Vals [] us) : us = []:=by cases h; rfl
theorem Vals.inv {x : V} {xs : List V} {us : List Value} (h : Vals (x::xs) us) : ∃ u r,us = u::r/\RelV x u/\Vals xs r:=by
 cases h with
 | cons a b=>exact ⟨_,_,rfl,a,b⟩
theorem Vals.one {x : V} {us : List Value} (h : Vals [x] us) : ∃ u,us = [u]/\RelV x u:=by
 obtain ⟨u,r,e,a,b⟩:=h.inv;rw [b.zero] at e;exact ⟨u,e,a⟩
theorem Vals.eraseIdx : ∀ {xs : List V} {us : List Value} (i : Nat),Vals xs us -> Vals (xs.eraseIdx i) (us.eraseIdx i)
 | _,_,_,.nil => .nil
 | _,_,0,.cons _ t=>t
 | _,_,i + 1,.cons r t => .cons r (Vals.eraseIdx i t)
theorem Vals.reverse {xs : List V} {us : List Value} (h : Vals xs us) : Vals xs.reverse us.reverse:=by
 induction h with
 | nil=>exact .nil
 | cons r t ih=>rw [List.reverse_cons,List.reverse_cons]; exact Vals.append ih (.cons r .nil)
theorem Vals.rep {xs : List V} {us : List Value} (h : Vals xs us) : ∀ k : Nat,Vals (List.replicate k xs).flatten (List.replicate k us).flatten
 | 0 => .nil
 | k + 1=>by
  rw [yCc,yCc,yDT,yDT];exact Vals.append h (Vals.rep h k)
theorem zJ1 {α : Type} : ∀ (l : List α) (i : Nat),(l.eraseIdx i).length <= l.length
 | [],_=>yAG _
 | _::_,0=>yDi _
 | _::r,i + 1=>Nat.succ_le_succ (zJ1 r i)
theorem zHS (its : List Value) : ∀ (k : Nat) (acc : List Value),
  List.foldl (λx1 x2=>x1++x2) acc.toArray (List.replicate k its.toArray) = (acc++(List.replicate k its).flatten).toArray
 | 0,acc=>by simp
 | k + 1,acc=>by
  have e : acc.toArray++its.toArray = (acc++its).toArray:=by simp
  have e2 : (acc++its)++(List.replicate k its).flatten = acc++(List.replicate (k + 1) its).flatten:=by
   rw [yCc,yDT,yBf]
  rw [<- e2,<- zHS its k (acc++its),<- e,yCc,List.foldl_cons]
section
variable {X : Cx} {pins : List (Addr × Obj)} {σ : St} {H : Hp} {s : Shared} {l b : Addr} {xs ys zs : List V}
theorem Inv.lset {its its' : List Value} {n : Nat} {f : Array Value -> Array Value} {t' : Nat} (I : Inv X pins σ H s) (hH : H l = some (.lst xs))
  (e : s.heap.get? l = some { cls := .type "list",data := .seq its.toArray n }) (hf : f its.toArray = its'.toArray) (hv : Vals ys its') (hz : ys.length <= sizeLine) :
  Inv X pins σ (upd H l (.lst ys)) { s with heap:=s.heap.update l (Obj.mapSeq f),toks:=t' }:=by
 have q:=PySem.IsL.update e f;rw [hf] at q;refine I.write (x:=l) (e:=l) (by rw [hH]; exact trivial) (.inl rfl) (λb' u hb hu=>(yBG s.heap (Obj.mapSeq f) (Ne.symm hb)).trans hu) ⟨_,q⟩ ?_;exact ⟨hz,its',_,hv,q⟩
theorem Inv.lnew {its : List Value} {t' : Nat} (I : Inv X pins σ H s) (hv : Vals ys its) (hz : ys.length <= sizeLine) :
  Inv X pins σ (upd H s.heap.objs.size (.lst ys)) { s with heap:=s.heap.push { cls := .type "list",data := .seq its.toArray },toks:=t' } :=
 I.laid (λ_ _ q=>yAD _ q) (yAG _) ⟨hz,its,0,hv,yAY _ rfl⟩
theorem Inv.fresh (I : Inv X pins σ H s) : H s.heap.objs.size = none:=I.hok.fresh (yAG _)
theorem Inv.lstM (I : Inv X pins σ H s) (hH : H l = some (.lst xs)) : xs.length <= sizeLine/\∃ (its : List Value) (n : Nat),Vals xs its/\xs.length = its.length/\s.heap.get? l = some { cls := .type "list",data := .seq its.toArray n }:=by
 obtain ⟨z,its,n,r,e⟩:=I.hok l _ hH;exact ⟨z,its,n,r,r.length,e⟩
theorem zS0 {n : Nat} (h : n <= sizeLine) : Builtin.List.listTooLong n = false:=by
 unfold Builtin.List.listTooLong;exact yAL (by lia)
end
section
variable {X : Cx}
noncomputable def zVI : V -> List V -> Hp -> VK -> Prop:=λx vs H Q=>∃ l xs y,x = .ref l/\vs = [y]/\H l = some (.lst xs)/\xs.length < sizeLine/\Q .non (upd H l (.lst (xs++[y])))
theorem zBC : MtM X "list.append" zVI:=by
 intro pins s σ H x vs v us Q I rx rv h;obtain ⟨l,xs,y,rfl,rfl,hH,hz,q⟩:=h
 cases rx
 obtain ⟨u,rfl,ru⟩:=rv.one;obtain ⟨z,its,n,r,hl,e⟩:=I.lstM hH;refine yDg F.slot_list_append ⟨_,e,rfl⟩ F.entry_list_append (F.args_list_append_2 _ _) (PySem.list_append l its.toArray n u (by rw [yAF]; lia)) ⟨e,?_⟩;refine ⟨.non,_,I.lset (its':=its++[u]) hH e (by simp) (r.append (.cons ru .nil)) ?_,rfl,q⟩;rw [yAU,yEU];lia
noncomputable def zXV : V -> List V -> Hp -> VK -> Prop:=λx vs H Q=>∃ l xs i k y,x = .ref l/\vs = [.int i]/\H l = some (.lst xs) /\ -(2 ^ 63) <= i/\i < 2 ^ 63/\seqIndex? i xs.length = some k/\xs[k]? = some y/\Q y (upd H l (.lst (xs.eraseIdx k)))
theorem zRU : MtM X "list.pop" zXV:=by
 intro pins s σ H x vs v us Q I rx rv h;obtain ⟨l,xs,i,k,y,rfl,rfl,hH,h1,h2,hk,hy,q⟩:=h
 cases rx
 obtain ⟨u,rfl,ru⟩:=rv.one;obtain ⟨t,rfl⟩:=ru;obtain ⟨z,its,n,r,hl,e⟩:=I.lstM hH;obtain ⟨w,hw,rw'⟩:=r.get hy
 refine yDg F.slot_list_pop ⟨_,e,rfl⟩ F.entry_list_pop (F.args_list_pop_2 _ _)
  (MeetsSeq.list_pop_at l its.toArray n i t k w (fitsIndex_both h1 h2) (by rw [yAF,<- hl]; exact hk) (by rw [<- yAs]; exact hw) (by rw [yAF]; lia)) ⟨e,?_⟩
 refine ⟨y,_,I.lset (its':=its.eraseIdx k) hH e ?_ (r.eraseIdx k) ?_,rw',q⟩
 ·show its.toArray.eraseIdxIfInBounds k = (its.eraseIdx k).toArray
  rw [List.eraseIdxIfInBounds_toArray]
 ·have:=zJ1 xs k
  lia
noncomputable def zXI : V -> List V -> Hp -> VK -> Prop:=λx vs H Q=>∃ l xs,x = .ref l/\vs = []/\H l = some (.lst xs)/\Q .non (upd H l (.lst []))
theorem zS2 : MtM X "list.clear" zXI:=by
 intro pins s σ H x vs v us Q I rx rv h;obtain ⟨l,xs,rfl,rfl,hH,q⟩:=h
 cases rx
 have hus:=rv.zero;subst hus;obtain ⟨z,its,n,r,hl,e⟩:=I.lstM hH;refine yDg F.slot_list_clear ⟨_,e,rfl⟩ F.entry_list_clear (F.args_list_clear_1 _) (AutoSeq1.list_clear_list_0 l its.toArray n (by rw [yAF]; lia)) ⟨e,?_⟩;exact ⟨.non,_,I.lset (its':=[]) (ys:=[]) hH e rfl .nil (yAy _),rfl,q⟩
noncomputable def zaO : R2:=λx y H Q=>∃ l b xs zs,x = .ref l/\y = .ref b/\H l = some (.lst xs)/\H b = some (.lst zs)/\xs.length + zs.length <= sizeLine/\∀ p,H p = none -> Q (.ref p) (upd H p (.lst (xs++zs)))
theorem zIY : OpR X (binaryOp .Add) zaO:=by
 intro pins s σ H x y v u Q I rx ry h;obtain ⟨l,b,xs,zs,rfl,rfl,hH,hB,hz,q⟩:=h
 cases rx
 cases ry
 obtain ⟨z,its,n,r,hl,e⟩:=I.lstM hH;obtain ⟨z2,its2,n2,r2,hl2,e2⟩:=I.lstM hB;refine PySem.P.add_list e e2 ?_ (by rw [yAF,yAF]; lia);have ea : its.toArray++its2.toArray = (its++its2).toArray:=by simp
 rw [ea];exact ⟨.ref _,_,I.lnew (t':=s.toks) (r.append r2) (by rw [yAU]; lia),rfl,q _ I.fresh⟩
noncomputable def zaP : R2:=λx y H Q=>∃ l k xs,x = .ref l/\y = .int k/\H l = some (.lst xs) /\ -(2 ^ 63) <= k/\k < 2 ^ 63/\xs.length * k.toNat <= sizeLine /\
 ∀ p,H p = none -> Q (.ref p) (upd H p (.lst (List.replicate k.toNat xs).flatten))
theorem zUE {α : Type} (xs : List α) (k : Nat) : (List.replicate k xs).flatten.length = k * xs.length:=by
 induction k with
 | zero=>simp
 | succ k ih=>rw [yCc,yDT,yAU,ih,Nat.succ_mul,Nat.add_comm]
theorem zKO : OpR X (binaryOp .Mult) zaP:=by
 intro pins s σ H x y v u Q I rx ry h;obtain ⟨l,k,xs,rfl,rfl,hH,h1,h2,hz,q⟩:=h
 cases rx
 obtain ⟨t,rfl⟩:=ry;obtain ⟨z,its,n,r,hl,e⟩:=I.lstM hH;have hlen : its.toArray.size * k.toNat <= sizeLine:=by rw [yAF,<- hl]; exact hz
 have hcap : ¬ its.toArray.size * k.toNat > (2 ^ 63 - 1) / 8:=by
  have : (sizeLine : Nat) <= (2 ^ 63 - 1) / 8:=by decide
  lia
 have hfit : ¬ (!Builtin.List.listFitsIndex k) = true:=by
  rw [fitsIndex_both h1 h2];exact yAW
 have hlong : ¬ Builtin.List.listTooLong (its.toArray.size * k.toNat) = true:=by
  rw [zS0 hlen];exact yAW
 have hnew : List.foldl (λx1 x2=>x1++x2) #[] (List.replicate (if its.toArray.isEmpty = true then 0 else k.toNat) its.toArray) = (List.replicate k.toNat its).flatten.toArray:=by
  have f0 : ∀ m : Nat,List.foldl (λx1 x2=>x1++x2) #[] (List.replicate m its.toArray) = (List.replicate m its).flatten.toArray:=λm=>by
   have:=zHS its m []
   rw [yET] at this;exact this
  rw [f0]
  cases its with
  | nil=>simp
  | cons a r'=>rw [yAN (by simp)]
 refine wpAny_binaryOp_repeat_ref (T:="list") (U:="int") (by decide) ⟨_,e,rfl⟩ (λs'=>typeIs_int s' k t) noFill_list_mul F.fills_int_mul F.slot_int_rmul repeat_list F.slot_int_index.lookup
  (yDg F.slot_int_rmul (typeIs_int s k t) F.entry_int_rmul (F.args_int_rmul_2 _ _) (int___rmul___int_list k t l its.toArray n)
   ⟨e,rfl,⟨_,e,rfl⟩,yDg F.slot_list_mul ⟨_,e,rfl⟩ F.entry_list_mul (F.args_list_mul_2 _ _) (AutoListH.list___mul___list_int_3 l its.toArray n k t hfit hcap hlong) ⟨e,?_⟩⟩)
 rw [hnew];exact ⟨.ref _,_,I.lnew (t':=s.toks) (r.rep k.toNat) (by rw [zUE,Nat.mul_comm]; exact hz),rfl,q _ I.fresh⟩
end
section
variable {prog : Program} {w : World} {A : Around} {E : Value -> Shared -> Prop} {s : Shared}
end
section
variable {X : Cx}
end
end L2
namespace Att
open PySem PySem.W PySem.Calls PyProof.Rows
theorem zFC {P : Params} {h : Heap} : ∀ (ns : List Int) (vs : List Value),WellAll P h vs (ns.map WData.int) -> IntsAre vs ns:=by
 intro ns
 induction ns with
 | nil =>
  intro vs w;rw [List.map_nil] at w
  cases w
  exact .nil
 | cons n ns ih =>
  intro vs w;rw [yAp] at w
  cases w with
  | cons a b =>
   cases a
   exact .cons _ _ (ih _ b)
theorem zOL {l : OpenLaw} {n : Nat} (hn : l.most = some n) {P : Params} {h : Heap} {args : List WData} {vals : List Value}
  (hpre : l.row.toRowW.claim.pre args = true) (hwl : WellAll P h vals args) :
  ∃ a vs ns,vals = [Value.ref a]/\args = [WData.list (ns.map WData.int)]/\h.get? a = some { cls := .type "list",data := .seq vs.toArray }/\IntsAre vs ns/\ns.length <= n:=by
 have hsh : WShape.hasAll [] args [.list .int] = true:=(pre_splitW hpre).1;have hc : l.pre.holds [] { args:=args } = true:=(pre_splitW hpre).2;obtain ⟨d,r,rfl,h1,h2⟩:=hasAllW_cons hsh;obtain rfl:=hasAllW_nil h2;obtain ⟨xs,rfl,h3⟩:=hasW_list h1;obtain ⟨ns,rfl⟩:=items_int h3
 have hlen : ns.length <= n:=by
  unfold OpenLaw.pre at hc
  have h4 : (WTm.not (.lt (.lit (.int (n : Int))) (.len (.arg 0)))).holds [] { args:=[.list (ns.map .int)] } = true:=by
   have h4:=(holds_andW hc).1;rw [hn] at h4;exact h4
  have h5:=condW_of h4 (w_not (w_lt w_lit (w_len_list (w_arg rfl))));rw [yAC] at h5;refine Nat.le_of_not_lt λq => ?_;have q' : (n : Int) < ((ns.length : Nat) : Int):=by lia
  first
   | (rw [yAZ q'] at h5; exact absurd h5 (by decide))
   | (simp at h5; lia)
 cases hwl with
 | cons w1 w2 =>
  cases w2
  cases w1 with
  | list ho hall=>exact ⟨_,_,ns,rfl,rfl,ho,zFC ns _ hall,hlen⟩
theorem zO7 (l : OpenLaw) (args : List WData) : l.row.toRowW.claim.post args (.bool true) args = true :=
 postW_of (r:=l.row.toRowW) (X:=(true == true))
  (show WShape.has [] (.bool true) .bool = true by first | rfl | decide | simp [WShape.has,WShape.arms,WShape.armsAll])
  (show (WTm.eq .res (.lit (.bool true))).value [] { args:=args,res:=some (.bool true),after:=args } = some (.bool (true == true)) from w_eq_bool (w_res rfl) w_lit) rfl
theorem attach_call {l : OpenLaw} {n : Nat} {q : Program} {loose : List Str} {XP : (Str -> Option Value) -> Heap -> Prop} {YP : World -> Heap -> Prop} {d : DefRec}
  (hn : l.most = some n) (hdf : d.params.defaults = [])
  (call : ∀ (w : World) (s₀ s₁ : Shared) (mg mb : Str -> Option Value) (fa : Addr) (o : Obj) (pm cd doc : Value) (a : Addr) (vs : List Value) (ns : List Int),
   Ground q loose [] XP w s₀ mg mb s₁.heap -> YP w s₁.heap ->
   s₁.heap.get? fa = some o -> o.data = .func (docDef d.name d.params d.body d.scope pm cd doc) -> s₁.heap.CodeRec cd d.name -> mg d.name = some (.ref fa) ->
   s₁.heap.get? a = some { cls := .type "list",data := .seq vs.toArray } -> IntsAre vs ns -> ns.length <= n -> s₁.gens = #[] ->
   codeAny (model l.prog w) callerA (.call (.ref fa) ⟨[.ref a],[]⟩) (λr s'=>r = .ok (.ret (.bool true))/\OldK s₁.heap s'.heap/\s'.os = s₁.os/\AllBare s'.gens) s₁) :
  WalkO q loose XP YP l.row.toRowW d [] (λf vs=>PySem.call f vs):=by
 intro w s₀ s₁ mg mb G Y fa o pm cd doc dV kV ho hd hcd hD hmg hg args vals as hpre hlay hrd hwl hlo;obtain rfl : dV = .none:=Dflts.none hD hdf;obtain rfl : kV = .none:=Dflts.noKw hD;obtain ⟨a,vs,ns,rfl,rfl,hobj,hints,hlen⟩:=zOL hn hpre hwl;refine enter_call (yCZ (call w s₀ s₁ mg mb fa o pm cd doc a vs ns G Y ho (fd_plain hd) hcd hmg hobj hints hlen hg) λr s' hq => ?_);obtain ⟨rfl,h2,h3,h4⟩:=hq;exact ⟨.inl ⟨.bool true,.bool true,[],rfl,λ_=>rfl,.bool true,zO7 l _,λ_=>⟨List.Pairwise.nil,λ_ hm=>(nomatch hm)⟩⟩,h2,h3,h4⟩
section
variable {prog : Program} {w : World} {A : Around} {E : Value -> Shared -> Prop} {s : Shared} {K : Frag}
end
end Att
namespace L2
open PySem PySem.Spec PyProof.Rows
theorem zIC : ∀ {vs : List Value} {ns : List Int},IntsAre vs ns -> Vals (ns.map V.int) vs
 | _,_,.nil => .nil
 | _,_,.cons n t h => .cons ⟨t,rfl⟩ (zIC h)
noncomputable def zZ6 (H : Hp) : Prop:=∀ b,H b = none \/ ∃ o xs,H b = some (.frz o (.lst xs))
theorem zSS {P : Program} {w : World} {K : PySem.W.Frag} {mg mb : Str -> Option Value} {CX : CXT} {k : Nat} {fa a : Addr} {fd : FuncData} {x : Str} {sp : Sp} {s₁ : Shared} {vs : List Value} {ns : List Int}
  (KX : K.In s₁.heap) (hns : s₁.heap.Ns mainGlobals mg) (hb : s₁.heap.Ns builtinsNs mb) (hbb : ∀ x : Str,x≠"__name__" -> mb x = bootBuiltins x) (hlim : s₁.heap.NoLimit) (hg : s₁.gens = #[])
  (ha : s₁.heap.get? a = some { cls := .type "list",data := .seq vs.toArray }) (hi : IntsAre vs ns) (hl : ns.length <= sizeLine) (hr : Room k callerA)
  (F : ∀ base : Heap,K.In base -> base.Ns mainGlobals mg -> FnOk P w K mg base CX k fa fd [x] sp) (hbind : ∀ (s : Shared) (u : Value),BindsTo s fd ⟨[u],[]⟩ [(x,u)])
  (hsp : ∀ H : Hp,zZ6 H -> SqL K H a (ns.map V.int) -> sp [.ref a] H (λv _=>v = .bl true) λ_ _ _=>False)
  (hCX : ∀ H e s',CX [] H s₁ (λ_ _ _=>False) e s' -> False) :
  codeAny (model P w) callerA (.call (.ref fa) ⟨[.ref a],[]⟩) (λr s'=>r = .ok (.ret (.bool true))/\OldK s₁.heap s'.heap/\s'.os = s₁.os/\AllBare s'.gens) s₁ := by
 have rv:=zIC hi;have lenV:=hi.length
 have core : ∀ H : Hp,zZ6 H -> SqL K H a (ns.map V.int) -> HOk P w H s₁.heap -> (∀ b,H b≠none -> b = a) -> (H a≠none -> K.lookup a = none) ->
   codeAny (model P w) callerA (.call (.ref fa) ⟨[.ref a],[]⟩) (λr s'=>r = .ok (.ret (.bool true))/\OldK s₁.heap s'.heap/\s'.os = s₁.os/\AllBare s'.gens) s₁ := by
  intro H hO hS hok hA hK;have base_of : ∀ {b : Addr} {o : Obj},s₁.heap.get? b = some o -> H b = none -> (zRP s₁.heap H).get? b = some o:=λe n=>zQQ e n
  have noA : ∀ {b : Addr} {o : Obj} {es : Array DictEntry} {ep : Nat},s₁.heap.get? b = some o -> o.data = .dict es ep -> H b = none:=λ{b o es ep} e d=>by
   cases q : H b with
   | none=>rfl
   | some u =>
    have e' : b = a:=hA b (by rw [q]; simp);subst e';rw [ha] at e; cases e;have d' : Data.seq vs.toArray _ = Data.dict es ep:=d
    cases d'
  have nsK : ∀ {b : Addr} {m : Str -> Option Value},s₁.heap.Ns b m -> (zRP s₁.heap H).Ns b m:=λ{b m} ⟨o,es,ep,e,d,r⟩=>⟨o,es,ep,base_of e (noA e d),d,r⟩
  have hKb : K.In (zRP s₁.heap H):=λb o e=>base_of (KX b o e) (by
   cases q : H b with
   | none=>rfl
   | some u =>
    have e' : b = a:=hA b (by rw [q]; simp);subst e';rw [hK (by rw [q]; simp)] at e; cases e)
  have hM : Mod K mg (zRP s₁.heap H):=⟨hKb,nsK hns,⟨mb,nsK hb,hbb⟩,let ⟨mc,h1,h2⟩:=hlim; ⟨mc,nsK h1,h2⟩⟩;have e0 : Env0 P w K mg (zRP s₁.heap H) callerA [] s₁ H:=⟨rfl,hM,λb o e=>zVP e,Nat.le_of_eq (zO5 _ _),trivial,λb hb=>absurd (show b∈([] : List Addr) from hb) (by simp),hok,.of_eq hg⟩;refine yCZ ((F _ hKb (nsK hns)).run callerA [] s₁ H ⟨[.ref a],[]⟩ [.ref a] [.ref a] _ _ hr e0 (hbind s₁ (.ref a)) (.cons rfl .nil) (hsp H hO hS)) λr s' h => ?_
  cases r with
  | error e=>exact (hCX H e s' h).elim
  | ok fl =>
   cases fl with
   | next=>exact False.elim h
   | brk=>exact False.elim h
   | cont=>exact False.elim h
   | ret u =>
    obtain ⟨v,H',os,bare,un,hok',r',q⟩:=h;have q' : v = .bl true:=q;subst q';obtain rfl : u = Value.bool true:=r';refine ⟨rfl,OldK.of_keep λb o e => ?_,os,bare⟩
    cases q : H b with
    | none=>exact un.keep b o e q (by intro z; exact absurd (show b∈([] : List Addr) from z) (by simp)) (by simp)
    | some u =>
     rcases hO b with z | ⟨ob,xs,z⟩
     ·rw [q] at z; cases z
     ·have z2:=un.frzs b ob _ z
      obtain ⟨e1,_⟩:=hok b _ z;obtain ⟨e2,_⟩:=hok' b _ z2;rw [e] at e1; cases e1;exact e2
 cases hk : K.lookup a with
 | some o =>
  have e:=KX a o hk;rw [ha] at e
  cases e
  refine core (λ_=>none) (λ_ => .inl rfl) (.inr ⟨_,vs.toArray,_,hk,rfl,rfl,rfl,by rw [yAF,lenV]; exact hl,by simpa using rv⟩) (λb u z=>by have z' : (none : Option HO) = some u:=z; cases z') (λb z=>absurd rfl z) λz=>absurd rfl z
 | none =>
  refine core (λb=>if b = a then some (.frz { cls := .type "list",data := .seq vs.toArray } (.lst (ns.map V.int))) else none) (λb => ?_) (.inl (.inr ⟨{ cls := .type "list",data := .seq vs.toArray },yAK rfl⟩)) (λb u z => ?_) (λb z => ?_) λ_=>hk
  ·by_cases hb : b = a
   ·exact .inr ⟨_,_,yAK hb⟩
   ·exact .inl (yAN hb)
  ·by_cases hb : b = a
   ·have z':=(yAK hb).symm.trans z
    cases z'
    subst hb;exact ⟨ha,by rw [yAC]; exact hl,vs,_,rv,ha⟩
   ·have z':=(yAN hb).symm.trans z
    cases z'
  ·by_cases hb : b = a
   ·exact hb
   ·exact absurd (yAN hb) z
theorem walk_of {l : PySem.W.OpenLaw} {n k : Nat} {q : Program} {loose : List Str} {XP : (Str -> Option Value) -> Heap -> Prop} {YP : World -> Heap -> Prop} {d : DefRec} {K : Params -> PySem.W.Frag} {CX : World -> CXT} {sp : World -> Sp} {x : Str}
  (hn : l.most = some n) (hn2 : n <= sizeLine) (hdf : d.params.defaults = []) (hr : Room k callerA)
  (hY : ∀ (w : World) (h : Heap),YP w h -> (K w.params).In h)
  (F : ∀ (w : World) (mg : Str -> Option Value) (fa : Addr) (h : Heap),(K w.params).In h -> h.Ns mainGlobals mg -> mg d.name = some (.ref fa) ->
   ∃ fd : FuncData,(∀ (s : Shared) (u : Value),BindsTo s fd ⟨[u],[]⟩ [(x,u)]) /\
    ∀ base : Heap,(K w.params).In base -> base.Ns mainGlobals mg -> FnOk l.prog w (K w.params) mg base (CX w) k fa fd [x] (sp w))
  (hsp : ∀ (w : World) (H : Hp) (a : Addr) (ns : List Int),ns.length <= n -> zZ6 H -> SqL (K w.params) H a (ns.map V.int) -> sp w [.ref a] H (λv _=>v = .bl true) λ_ _ _=>False)
  (hCX : ∀ (w : World) (H : Hp) (s : Shared) (e : Value) (s' : Shared),CX w [] H s (λ_ _ _=>False) e s' -> False) :
  PySem.W.WalkO q loose XP YP l.row.toRowW d [] (λf vs=>PySem.call f vs):=by
 refine Att.attach_call hn hdf λw s₀ s₁ mg mb fa o pm cd doc a vs ns G Y ho hd hcd hmg hobj hints hlen hg => ?_;have KX:=hY w _ Y;obtain ⟨fd,hb,hF⟩:=F w mg fa _ KX G.T.g hmg;exact zSS KX G.T.g G.T.b G.T.builtins G.T.nolimit hg hobj hints (yAz hlen hn2) hr hF hb (λH hO hS=>hsp w H a ns hlen hO hS) λH e s'=>hCX w H s₁ e s'
noncomputable def zEF (s : Stmt) : Arguments:=match s with
 | .FunctionDef _ a _ _ _ _ _ _ _ _=>a
 | _=>{ posonlyargs:=[],args:=[],vararg:=none,kwonlyargs:=[],kw_defaults:=[],kwarg:=none,defaults:=[] }
noncomputable def zCO (s : Stmt) : List Stmt:=match s with
 | .FunctionDef _ _ b _ _ _ _ _ _ _=>b
 | _=>[]
noncomputable def zA8 (s : Stmt) : Scope:=match s with
 | .FunctionDef _ _ _ _ _ _ sc _ _ _=>sc
 | _=>{ kind := .function,names:=[],isGenerator:=false,isCoroutine:=false }
noncomputable abbrev CX0 : CXT:=λ_ _ _ _ _ _=>False
noncomputable abbrev E0 : XK:=λ_ _ _=>False
theorem zAF {X : Cx} : zDD CX0 X E0:=λ_ _ _ _ _ _ _ h=>h.elim
structure Fun (K : PySem.W.Frag) (x qual : Str) (st : Stmt) (f : Addr) (fd : FuncData) : Prop where
 ex : ∃ (oc : Value) (od : Option Addr) (kV doc pm : Value) (an : Option Addr) (cdv ct : Value) (osl : Array (Option Value)),
  fd = PySem.W.fnOf x qual (zEF st) (zCO st) (zA8 st) .none kV doc pm an cdv ct/\K.lookup f = some ⟨oc,od,.func fd,osl⟩/\PySem.W.codeIn K cdv qual = true
 kp : PySem.W.keepIn K (.ref f) = true
section
variable {P : Program} {w : World} {K : PySem.W.Frag} {mg : Str -> Option Value} {base : Heap}
theorem Fun.ok {x qual : Str} {st : Stmt} {f : Addr} {fd : FuncData} {N ps : List Str} {k : Nat} {sp : Sp} (F : Fun K x qual st f fd) (S : FnScope N ps (zA8 st)) (len : ∀ vs H Q E,sp vs H Q E -> vs.length = ps.length)
  (hbody : ∀ (cdv : Value) (A : Around) (outer : List Env) (s : Shared) (H : Hp) (vs : List V) (Q : VK) (E : XK),Room k (A.deeper (envOfC qual (zA8 st) s.heap.objs.size f cdv)) -> sp vs H Q E ->
   ∃ t,PSs (zR8 CX0 P w K mg base N qual (zA8 st) f cdv A outer s H E).nox (zCO st) t/\t { nx:=λ_ H'=>Q .non H',rt:=Q } (zG3 N vs) H) : FnOk P w K mg base CX0 (k + 1) f fd ps sp:=by
 obtain ⟨oc,od,kV,doc,pm,an,cdv,ct,osl,rfl,lk,hcd⟩:=F.ex;refine zX0 lk hcd S len λA outer s H vs Q E hr hsp => ?_;obtain ⟨t,h,q⟩:=hbody cdv A outer s H vs Q E hr hsp;exact ⟨t,h.nox,q⟩
theorem Fun.binds {x qual : Str} {st : Stmt} {f : Addr} {fd : FuncData} {ps : List Str} (F : Fun K x qual st f fd)
  (h : ∀ (kV doc pm : Value) (an : Option Addr) (cdv ct : Value) (us : List Value),us.length = ps.length -> bindArgs (PySem.W.fnOf x qual (zEF st) (zCO st) (zA8 st) .none kV doc pm an cdv ct) ⟨us,[]⟩ = pure (ps.zip us)) : Binds K fd ps []:=by
 obtain ⟨oc,od,kV,doc,pm,an,cdv,ct,osl,rfl,lk,hcd⟩:=F.ex;exact .all (h kV doc pm an cdv ct)
theorem fun_mk {x qual : Str} {st : Stmt} {f : Addr} {oc : Value} {od an : Option Addr} {osl : Array (Option Value)} {kV doc pm cdv ct : Value} (l : K.lookup f = some ⟨oc,od,.func (PySem.W.fnOf x qual (zEF st) (zCO st) (zA8 st) .none kV doc pm an cdv ct),osl⟩)
  (c : PySem.W.codeIn K cdv qual = true) (k : PySem.W.keepIn K (.ref f) = true) : Fun K x qual st f (PySem.W.fnOf x qual (zEF st) (zCO st) (zA8 st) .none kV doc pm an cdv ct):=⟨⟨oc,od,kV,doc,pm,an,cdv,ct,osl,rfl,l,c⟩,k⟩
theorem zXN {A : Around} {k : Nat} (hr : Room k A) : A.units + 1 < cLine:=Nat.lt_of_le_of_lt (Nat.add_le_add_left (by decide : 1 <= 64) _) hr.units
theorem zN7 {n : Nat} (h : n <= 1000) : n < sizeLine:=Nat.lt_of_le_of_lt h (by decide)
section
variable {X : Cx}
theorem pv (i : Nat) {x : Str} {pos : Pos} (hN : X.N[i]? = some x:=by rfl) (hv : Vis X.env.scope x:=by first | exact Or.inl rfl | exact Or.inr (Or.inl rfl) | exact Or.inr (Or.inr rfl)) (hd : (x == ("__debug__" : Str)) = false:=by decide)
  (hcd : (x == ("__classdict__" : Str)) = false:=by decide) : PE X (.Name x pos) (zN5 i):=zWP hN hv hd hcd
end
theorem zCW {A B : Prop} (h : B) : if false = true then A else B:=by
 rw [yAN yAW];exact h
theorem zIF {A B : Prop} (h : A) : if true = true then A else B:=by
 rw [yAK rfl];exact h
theorem zEN {c A B : Prop} [Decidable c] (h1 : c -> A) (h2 : ¬ c -> B) : if c then A else B:=by
 by_cases h : c
 ·rw [yAK h]
  exact h1 h
 ·rw [yAN h]
  exact h2 h
noncomputable def Same (H H' : Hp) : Prop:=∀ b o,H b = some o -> H' b = some o
theorem Same.refl (H : Hp) : Same H H:=λ_ _ h=>h
theorem Same.trans {H H1 H2 : Hp} (a : Same H H1) (b : Same H1 H2) : Same H H2:=λc o h=>b c o (a c o h)
theorem Same.free {H H' : Hp} (e : Same H H') {l : Addr} (h : H' l = Option.none) : H l = Option.none:=by
 cases q : H l with
 | none=>rfl
 | some o =>
  rw [e l o q] at h
  cases h
theorem Same.seq {K : PySem.W.Frag} {H H' : Hp} {a : Addr} {xs : List V} (e : Same H H') (h : SqL K H a xs) : SqL K H' a xs:=by
 rcases h with (h | ⟨o,h⟩) | h
 ·exact .inl (.inl (e _ _ h))
 ·exact .inl (.inr ⟨o,e _ _ h⟩)
 ·exact .inr h
noncomputable def zPQ (env : Env) : List (Str × NameKind) -> List (Str × Addr) -> List (Str × Addr)
 | [],acc=>acc
 | (n,k)::r,acc=>if k == .free then zPQ env r ((n,(env.cells.lookup n).getD 0)::acc) else zPQ env r acc
noncomputable def zWG (scope : Scope) (env : Env) : List (Str × Addr):=zPQ env scope.names []
theorem zH7 {env : Env} {y : Str} {c : Addr} : ∀ {names : List (Str × NameKind)} {acc : List (Str × Addr)},(y,c)∈zPQ env names acc -> (y,c)∈acc \/ ((y,NameKind.free)∈names/\c = (env.cells.lookup y).getD 0)
 | [],_,h => .inl h
 | (n,k)::r,acc,h=>by
  unfold zPQ at h
  split at h
  ·rename_i hk
   have hk : k = .free:=by simpa using hk
   rcases zH7 h with h1 | ⟨h1,h2⟩
   ·rcases yAd.mp h1 with h1 | h1
    ·cases h1
     exact .inr ⟨by rw [hk]; exact yAQ,rfl⟩
    ·exact .inl h1
   ·exact .inr ⟨yAP _ h1,h2⟩
  ·rcases zH7 h with h1 | ⟨h1,h2⟩
   ·exact .inl h1
   ·exact .inr ⟨yAP _ h1,h2⟩
theorem zFQ {env : Env} {y : Str} : ∀ {names : List (Str × NameKind)} {acc : List (Str × Addr)},(acc.lookup y).isSome = true -> ((zPQ env names acc).lookup y).isSome = true
 | [],_,h=>h
 | (n,k)::r,acc,h=>by
  unfold zPQ
  split
  ·refine zFQ ?_
   rw [yCB]
   split
   ·rfl
   ·exact h
  ·exact zFQ h
theorem zEX {env : Env} {y : Str} : ∀ {names : List (Str × NameKind)} {acc : List (Str × Addr)},(y,NameKind.free)∈names -> ((zPQ env names acc).lookup y).isSome = true
 | [],_,h=>by simp at h
 | (n,k)::r,acc,h=>by
  unfold zPQ
  rcases yAd.mp h with h1 | h1
  ·cases h1
   rw [yAK (by rfl)];refine zFQ ?_;rw [yCB]
   simp
  ·split
   ·exact zEX h1
   ·exact zEX h1
theorem zEJ {env : Env} : ∀ (names : List (Str × NameKind)) (acc : List (Str × Addr)),(∀ p∈names,p.2 = .free -> (env.cells.lookup p.1).isSome = true) ->
  (forIn names acc (λ(x : Str × NameKind) cs=>(if x.2 == .free then do let c <- cellOf env x.1; pure (ForInStep.yield ((x.1,c)::cs)) else pure (ForInStep.yield cs) : Sem (ForInStep (List (Str × Addr)))))) = (pure (zPQ env names acc) : Sem _)
 | [],acc,_=>by rw [List.forIn_nil]; rfl
 | (n,k)::r,acc,h=>by
  rw [List.forIn_cons];unfold zPQ
  cases hk : (k == NameKind.free) with
  | false=>exact zEJ r acc λp hp=>h p (yAP _ hp)
  | true =>
   have hk' : k = .free:=by simpa using hk
   have h1:=h (n,k) yAQ hk'
   have e : cellOf env n = (pure ((env.cells.lookup n).getD 0) : Sem Addr):=by
    unfold cellOf
    cases e : env.cells.lookup n with
    | none=>rw [e] at h1; cases h1
    | some c=>rfl
   show ((do let c <- cellOf env n; pure (ForInStep.yield ((n,c)::acc))) >>= _ : Sem _) = _;rw [e];exact zEJ r ((n,(env.cells.lookup n).getD 0)::acc) λp hp=>h p (yAP _ hp)
theorem zM7 {scope : Scope} {env : Env} (h : ∀ p∈scope.names,p.2 = .free -> (env.cells.lookup p.1).isSome = true) : closureFor scope env = pure (zWG scope env):=by
 have e:=zEJ (env:=env) scope.names [] h;unfold closureFor zWG
 first
  | (simp only [bind_pure]; exact e)
  | exact e
  | (rw [<- e]; rfl)
theorem zEP {env : Env} : ∀ {names : List (Str × NameKind)} {x : Str},names.lookup x = some .free ->
  (names.map λ(n,k)=>if (k == NameKind.free&&env.scope.kind == .function&&env.kindOf n == some .cell) then (n,NameKind.cell) else (n,k)).lookup x = some .cell \/
  (names.map λ(n,k)=>if (k == NameKind.free&&env.scope.kind == .function&&env.kindOf n == some .cell) then (n,NameKind.cell) else (n,k)).lookup x = some .free
 | [],_,h=>by simp at h
 | (n,k)::r,x,h=>by
  have ih := @zEP env r x;show List.lookup x ((if (k == NameKind.free&&env.scope.kind == .function&&env.kindOf n == some .cell) = true then (n,NameKind.cell) else (n,k))::_) = _ \/ List.lookup x ((if (k == NameKind.free&&env.scope.kind == .function&&env.kindOf n == some .cell) = true then (n,NameKind.cell) else (n,k))::_) = _
  cases hx : x == n with
  | true =>
   simp only [yCB,hx] at h
   cases h
   by_cases hc : (NameKind.free == NameKind.free&&env.scope.kind == .function&&env.kindOf n == some .cell) = true
   ·rw [yAK hc]; exact .inl (by simp only [yCB,hx])
   ·rw [yAN hc]; exact .inr (by simp only [yCB,hx])
  | false =>
   simp only [yCB,hx] at h
   by_cases hc : (k == NameKind.free&&env.scope.kind == .function&&env.kindOf n == some .cell) = true
   ·rw [yAK hc]; simp only [yCB,hx]; exact ih h
   ·rw [yAN hc]; simp only [yCB,hx]; exact ih h
theorem zFK {env : Env} {names : List (Str × NameKind)} {x : Str} {k : NameKind} (h : (x,k)∈(names.map λ(n,k)=>if (k == NameKind.free&&env.scope.kind == .function&&env.kindOf n == some .cell) then (n,NameKind.cell) else (n,k))) :
  (x,k)∈names \/ (x,NameKind.free)∈names:=by
 obtain ⟨⟨n,k'⟩,h1,h2⟩:=yBA.mp h;dsimp only at h2
 split at h2
 ·rename_i hc
  cases h2
  have : k' = .free:=by
   cases k' <;> first | rfl | (exfalso; revert hc; simp)
  subst this;exact .inr h1
 ·cases h2
  exact .inl h1
noncomputable def FvOk (X : Cx) (scope : Scope) : List (Str × Nat) -> Prop
 | []=>True
 | p::r=>(X.N[p.2]? = some p.1/\(X.env.scope.names.lookup p.1 = some .cell \/ X.env.scope.names.lookup p.1 = some .free)/\scope.names.lookup p.1 = some .free)/\FvOk X scope r
theorem FvOk.get {X : Cx} {scope : Scope} : ∀ {fv : List (Str × Nat)} {j : Nat} {p : Str × Nat},FvOk X scope fv -> fv[j]? = some p -> X.N[p.2]? = some p.1/\(X.env.scope.names.lookup p.1 = some .cell \/ X.env.scope.names.lookup p.1 = some .free)/\scope.names.lookup p.1 = some .free
 | [],_,_,_,e=>by simp at e
 | _::_,0,_,h,e=>by simp at e; subst e; exact h.1
 | _::_,j + 1,_,h,e=>h.2.get (j:=j) (by simpa using e)
structure CompOk (scope : Scope) (x : Str) (fv : List (Str × Nat)) : Prop where
 kind : scope.kind = .function
 nocell : ∀ y∈scope.names,y.2 ≠ .cell
 names : ∀ y∈scope.names,y.2 = .local -> scope.names.lookup y.1 = some .local
 hx : scope.names.lookup x = some .local
 fr : ∀ y∈scope.names,y.2 = .free -> y.1∈fv.map (·.1)
 nd : (x::fv.map (·.1)).Nodup
noncomputable def PTl (X : Cx) (ifs : List Expr) (t : TT) : Prop :=
 ∀ (pins : List (Addr × Obj)) (s : Shared) (σ : St) (H : Hp) (Q : Bool -> Hp -> Prop),Inv X pins σ H s -> t σ H Q ->
  wpAny (model X.prog X.w) X.A (forIn ifs true λc r=>if r = true then do let ok <- isTrue c X.env (eval c X.env); pure (ForInStep.yield ok) else pure (ForInStep.yield r)) (TP X pins σ Q) X.xe s
noncomputable def zKA : TT:=λ_ H Q=>Q true H
theorem zCH {X : Cx} : PTl X [] zKA:=λ_ _ _ H _ I h=>wpAny_tests_nil ⟨H,I,h⟩
theorem zFL {X : Cx} {c : Expr} {t : TT} (h : PT X c t) : PTl X [c] t:=λpins s σ H Q I hw=>wpAny_tests_one (h pins s σ H Q I hw)
section
variable {X : Cx} {pins : List (Addr × Obj)} {σ : St} {scope : Scope} {x : Str} {fv : List (Str × Nat)} {elt iter : Expr} {ifs : List Expr} {px pos : Pos} {tt : TT} {te : TE}
end
section
variable {κ : Type} [DecidableEq κ]
noncomputable def zEV (kvs : List (κ × V)) (k : κ) : Option V:=(kvs.find? λkv=>decide (kv.1 = k)).map (·.2)
noncomputable def zGN (kvs : List (κ × V)) (k : κ) (v : V) : List (κ × V) :=
 if (kvs.any λkv=>decide (kv.1 = k)) = true then kvs.map (λkv=>if kv.1 = k then (kv.1,v) else kv) else kvs++[(k,v)]
theorem zBM {p : κ × V} {r : List (κ × V)} {k : κ} (e : p.1 = k) : zEV (p::r) k = some p.2:=by simp [zEV,yCX,e]
theorem zBE {p : κ × V} {r : List (κ × V)} {k : κ} (e : ¬ p.1 = k) : zEV (p::r) k = zEV r k:=by simp [zEV,yCX,e]
theorem zE5 (k : κ) : ∀ kvs : List (κ × V),(kvs.any λkv=>decide (kv.1 = k)) = (zEV kvs k).isSome
 | []=>rfl
 | p::r=>by
  rw [yEI]
  by_cases e : p.1 = k
  ·simp only [zBM e,yAZ e,Bool.true_or,Option.isSome_some]
  ·rw [zBE e,yAL e,Bool.false_or]; exact zE5 k r
theorem zKN (k j : κ) (y : V) : ∀ kvs : List (κ × V),zEV (kvs.map λkv=>if kv.1 = k then (kv.1,y) else kv) j = (zEV kvs j).map λx=>if j = k then y else x
 | []=>rfl
 | p::r=>by
  have ih:=zKN k j y r;rw [yAp]
  by_cases h : p.1 = k
  ·rw [yAK h]
   by_cases e : p.1 = j
   ·rw [zBM (p:=(p.1,y)) e,zBM e,yCU,yAK (e.symm.trans h)]
   ·rw [zBE (p:=(p.1,y)) e,zBE e,ih]
  ·rw [yAN h]
   by_cases e : p.1 = j
   ·rw [zBM (p:=p) e,zBM e,yCU,yAN (λz=>h (e.trans z))]
   ·rw [zBE (p:=p) e,zBE e,ih]
theorem zHT (k j : κ) (y : V) : ∀ kvs : List (κ × V),zEV kvs k = none -> zEV (kvs++[(k,y)]) j = if j = k then some y else zEV kvs j
 | [],_=>by
  by_cases e : k = j
  ·rw [yAK e.symm]; exact zBM (p:=(k,y)) e
  ·rw [yAN (λz=>e z.symm)]; exact zBE (p:=(k,y)) e
 | p::r,hn=>by
  rw [yEK];have hk : ¬ p.1 = k:=λz=>by rw [zBM z] at hn; cases hn
  rw [zBE hk] at hn;have ih:=zHT k j y r hn
  by_cases e : p.1 = j
  ·rw [zBM e,zBM e,yAN (λz=>hk (e.trans z))]
  ·rw [zBE e,zBE e,ih]
theorem zSF (kvs : List (κ × V)) (k j : κ) (y : V) : zEV (zGN kvs k y) j = if j = k then some y else zEV kvs j:=by
 unfold zGN
 by_cases a : (kvs.any λkv=>decide (kv.1 = k)) = true
 ·rw [yAK a,zKN]
  rw [zE5] at a
  by_cases e : j = k
  ·obtain ⟨x,hx⟩:=yCV.mp a
   rw [yAK e,e,hx,yCU,yAK rfl]
  ·rw [yAN e]
   cases zEV kvs j with
   | none=>rfl
   | some x=>rw [yCU,yAN e]
 ·rw [yAN a]
  refine zHT k j y kvs ?_;rw [zE5] at a
  cases q : zEV kvs k with
  | none=>rfl
  | some x=>rw [q] at a; exact (a rfl).elim
theorem zCV (kvs : List (κ × V)) (k : κ) (v : V) : (zGN kvs k v).length <= kvs.length + 1:=by
 unfold zGN
 split
 ·rw [yAC]; lia
 ·rw [yAU,yBP,yCs]; lia
theorem zSR {kvs : List (κ × V)} {k : κ} (v : V) (h : zEV kvs k = none) : zGN kvs k v = kvs++[(k,v)]:=by
 unfold zGN;rw [zE5,h];exact yAN (by decide)
theorem RelO.isSome_eq {o : Option V} {u : Option Value} (r : RelO o u) : o.isSome = u.isSome:=by
 cases o with
 | none=>cases u with
  | none=>rfl
  | some _=>exact (show False from r).elim
 | some _=>cases u with
  | none=>exact (show False from r).elim
  | some _=>rfl
theorem KV.val {kvs : List (κ × V)} {vs : List (κ × Value)} (r : KV kvs vs) (k : κ) : RelO (zEV kvs k) (valueAt vs k):=by
 unfold KV at r
 induction r with
 | nil=>exact True.intro
 | @cons p q ps qs h t ih =>
  obtain ⟨h1,h2⟩:=h
  by_cases e : p.1 = k
  ·have e' : q.1 = k:=h1.symm.trans e
   have b : valueAt (q::qs) k = some q.2:=by simp [valueAt,yCX,e']
   rw [zBM e,b]; exact h2
  ·have e' : ¬ q.1 = k:=λz=>e (h1.trans z)
   have b : valueAt (q::qs) k = valueAt qs k:=by simp [valueAt,yCX,e']
   rw [zBE e,b]; exact ih
theorem KV.any {kvs : List (κ × V)} {vs : List (κ × Value)} (r : KV kvs vs) (k : κ) : (kvs.any λkv=>decide (kv.1 = k)) = vs.any λkv=>decide (kv.1 = k):=by
 unfold KV at r
 induction r with
 | nil=>rfl
 | cons h t ih=>rw [yEI,yEI,ih,h.1]
theorem KV.repl {kvs : List (κ × V)} {vs : List (κ × Value)} (r : KV kvs vs) (k : κ) {y : V} {u : Value} (ry : RelV y u) :
  KV (kvs.map λkv=>if kv.1 = k then (kv.1,y) else kv) (vs.map λkv=>if kv.1 = k then (kv.1,u) else kv):=by
 unfold KV at r ⊢
 induction r with
 | nil=>exact .nil
 | @cons p q ps qs h t ih =>
  rw [yAp,yAp];refine .cons ?_ ih;obtain ⟨h1,h2⟩:=h
  by_cases e : p.1 = k
  ·rw [yAK e,yAK (h1.symm.trans e)]; exact ⟨h1,ry⟩
  ·rw [yAN e,yAN (λz=>e (h1.trans z))]; exact ⟨h1,h2⟩
theorem KV.put {kvs : List (κ × V)} {vs : List (κ × Value)} (r : KV kvs vs) (k : κ) {y : V} {u : Value} (ry : RelV y u) : KV (zGN kvs k y) (stored vs k u):=by
 unfold zGN stored;rw [r.any k]
 by_cases e : (vs.any λkv=>decide (kv.1 = k)) = true
 ·rw [yAK e,yAK e]; exact r.repl k ry
 ·rw [yAN e,yAN e]; exact Paired.snoc r ⟨rfl,ry⟩
theorem KV.length {kvs : List (κ × V)} {vs : List (κ × Value)} (r : KV kvs vs) : kvs.length = vs.length:=Paired.length r
end
theorem zJN {P : Program} {w : World} {k : Key} {u : Value} (r : RelV (kV k) u) : (zAM P w).is k u = true:=by
 cases k with
 | inl i=>obtain ⟨t,e⟩:=(show ∃ t,u = Value.int i t from r); subst e; exact zJB P w i t
 | inr x=>obtain ⟨t,e⟩:=(show ∃ t,u = Value.str x t from r); subst e; exact zJE P w x t
theorem zI6 {P : Program} {w : World} : ∀ {ks : List Key} {us : List Value},Vals (ks.map kV) us -> ItemsAre (zAM P w) ks us
 | [],_,r=>by rw [List.map_nil] at r; cases r; exact .nil
 | k::ks,_,r=>by
  rw [yAp] at r
  cases r with
  | cons h t=>exact .cons (zJN h) (zI6 t)
noncomputable abbrev KT (H : Hp) : List (List Key × V) -> List (List Key × Addr × Value) -> Prop:=Paired λp q=>p.1 = q.1/\H q.2.1 = some (.tup (p.1.map kV))/\RelV p.2 q.2.2
theorem KT.val {H : Hp} {kvs : List (List Key × V)} {xs : List (List Key × Addr × Value)} (r : KT H kvs xs) (k : List Key) : RelO (zEV kvs k) ((atKey xs k).map (·.2)):=by
 induction r with
 | nil=>exact True.intro
 | @cons p q ps qs h t ih =>
  obtain ⟨h1,_,h2⟩:=h
  by_cases e : p.1 = k
  ·have e' : q.1 = k:=h1.symm.trans e
   have b : atKey (q::qs) k = some q.2:=by simp [atKey,yCX,e']
   rw [zBM e,b]; exact h2
  ·have e' : ¬ q.1 = k:=λz=>e (h1.trans z)
   have b : atKey (q::qs) k = atKey qs k:=by simp [atKey,yCX,e']
   rw [zBE e,b]; exact ih
theorem KT.repl {H : Hp} {kvs : List (List Key × V)} {xs : List (List Key × Addr × Value)} (r : KT H kvs xs) (k : List Key) {y : V} {u : Value} (ry : RelV y u) :
  KT H (kvs.map λkv=>if kv.1 = k then (kv.1,y) else kv) (xs.map (putAt k u)):=by
 induction r with
 | nil=>exact .nil
 | @cons p q ps qs h t ih =>
  rw [yAp,yAp];refine .cons ?_ ih;obtain ⟨h1,h2,h3⟩:=h;unfold putAt
  by_cases e : p.1 = k
  ·rw [yAK e,yAK (h1.symm.trans e)]; exact ⟨h1,h2,ry⟩
  ·rw [yAN e,yAN (λz=>e (h1.trans z))]; exact ⟨h1,h2,h3⟩
theorem KT.put {H : Hp} {kvs : List (List Key × V)} {xs : List (List Key × Addr × Value)} (r : KT H kvs xs) (k : List Key) {b : Addr} {y : V} {u : Value} (hb : H b = some (.tup (k.map kV))) (ry : RelV y u) :
  KT H (zGN kvs k y) (storedH xs k b u):=by
 have e : (kvs.any λkv=>decide (kv.1 = k)) = (atKey xs k).isSome:=by
  rw [zE5,(r.val k).isSome_eq,Option.isSome_map]
 unfold zGN storedH;rw [e]
 by_cases q : (atKey xs k).isSome = true
 ·rw [yAK q,yAK q]; exact r.repl k ry
 ·rw [yAN q,yAN q]; exact Paired.snoc r ⟨rfl,hb,ry⟩
theorem KT.keeps {H H' : Hp} {kvs : List (List Key × V)} {xs : List (List Key × Addr × Value)} (r : KT H kvs xs) (ht : ∀ b ys,H b = some (.tup ys) -> H' b = some (.tup ys)) : KT H' kvs xs :=
 Paired.mapP r λ_ _ z=>⟨z.1,ht _ _ z.2.1,z.2.2⟩
section
variable {P : Program} {w : World} {H : Hp} {h : Heap} {a : Addr}
theorem zXY {u : HO} (ok : HOk P w H h) (e : Rd H a u) : ObjOk P w H h a u:=e.ok ok
theorem zOD {kvs : List (Key × V)} (ok : HOk P w H h) (e : Rd H a (.dK kvs)) : kvs.length <= sizeLine/\(a == sysModules) = false/\∃ vs,KV kvs vs/\h.DictOf (zAM P w) a vs :=
 show ObjOk P w H h a (.dK kvs) from zXY ok e
theorem zU3 {kvs : List (Key × V)} (ok : HOk P w H h) (e : H a = some (.dK kvs)) : kvs.length <= sizeLine/\(a == sysModules) = false/\∃ vs,KV kvs vs/\h.DictOf (zAM P w) a vs:=zOD ok (.inl e)
theorem zHZ {ks : List Key} (ok : HOk P w H h) (e : H a = some (.tup (ks.map kV))) : (tupleKind (zAM P w)).is h ks a:=by
 obtain ⟨_,its,r,o,h1,h2,n,h3⟩:=(show ObjOk P w H h a (.tup (ks.map kV)) from ok a _ e);exact ⟨o,its.toArray,n,h1,h2,h3,by simpa using zI6 r⟩
theorem zOM {kvs : List (List Key × V)} (ok : HOk P w H h) (e : Rd H a (.dT kvs)) : kvs.length <= sizeLine/\(a == sysModules) = false /\
  ∃ xs,KT H kvs xs/\h.DictOfH (tupleKind (zAM P w)) a xs:=by
 obtain ⟨z,y,xs,r,o,es,ep,h1,h2,h3,h4,h5⟩:=(show ObjOk P w H h a (.dT kvs) from zXY ok e);refine ⟨z,y,xs,r,o,es,ep,h1,h2,h3,h4,λx hx => ?_,h5⟩
 have all : ∀ {l : List (List Key × V)} {m : List (List Key × Addr × Value)},KT H l m -> ∀ x∈m,(tupleKind (zAM P w)).is h x.1 x.2.1:=by
  intro l m q
  induction q with
  | nil=>intro x hx; exact nomatch hx
  | @cons p q ps qs hq t ih =>
   intro x hx
   rcases yAd.mp hx with e | hx
   ·subst e
    exact zHZ ok (by rw [<- hq.1]; exact hq.2.1)
   ·exact ih x hx
 exact all r x hx
theorem zZB {kvs : List (List Key × V)} (ok : HOk P w H h) (e : H a = some (.dT kvs)) : kvs.length <= sizeLine/\(a == sysModules) = false /\
  ∃ xs,KT H kvs xs/\h.DictOfH (tupleKind (zAM P w)) a xs:=zOM ok (.inl e)
end
noncomputable def DGet (H : Hp) (a : Addr) (y : V) (r : Option V) : Prop :=
 (∃ kvs k,Rd H a (.dK kvs)/\y = kV k/\r = zEV kvs k) \/ ∃ kvs k b,Rd H a (.dT kvs)/\y = .ref b/\H b = some (.tup (k.map kV))/\r = zEV kvs k
noncomputable def DPut (H : Hp) (a : Addr) (y v : V) (H' : Hp) : Prop :=
 (∃ kvs k,H a = some (.dK kvs)/\y = kV k/\kvs.length < sizeLine/\H' = upd H a (.dK (zGN kvs k v))) \/
 ∃ kvs k b,H a = some (.dT kvs)/\y = .ref b/\H b = some (.tup (k.map kV))/\kvs.length < sizeLine/\H' = upd H a (.dT (zGN kvs k v))
theorem DGet.k {H : Hp} {a : Addr} {kvs : List (Key × V)} {k : Key} (e : H a = some (.dK kvs)) : DGet H a (kV k) (zEV kvs k) := .inl ⟨kvs,k,.inl e,rfl,rfl⟩
theorem DPut.k {H : Hp} {a : Addr} {kvs : List (Key × V)} {k : Key} {v : V} (e : H a = some (.dK kvs)) (hl : kvs.length < sizeLine) : DPut H a (kV k) v (upd H a (.dK (zGN kvs k v))) := .inl ⟨kvs,k,e,rfl,hl,rfl⟩
section
variable {X : Cx} {pins : List (Addr × Obj)} {σ : St} {H : Hp} {s : Shared} {a : Addr} {y v : V} {u r : Value} {o : Option V} {A : Around} {E : Value -> Shared -> Prop}
theorem Inv.big (I : Inv X pins σ H s) : sysModules < s.heap.objs.size:=by
 have h : mainGlobals < s.heap.objs.size:=(I.mod.glob.keeps I.bk).lt;exact Nat.lt_trans (by decide) h
theorem zPH {Q : Value -> Shared -> Prop} (hu : A.units + 1 < cLine) (I : Inv X pins σ H s) (g : DGet H a y (some v)) (ry : RelV y u) (h : ∀ w' s',Inv X pins σ H s' -> RelV v w' -> Q w' s') :
  wpAny (model X.prog X.w) A (getItem (.ref a) u) Q E s:=by
 rcases g with ⟨kvs,k,e,ey,l⟩ | ⟨kvs,k,b,e,ey,eb,l⟩
 ·subst ey
  obtain ⟨z,hd,vs,rel,dd⟩:=zOD I.hok e;obtain ⟨w',hw,rw'⟩:=RelO.some_of (v:=v) (o:=valueAt vs k) (by rw [l]; exact rel.val k);exact wpAny_getItem_of (zJN ry) dd.mapOf hw (h w' _ (I.tok _) rw')
 ·subst ey
  cases (show u = Value.ref b from ry)
  obtain ⟨z,hd,xs,rel,dd⟩:=zOM I.hok e;obtain ⟨w',hw,rw'⟩:=RelO.some_of (v:=v) (o:=(atKey xs k).map (·.2)) (by rw [l]; exact rel.val k);obtain ⟨p,hp,hp2⟩:=yCj.mp hw;refine wpAny_getItem_heap (yDo hu) (zHZ I.hok eb) dd hp ?_;rw [hp2];exact h w' _ (I.tok _) rw'
theorem zb5 {Q : Value -> Shared -> Prop} (hu : A.units + 1 < cLine) (I : Inv X pins σ H s) (g : DGet H a y o) (ry : RelV y u) (h : ∀ s',Inv X pins σ H s' -> Q (.bool o.isSome) s') :
  wpAny (model X.prog X.w) A (compareOp .In u (.ref a)) Q E s:=by
 rcases g with ⟨kvs,k,e,ey,l⟩ | ⟨kvs,k,b,e,ey,eb,l⟩
 ·subst ey
  obtain ⟨z,hd,vs,rel,dd⟩:=zOD I.hok e;refine wpAny_in_of (zJN ry) hd dd.mapOf ?_;rw [<- (rel.val k).isSome_eq,<- l];exact h _ (I.tok _)
 ·subst ey
  cases (show u = Value.ref b from ry)
  obtain ⟨z,hd,xs,rel,dd⟩:=zOM I.hok e;refine wpAny_in_heap (yDo hu) (zHZ I.hok eb) hd dd ?_;have q:=(rel.val k).isSome_eq;rw [Option.isSome_map] at q;rw [<- q,<- l];exact h _ (I.tok _)
theorem zU2 {Q : Value -> Shared -> Prop} (hu : A.units + 1 < cLine) (I : Inv X pins σ H s) (g : DGet H a y o) (ry : RelV y u) (h : ∀ s',Inv X pins σ H s' -> Q (.bool (!o.isSome)) s') :
  wpAny (model X.prog X.w) A (compareOp .NotIn u (.ref a)) Q E s:=by
 rcases g with ⟨kvs,k,e,ey,l⟩ | ⟨kvs,k,b,e,ey,eb,l⟩
 ·subst ey
  obtain ⟨z,hd,vs,rel,dd⟩:=zOD I.hok e;refine wpAny_notIn_of (zJN ry) hd dd.mapOf ?_;rw [<- (rel.val k).isSome_eq,<- l];exact h _ (I.tok _)
 ·subst ey
  cases (show u = Value.ref b from ry)
  obtain ⟨z,hd,xs,rel,dd⟩:=zOM I.hok e;refine wpAny_notIn_heap (yDo hu) (zHZ I.hok eb) hd dd ?_;have q:=(rel.val k).isSome_eq;rw [Option.isSome_map] at q;rw [<- q,<- l];exact h _ (I.tok _)
theorem zK1 {h' : Heap} {t' : Nat} {ob : HO} (I : Inv X pins σ H s) (mu : Mut (H a)) (hs : Heap.SameBut a s.heap h') (he : ∃ q,h'.get? a = some q) (new : ObjOk X.prog X.w (upd H a ob) h' a ob) :
  Inv X pins σ (upd H a ob) { s with heap:=h',toks:=t' } :=
 I.write (x:=a) (e:=a) mu (.inl rfl) (λb q hb z=>(hs.2 b hb).trans z) he new
theorem zSY {P : Program} {w : World} {H' : Hp} {h' : Heap} {kvs : List (Key × V)} {vs : List (Key × Value)} (z : kvs.length <= sizeLine) (hd : (a == sysModules) = false) (rel : KV kvs vs) (dd : h'.DictOf (zAM P w) a vs) :
  ObjOk P w H' h' a (.dK kvs):=⟨z,hd,vs,rel,dd⟩
theorem zOU {H' : Hp} {Q : Unit -> Shared -> Prop} (hu : A.units + 1 < cLine) (I : Inv X pins σ H s) (g : DPut H a y v H') (ry : RelV y u) (rv : RelV v r) (h : ∀ s',Inv X pins σ H' s' -> Q () s') :
  wpAny (model X.prog X.w) A (setItem (.ref a) u r) Q E s:=by
 rcases g with ⟨kvs,k,e,ey,l,eH⟩ | ⟨kvs,k,b,e,ey,eb,l,eH⟩
 ·subst ey eH
  obtain ⟨z,hd,vs,rel,dd⟩:=zU3 I.hok e;have hz : vs.length <= sizeLine:=by rw [<- rel.length]; exact z
  have hl : (zGN kvs k v).length <= sizeLine:=by have:=zCV kvs k v; lia
  refine wpAny_setItem_pairs (hsz:=hz) (zJN ry) dd λh' dd' hs=>h _ ?_;have he : ∃ q,h'.get? a = some q:=let ⟨q,_,_,hq,_⟩:=dd'; ⟨q,hq⟩;exact zK1 I (by rw [e]; exact True.intro) hs he (zSY hl hd (rel.put k rv) dd')
 ·subst ey eH
  cases (show u = Value.ref b from ry)
  obtain ⟨z,hd,xs,rel,dd⟩:=zZB I.hok e;have hz : xs.length <= sizeLine:=by rw [<- Paired.length rel]; exact z
  have hl : (zGN kvs k v).length <= sizeLine:=by have:=zCV kvs k v; lia
  refine wpAny_setItem_heap (hsz:=hz) (yDo hu) (zHZ I.hok eb) dd λh' dd' hs=>h _ ?_;obtain ⟨q,es,ep,hq,h2,h3,h4,_,h5⟩:=dd';refine zK1 I (by rw [e]; exact True.intro) hs ⟨q,hq⟩ ⟨hl,hd,_,(rel.put k eb rv).keeps λc ys ec => ?_,q,es,ep,hq,h2,h3,h4,h5⟩;rw [zA7 (zZL ec e (λz=>nomatch z))];exact ec
end
section
variable {X : Cx} {pins : List (Addr × Obj)} {σ : St} {H : Hp} {s : Shared} {a : Addr} {kvs : List (Key × V)} {k : Key} {u : Value} {A : Around} {E : Value -> Shared -> Prop}
end
noncomputable def za9 (i : Expr) : Prop:=∀ ov iv,subscripted i false ov iv = operate [ov,iv] (getItem ov iv)
theorem zVV {prog : Program} {w : World} {A : Around} {E : Value -> Shared -> Prop} {s : Shared} {env : Env} {value slice : Expr} {pos : Pos} {T id : String} {Q : Value -> Shared -> Prop}
  (hl : typeLookup (.type T) "__getitem__" = pure (some (.builtin id))) (hs : za9 slice)
  (h : wpAny (model prog w) A (eval value env) (λo s₁ => wpAny (model prog w) A (eval slice env) (λi s₂ => s₂.TypeIs o T/\wpAny (model prog w) A (getItem o i) Q E s₂) E s₁) E s) :
  wpAny (model prog w) A (eval (.Subscript value slice pos) env) Q E s:=by
 refine yEY (yBO h (λo s₁ h₁ => yBO h₁ (λi s₂ h₂ => ?_) λ_ _ x=>x) λ_ _ x=>x);obtain ⟨hT,h₂⟩:=h₂;unfold subscriptTail;refine yAA ?_;rw [getitemInPython_of_ne hT.not_modules];refine yAA (wpAny_specialOf hT hl ?_)
 have fin : wpAny (model prog w) A (subscripted slice false o i) (λr s₃ => wpAny (model prog w) A (letTemporaryGo value o r >>= λ_=>pure r) Q E s₃) E s₂ := by
  rw [hs o i];exact wpAny_operating (yBO h₂ (λr s₃ h₃ => yAA (wpAny_letTemporaryGo (yAH h₃))) λ_ _ x=>x)
 first
  | exact yAH (yAA fin)
  | exact yAA (yAH (yAA fin))
  | exact yAA fin
theorem zJZ {X : Cx} {pins : List (Addr × Obj)} {σ : St} {H : Hp} {s : Shared} {a : Addr} {y : V} {o : Option V} (I : Inv X pins σ H s) (g : DGet H a y o) : s.TypeIs (.ref a) "dict":=by
 rcases g with ⟨kvs,k,e,_,_⟩ | ⟨kvs,k,b,e,_,_,_⟩
 ·obtain ⟨_,_,vs,_,dd⟩:=zOD I.hok e
  exact dd.typeIs
 ·obtain ⟨_,_,xs,_,dd⟩:=zOM I.hok e
  exact dd.typeIs
noncomputable def zZH (td ty : TE) : TE:=λσ H Q=>td σ H λx H1=>ty σ H1 λy H2=>∃ a v,x = .ref a/\DGet H2 a y (some v)/\Q v H2
noncomputable def zaL (ty td : TE) : TE:=λσ H Q=>ty σ H λy H1=>td σ H1 λx H2=>∃ a o,x = .ref a/\DGet H2 a y o/\Q (.bl o.isSome) H2
noncomputable def zUO (ty td : TE) : TE:=λσ H Q=>ty σ H λy H1=>td σ H1 λx H2=>∃ a o,x = .ref a/\DGet H2 a y o/\Q (.bl (!o.isSome)) H2
noncomputable def zZ0 (td ty tv : TE) : TS:=λD σ H=>tv σ H λv H1=>td σ H1 λx H2=>ty σ H2 λy H3=>∃ a H4,x = .ref a/\DPut H3 a y v H4/\D.nx σ H4
section
variable {X : Cx} {o i e value : Expr} {pos pos' tpos : Pos} {td ty tv : TE}
theorem zVO (hu : X.A.units + 1 < cLine) (ho : PE X o td) (hi : PE X i ty) (hs : za9 i) : PE X (.Subscript o i pos) (zZH td ty):=by
 intro pins s σ H Q I h;refine zVV PySem.F.slot_dict_getitem.lookup hs (thn (ho pins s σ H _ I h) λu s1 hM => ?_);obtain ⟨x,H1,I1,rx,q1⟩:=hM;refine thn (hi pins s1 σ H1 _ I1 q1) λiv s2 hM => ?_;obtain ⟨y,H2,I2,ry,a,v,ex,g,q2⟩:=hM;subst ex;obtain rfl : u = Value.ref a:=rx;exact ⟨zJZ I2 g,zPH hu I2 g ry λw' s3 I3 rw'=>⟨v,H2,I3,rw',q2⟩⟩
theorem zXG (hu : X.A.units + 1 < cLine) (hi : PE X i ty) (ho : PE X o td) : PC X .In i o (zaL ty td):=by
 intro pins s σ H Q I h;refine thn (hi pins s σ H _ I h) λiv s1 hM => ?_;obtain ⟨y,H1,I1,ry,q1⟩:=hM;refine thn (ho pins s1 σ H1 _ I1 q1) λu s2 hM => ?_;obtain ⟨x,H2,I2,rx,a,ov,ex,g,q2⟩:=hM;subst ex;obtain rfl : u = Value.ref a:=rx;exact zb5 hu I2 g ry λs3 I3=>⟨.bl ov.isSome,H2,I3,rfl,q2⟩
theorem zQ9 (hu : X.A.units + 1 < cLine) (hi : PE X i ty) (ho : PE X o td) : PC X .NotIn i o (zUO ty td):=by
 intro pins s σ H Q I h;refine thn (hi pins s σ H _ I h) λiv s1 hM => ?_;obtain ⟨y,H1,I1,ry,q1⟩:=hM;refine thn (ho pins s1 σ H1 _ I1 q1) λu s2 hM => ?_;obtain ⟨x,H2,I2,rx,a,ov,ex,g,q2⟩:=hM;subst ex;obtain rfl : u = Value.ref a:=rx;exact zU2 hu I2 g ry λs3 I3=>⟨.bl (!ov.isSome),H2,I3,rfl,q2⟩
theorem zUU (hu : X.A.units + 1 < cLine) (ho : PE X o td) (hi : PE X i ty) (hv : PE X value tv) (hs : swapsWith value (some (.Subscript o i pos')) pos.line X.env = pure false) :
  PS X (.Assign [.Subscript o i pos'] value pos) (zZ0 td ty tv):=by
 intro pins s σ H D I h;refine wpAny_Assign_Subscript (thn (hv pins s σ H _ I h) λr s1 hM => ?_) hs;obtain ⟨v,H1,I1,rv,q1⟩:=hM;refine thn (ho pins s1 σ H1 _ I1 q1) λu s2 hM => ?_;obtain ⟨x,H2,I2,rx,q2⟩:=hM;refine thn (hi pins s2 σ H2 _ I2 q2) λiv s3 hM => ?_;obtain ⟨y,H3,I3,ry,a,H4,ex,g,q3⟩:=hM;subst ex;obtain rfl : u = Value.ref a:=rx;exact zOU hu I3 g ry rv λs4 I4=>⟨σ,H4,I4,q3⟩
end
theorem zKJ {P : Program} {w : World} {H : Hp} (h : Heap) (hb : sysModules < h.objs.size) : ObjOk P w H (h.push { cls := .type "dict",data := .dict #[] }) h.objs.size (.dK []) :=
 ⟨yAy _,yCz.mpr (Ne.symm (yAh hb)),[],.nil,Heap.DictOf.new h⟩
noncomputable def zXU : TE:=λ_ H Q=>∀ p,H p = none -> Q (.ref p) (upd H p (.dK []))
section
variable {X : Cx} {pos : Pos}
theorem zQK : PE X (.Dict [] [] pos) zXU:=λpins s σ H Q I h =>
 wpAny_Dict_empty ⟨.ref s.heap.objs.size,_,I.laid (a:=s.heap.objs.size) (o := .dK []) (t':=s.toks) (λ_ _ q=>yAD _ q) (yAG _) (zKJ s.heap I.big),rfl,h _ (I.hok.fresh (yAG _))⟩
end
structure M1 (X : Cx) (o : Expr) (m : Str) (apos : Pos) (e : Expr) (cpos : Pos) : Prop where
 base : attributeBase o m X.env (eval o X.env) = eval o X.env
 few : ((backTo cpos (starEach [e] X.env)).all (λx => !x.1)&&(backToKw cpos (keywordEach [] X.env)).all (λx=>x.1.isSome)
  && decide (([e] : List Expr).length + ([] : List Keyword).length + (if ([] : List Keyword).isEmpty then 0 else 1) < 30)) = true
 line : (apos.endLine == cpos.line) = true
 trees : backTo cpos (starEach [e] X.env) = [(false,eval e X.env)]
structure M2 (X : Cx) (o : Expr) (m : Str) (apos : Pos) (e f : Expr) (cpos : Pos) : Prop where
 base : attributeBase o m X.env (eval o X.env) = eval o X.env
 few : ((backTo cpos (starEach [e,f] X.env)).all (λx => !x.1)&&(backToKw cpos (keywordEach [] X.env)).all (λx=>x.1.isSome)
  && decide (([e,f] : List Expr).length + ([] : List Keyword).length + (if ([] : List Keyword).isEmpty then 0 else 1) < 30)) = true
 line : (apos.endLine == cpos.line) = true
 trees : backTo cpos (starEach [e,f] X.env) = [(false,eval e X.env),(false,eval f X.env)]
section
variable {X : Cx} {pins : List (Addr × Obj)} {σ : St} {H : Hp} {s : Shared} {a : Addr} {y d : V} {u r : Value} {o : Option V} {A : Around} {E : Value -> Shared -> Prop}
end
section
variable {X : Cx} {o e f : Expr} {apos cpos : Pos} {td ty tx : TE}
end
section
variable {X : Cx} {pins : List (Addr × Obj)} {σ : St} {H : Hp} {s : Shared} {a : Addr} {kvs : List (Key × V)} {A : Around} {E : Value -> Shared -> Prop}
end
section
variable {X : Cx} {pins : List (Addr × Obj)} {σ : St} {H : Hp} {s : Shared} {a : Addr} {y : V} {u : Value} {A : Around} {E : Value -> Shared -> Prop}
end
noncomputable def zEA (scope : Scope) (xs : List Str) (fv : List (Str × Nat)) : Bool :=
 (scope.kind == .function)&&(scope.names.all λy=>y.2 != .cell)&&(scope.names.all λy=>y.2 != .local||scope.names.lookup y.1 == some .local)&&(xs.all λx=>scope.names.lookup x == some .local) &&
 (scope.names.all λy=>y.2 != .free||(fv.map (·.1)).contains y.1)&&decide ((xs++fv.map (·.1)).Nodup)
structure CompOkT (scope : Scope) (xs : List Str) (fv : List (Str × Nat)) : Prop where
 kind : scope.kind = .function
 nocell : ∀ y∈scope.names,y.2 ≠ .cell
 names : ∀ y∈scope.names,y.2 = .local -> scope.names.lookup y.1 = some .local
 hx : ∀ x∈xs,scope.names.lookup x = some .local
 fr : ∀ y∈scope.names,y.2 = .free -> y.1∈fv.map (·.1)
 nd : (xs++fv.map (·.1)).Nodup
theorem zD8 {scope : Scope} {xs : List Str} {fv : List (Str × Nat)} (h : zEA scope xs fv = true) : CompOkT scope xs fv:=by
 unfold zEA at h;simp only [yAk,yCD,yDP,yAT,bne_iff_ne,yAe,List.contains_iff_mem,ne_eq] at h;obtain ⟨⟨⟨⟨⟨h1,h2⟩,h3⟩,h4⟩,h5⟩,h6⟩:=h;exact ⟨h1,h2,λy hy hl=>(h3 y hy).resolve_left λz=>z hl,h4,λy hy hl=>(h5 y hy).resolve_left λz=>z hl,h6⟩
noncomputable def cxT (X : Cx) (scope : Scope) (xs : List Str) (fv : List (Str × Nat)) (C : Addr) (s₀ : Shared) (H₀ : Hp) (ex : List Addr) (pn : List (Addr × Obj)) : Cx :=
 { X with N:=xs++fv.map (·.1),s₀ := s₀,H₀ := H₀,env:=compEnvC scope (zWG scope X.env) C X.env,outer:=X.stack,stack:=X.stack,ex:=ex,fn:=λ_=>false,pn:=pn,xe:=λ_ _=>False }
noncomputable def ρT (xs : List Str) (fv : List (Str × Nat)) (σ : St) : St:=xs.map (λ_=>none)++fv.map λp=>(σ[p.2]?).join
noncomputable def zHQ (xs : List Str) (a b : St) : Prop:=b.drop xs.length = a.drop xs.length
theorem zS8 {xs : List Str} {fv : List (Str × Nat)} {σ b : St} (h : zHQ xs (ρT xs fv σ) b) {j : Nat} {v : V} (e : (ρT xs fv σ)[j]? = some (some v)) : b[j]? = some (some v):=by
 unfold zHQ at h
 by_cases hj : j < xs.length
 ·unfold ρT at e
  rw [yBF (by simpa using hj),yAb] at e
  cases q : xs[j]? with
  | none=>rw [q] at e; cases e
  | some y=>rw [q] at e; cases e
 ·have ej : j = xs.length + (j - xs.length):=by lia
  have e1 : (ρT xs fv σ).drop xs.length = b.drop xs.length:=h.symm;rw [ej,<- yCm] at e;rw [ej,<- yCm,<- e1];exact e
noncomputable abbrev TB:=Addr -> St -> Hp -> (Hp -> Prop) -> Prop
noncomputable def PB (X : Cx) (body : Addr -> Env -> Sem Unit) (tb : TB) : Prop :=
 ∀ (pins : List (Addr × Obj)) (s : Shared) (σ : St) (H : Hp) (D : Addr) (N : Hp -> Prop),Inv X pins σ H s -> tb D σ H N -> wpAny (model X.prog X.w) X.A (body D X.env) (λ_ s'=>∃ H',Inv X pins σ H' s'/\N H') X.xe s
noncomputable def zD3 (o0 : HO) (xs : List Str) (fv : List (Str × Nat)) (g : TG) (tt : TT) (tb : TB) (σ : St) (J : It) (H1 : Hp) (Q : VK) : Prop :=
 ∀ D,H1 D = none -> ∃ W : Nat -> Nat -> Hp -> Prop,(∃ m,W 0 m (upd H1 D o0))/\∀ i m H,W i m H ->
  (J.stop i H/\Q (.ref D) H) \/ (J.go i H/\∃ N : Hp -> Prop,(∀ H',N H' -> ∃ m',m' < m/\W (i + 1) m' H')/\∀ x H',J.yld i H x H' -> g x (ρT xs fv σ) H' λσ2 H2=>zHQ xs (ρT xs fv σ) σ2/\tt σ2 H2 λb H3 =>
   if b = true then tb D σ2 H3 N else N H3)
noncomputable def zL2 (o0 : HO) (wi : TI) (xs : List Str) (fv : List (Str × Nat)) (g : TG) (tt : TT) (tb : TB) : TE:=λσ H Q=>wi σ H λJ H1=>zD3 o0 xs fv g tt tb σ J H1 Q
noncomputable def zO8 (X : Cx) (newAcc : Sem Value) (o0 : HO) : Prop :=
 ∀ (pins : List (Addr × Obj)) (σ : St) (H : Hp) (s : Shared) (E : Value -> Shared -> Prop) (Q : Value -> Shared -> Prop),Inv X pins σ H s ->
  (∀ s',Inv X pins σ (upd H s.heap.objs.size o0) s' -> s'.heap.objs.size = s.heap.objs.size + 1 -> (∀ b o,s.heap.get? b = some o -> s'.heap.get? b = some o) -> Q (.ref s.heap.objs.size) s') -> wpAny (model X.prog X.w) X.A newAcc Q E s
section
variable {X : Cx} {pins : List (Addr × Obj)} {σ : St} {scope : Scope} {xs : List Str} {fv : List (Str × Nat)} {e tg iter : Expr} {ifs : List Expr} {pos : Pos} {tt : TT} {tb : TB} {g : TG} {o0 : HO} {body : Addr -> Env -> Sem Unit} {newAcc : Sem Value}
theorem zDH {s₂ : Shared} {H2 : Hp} {it : Addr} {fp : List Addr} {tn : Nat -> Heap -> Prop} {J : It} {Q : VK} {E : Value -> Shared -> Prop} {RR : Value -> Addr -> Result -> Shared -> Prop}
  (hc : X.calm = true) (S : CompOkT scope xs fv) (hv : FvOk X scope fv)
  (ht : ∀ C s₀ H₀ ex pn,PTl (cxT X scope xs fv C s₀ H₀ ex pn) ifs tt) (hg : ∀ C s₀ H₀ ex pn,PG (cxT X scope xs fv C s₀ H₀ ex pn) tg g) (he : ∀ C s₀ H₀ ex pn,PB (cxT X scope xs fv C s₀ H₀ ex pn) body tb) (hnew : zO8 X newAcc o0)
  (hund : ∀ (it acc : Value) (env : Env),X.A.under (.compLoop e 0 it acc env) = X.A) (hden : ∀ (it acc : Value) (env : Env),(model X.prog X.w).den (.compLoop e 0 it acc env) = (compTurn e 0 it acc env).onRaise (λz=>do noteFrame z env; theTreesLotGoes z))
  (hturn : ∀ (it : Value) (D : Addr) (env : Env),compTurn e 0 it (.ref D) env = (do
   standAt iter.pos
   match <- pyNext it with
   | none=>pure (.done .next)
   | some v =>
    letOwnedTupleGo tg it v
    assign tg env v
    let mut ok:=true
    for c in ifs do
     if ok then ok <- isTrue c env (eval c env)
    if ok then
     body D env
    again (.compLoop e 0 it (.ref D) env)))
  (hstart : ∀ (it acc : Value) (env : Env) (R : Result -> Shared -> Prop) (s : Shared),codeAny (model X.prog X.w) X.A (.compLoop e 0 it acc env) R s -> wpAny (model X.prog X.w) X.A (pyIter it) (λit' s'=>codeAny (model X.prog X.w) X.A (.compLoop e 0 it' acc env) R s') (notedBy (model X.prog X.w) X.A env λx s'=>R (.error x) s') s ->
   codeAny (model X.prog X.w) X.A (.compStart e 0 it acc env) R s)
  (I2 : Inv X pins σ H2 s₂) (T : Turn X.prog X.w X.K tg J fp it tn) (st2 : tn 0 s₂.heap) (f2 : ∀ b∈fp,zF5 X pins H2 b) (hw : zD3 o0 xs fv g tt tb σ J H2 Q)
  (hRR : ∀ D C s' H' m,Inv X pins σ H' s' -> Q (.ref D) H' -> s'.heap.Ns C m -> zF5 X pins H' C -> RR (.ref D) C (.ok .next) s') :
  wpAny (model X.prog X.w) X.A newAcc (λacc s₃ => wpAny (model X.prog X.w) X.A (newFunctionEnv scope X.env.globals (zWG scope X.env) [] X.env.qual none .none (some X.env)) (λcenv s₄ =>
   codeAny (model X.prog X.w) X.A (.compStart e 0 (.ref it) acc { cenv with scope:=relabel scope X.env }) (RR acc cenv.locals) s₄) E s₃) E s₂ := by
 have kap : ∀ y : Str,(y,NameKind.free)∈scope.names -> (X.env.kindOf y = some .cell \/ X.env.kindOf y = some .free):=λy hy=>by
  obtain ⟨p,hp,e⟩:=yBA.mp (S.fr _ hy rfl);obtain ⟨j,hj⟩:=yAi hp;have q:=(hv.get hj).2.1;dsimp only at e;rw [e] at q;exact q
 have clk : ∀ y c,(zWG scope X.env).lookup y = some c -> X.env.cells.lookup y = some c:=λy c e=>by
  rcases zH7 (yBm e) with z | ⟨z,w⟩
  ·simp at z
  ·obtain ⟨c',e'⟩:=I2.ok.has y (kap y z)
   rw [e'] at w ⊢;rw [w]; rfl
 have hD0 : H2 s₂.heap.objs.size = none:=I2.fresh;refine hnew pins σ H2 s₂ E _ I2 λs₃ I3 hsz3 old3 => ?_;generalize hH3 : upd H2 s₂.heap.objs.size o0 = H3 at I3;refine wpAny_newFunctionEnv S.nocell (by intro y hy; simp at hy) (λh₁ hns₁ hsb₁ => ?_) S.kind;have old4 : ∀ b o,s₃.heap.get? b = some o -> h₁.get? b = some o:=λb o e=>hsb₁.extBut b o (yAh (yAI e)) (yAD _ e)
 have lt2 : ∀ b∈fp,b < s₂.heap.objs.size:=λb hb=>by
  obtain ⟨o,e,_⟩:=T.obj _ _ st2 b hb;exact yAI e
 have okX : (cxT X scope xs fv s₃.heap.objs.size s₃ H3 fp (X.pn++pins)).Ok:=by
  refine ⟨I2.ok.mod,?_,I2.ok.glob,I2.ok.blt,yAG _,λy z c e1 e2 => ?_,λy hy => ?_,λy c z => ?_,I2.ok.hd,I2.ok.frames,.inl rfl,λb hb => ?_,λb o e=>I3.bs b o e,yAz I3.ok.bsz I3.sz,λb o e hb => ?_,λb hb z => ?_,I3.stack,λb hb=>I3.stkFree b hb⟩
  ·exact S.kind
  ·exact I2.ok.inj y z c (clk y c e1) (clk z c e2)
  ·have hy' : (y,NameKind.free)∈scope.names:=by
    rcases hy with hy | hy
    ·rcases zFK (yBm hy) with z | z
     ·exact absurd rfl (S.nocell _ z)
     ·exact z
    ·rcases zFK (yBm hy) with z | z <;> exact z
   exact yCV.mp (zEX (env:=X.env) (acc:=[]) hy')
  ·cases z
  ·refine ⟨yAh (by rw [hsz3]; exact yCI (lt2 b hb)),λy c e=>(f2 b hb).2.2.2.2.1 y c (clk y c e)⟩
  ·rcases (f2 b hb).2.2.2.1 with z | z
   ·exact I2.ok.noex b o e z
   ·exact absurd (yAg (yAI e) (yAz I2.ok.bsz z)) (yBk _)
  ·rcases yAd.mp (I2.stkSub b z) with w | w
   ·exact (f2 b hb).2.1 w
   ·exact (f2 b hb).2.2.1 w
 have C0 : H3 s₃.heap.objs.size = none:=I3.fresh
 have I4 : Inv (cxT X scope xs fv s₃.heap.objs.size s₃ H3 fp (X.pn++pins)) [] (ρT xs fv σ) H3 { s₃ with heap:=h₁,toks:=s₃.toks + ([] : List (Str × Value)).length }:=by
  refine ⟨okX,rfl,I3.bare,Un.kept old4,⟨_,hns₁,λi y v e1 e2 e3 => ?_⟩,λy c e => ?_,C0,λy c e=>I3.freeC y c (clk y c e),λp hp => ?_,I3.hok.kept old4,?_⟩
  ·have hi : ¬ i < xs.length:=λhi=>by
    have e2':=e2;unfold ρT at e2';rw [yBF (by simpa using hi),yAb] at e2'
    cases q : xs[i]? with
    | none=>rw [q] at e2'; cases e2'
    | some y=>rw [q] at e2'; cases e2'
   obtain ⟨j,rfl⟩ : ∃ j,i = xs.length + j:=⟨i - xs.length,by lia⟩
   have e1' : (fv.map (·.1))[j]? = some y:=by
    have q : (xs++fv.map (·.1))[xs.length + j]? = some y:=e1;rw [yBC (by lia)] at q
    simpa using q
   have e2' : (fv.map λp=>(σ[p.2]?).join)[j]? = some (some v):=by
    have q : (xs.map (λ_=>(none : Option V))++fv.map λp=>(σ[p.2]?).join)[xs.length + j]? = some (some v):=e2;rw [yBC (by simp)] at q
    simpa using q
   rw [yAb] at e1' e2'
   cases ep : fv[j]? with
   | none=>rw [ep] at e1'; cases e1'
   | some p =>
    rw [ep] at e1' e2';have ey : p.1 = y:=by simpa using e1'
    have ev : (σ[p.2]?).join = some v:=by simpa using e2'
    obtain ⟨q1,q2,q3⟩:=hv.get ep;rw [ey] at q1 q2 q3
    have ev' : σ[p.2]? = some (some v):=by
     cases es : σ[p.2]? with
     | none=>rw [es] at ev; cases ev
     | some w=>rw [es] at ev; cases w with
      | none=>cases ev
      | some w'=>cases ev; rfl
    obtain ⟨m,hn,hl⟩:=I3.loc;obtain ⟨u,r,lk⟩:=hl p.2 y v q1 ev' (by rcases q2 with z | z; exact .inr (.inl z); exact .inr (.inr z));refine ⟨u,r,.inr ⟨zEP q3,?_⟩⟩;obtain ⟨c,e⟩:=yCV.mp (zEX (env:=X.env) (acc:=[]) (yBm q3));refine ⟨c,e,?_⟩
    rcases lk with ⟨k,_⟩ | ⟨_,c',e',z⟩
    ·rcases q2 with w | w
     ·rw [show X.env.kindOf y = _ from w] at k; cases k
     ·rw [show X.env.kindOf y = _ from w] at k; cases k
    ·rw [clk y c e] at e'
     cases e'
     obtain ⟨o,ho,hd⟩:=z;exact ⟨o,old4 _ _ ho,hd⟩
  ·obtain ⟨v,o,ho,hd⟩:=I3.cell y c (clk y c e)
   exact ⟨v,o,old4 _ _ ho,hd⟩
  ·have hp' : p∈X.pn++pins:=by simpa [cxT] using hp
   obtain ⟨e,n,ne,nf,d⟩:=I3.pin p hp';exact ⟨old4 _ _ e,n,yAh (yAI e),λz=>(yAd.mp (I3.stkSub p.1 z)).elim ne nf,d⟩
  ·simp [ρT,cxT]
 have fpX : ∀ {H' : Hp},(∀ b∈fp,H' b = none) -> ∀ b∈fp,zF5 (cxT X scope xs fv s₃.heap.objs.size s₃ H3 fp (X.pn++pins)) [] H' b:=λhn b hb =>
  ⟨hn b hb,yAh (by show b < s₃.heap.objs.size; rw [hsz3]; exact yCI (lt2 b hb)),okX.exfs b hb,.inl hb,(okX.exf b hb).2,λp hp=>by
   have hp' : p∈X.pn++pins:=by simpa [cxT] using hp
   exact (f2 b hb).2.2.2.2.2 p hp'⟩
 have tn4 : tn 0 h₁ := T.keep _ _ _ st2 λb _ o e=>old4 b o (old3 b o e)
 have fr4 : ∀ b∈fp,H3 b = none:=λb hb=>by
  rw [<- hH3,zA7 (yAh (lt2 b hb))];exact (f2 b hb).1
 have back : ∀ {H' : Hp} {σ' : St} {pl : List (Addr × Obj)} {s' : Shared},Inv (cxT X scope xs fv s₃.heap.objs.size s₃ H3 fp (X.pn++pins)) pl σ' H' s' -> Inv X pins σ H' s'/\(∃ m,s'.heap.Ns s₃.heap.objs.size m)/\zF5 X pins H' s₃.heap.objs.size:=λ{H' σ' pl s'} I'=>by
  refine ⟨I3.call' I'.os I'.base I'.hok I'.bare λb hb=>⟨(f2 b hb).2.2.2.1,(f2 b hb).2.1,(f2 b hb).2.2.2.2.1,(f2 b hb).2.2.2.2.2⟩,?_,I3.fpOk (yAG _) I'.free⟩;obtain ⟨m,hn,_⟩:=I'.loc;exact ⟨m,hn⟩
 obtain ⟨W,⟨m0,w0⟩,turn⟩:=hw s₂.heap.objs.size hD0;rw [hH3] at w0
 have loop : codeAny (model X.prog X.w) X.A (.compLoop e 0 (.ref it) (.ref s₂.heap.objs.size) (cxT X scope xs fv s₃.heap.objs.size s₃ H3 fp (X.pn++pins)).env)
   (RR (.ref s₂.heap.objs.size) s₃.heap.objs.size) { s₃ with heap:=h₁,toks:=s₃.toks + ([] : List (Str × Value)).length }:=by
  refine codeAny_loop rfl (λn s'=>∃ i H',Inv (cxT X scope xs fv s₃.heap.objs.size s₃ H3 fp (X.pn++pins)) [] (ρT xs fv σ) H' s'/\tn i s'.heap/\(∀ b∈fp,H' b = none)/\W i n H') (λn s5 hI => ?_) m0 ⟨0,H3,I4,tn4,fr4,w0⟩;obtain ⟨i,H5,I5,st5,fr5,w5⟩:=hI;rw [hund,hden];refine wpAny_noted ?_;rw [hturn];refine yAA (yCO (yAA ?_))
  rcases turn i n H5 w5 with ⟨stop,qn⟩ | ⟨go,N,hN,step⟩
  ·refine yBO (T.done (cxT X scope xs fv s₃.heap.objs.size s₃ H3 fp (X.pn++pins)) rfl rfl rfl hc i [] s5 _ H5 (λ_ _=>False) I5 (fpX fr5) st5 stop) (λr s6 hM => ?_) λ_ _ z=>z.elim
   obtain ⟨hr,I6⟩:=hM;subst hr;obtain ⟨b1,⟨m,b2⟩,b3⟩:=back I6;exact yAH (hRR _ _ _ _ _ b1 qn b2 b3)
  ·refine yBO (T.item (cxT X scope xs fv s₃.heap.objs.size s₃ H3 fp (X.pn++pins)) rfl rfl rfl hc i [] s5 _ H5 (λ_ _=>False) I5 (fpX fr5) st5 go) (λr s6 hM => ?_) λ_ _ z=>z.elim
   obtain ⟨u,hr,h6⟩:=hM;subst hr;refine yAA (yBO h6 (λ_ s7 hM => ?_) λ_ _ z=>z.elim);obtain ⟨y,H7,I7,r7,y7,st7,fr7⟩:=hM;have I7':=I7.pinned (fpX fr7) (T.obj _ _ st7);refine yAA (yBO (hg _ _ _ _ _ _ s7 _ H7 y u _ I7' r7 (step y H7 y7)) (λ_ s8 hM => ?_) λ_ _ z=>z.elim);obtain ⟨σ8,H8,I8,keep8,q8⟩:=hM
   have again : ∀ {H9 : Hp} {s9 : Shared},Inv (cxT X scope xs fv s₃.heap.objs.size s₃ H3 fp (X.pn++pins)) ([]++zIZ fp s7.heap) σ8 H9 s9 -> (∃ m',m' < n/\W (i + 1) m' H9) ->
     ∃ m,m < n/\∃ i H',Inv (cxT X scope xs fv s₃.heap.objs.size s₃ H3 fp (X.pn++pins)) [] (ρT xs fv σ) H' s9/\tn i s9.heap/\(∀ b∈fp,H' b = none)/\W i m H':=λ{H9 s9} I9 ⟨m',hm,w9⟩=>by
    refine ⟨m',hm,i + 1,H9,(I9.unpinned).weak (by rw [I9.len]; simp [ρT,cxT]) (λj v e=>zS8 keep8 e),T.keep _ _ _ st7 λb hb o e=>(I9.pin (b,o) (yAM _ (yAM _ (zDC hb e)))).1,λb hb => ?_,w9⟩;obtain ⟨o,e,d⟩:=T.obj _ _ st7 b hb;exact (I9.pin (b,o) (yAM _ (yAM _ (zDC hb e)))).2.1
   refine yAA (yBO (ht _ _ _ _ _ _ s8 _ H8 _ I8 q8) (λok s9 hM => ?_) λ_ _ z=>z.elim);obtain ⟨H9,I9,q9⟩:=hM
   cases ok with
   | false =>
    rw [yAN (by simp)] at q9;exact yAH ⟨rfl,again I9 (hN _ q9)⟩
   | true =>
    rw [yAK rfl] at q9;refine yAA (yBO (he _ _ _ _ _ _ s9 _ H9 _ _ I9 q9) (λ_ s11 hM => ?_) λ_ _ z=>z.elim);obtain ⟨H11,I11,q11⟩:=hM;exact yAH ⟨rfl,again I11 (hN _ q11)⟩
 exact hstart _ _ _ _ _ loop (T.self X.A 0 _ _ _ tn4 loop)
end
section
variable {X : Cx} {pins : List (Addr × Obj)} {σ : St} {H : Hp} {s : Shared} {scope : Scope} {xs : List Str} {fv : List (Str × Nat)} {elt kx vx tg iter : Expr} {ifs : List Expr} {pos : Pos} {tt : TT} {te tk tv : TE} {g : TG}
noncomputable def tbL (te : TE) : TB:=λD σ H N=>te σ H λy H3=>∃ ys,H3 D = some (.lst ys)/\ys.length < sizeLine/\N (upd H3 D (.lst (ys++[y])))
noncomputable def tbD (tk tv : TE) : TB:=λD σ H N=>tk σ H λk H1=>tv σ H1 λv H2=>∃ kvs key,H2 D = some (.dK kvs)/\k = kV key/\kvs.length < sizeLine/\N (upd H2 D (.dK (zGN kvs key v)))
noncomputable abbrev zZZ (elt : Expr) : Addr -> Env -> Sem Unit:=λD env=>do let _ <- call (.builtin "list.append") [.ref D,<- eval elt env]
noncomputable abbrev zZI (kx vx : Expr) : Addr -> Env -> Sem Unit:=λD env=>do
 let kv <- eval kx env
 let vv <- holding [kv] (eval vx env)
 standAt { kx.pos with endLine:=vx.pos.endLine,endCol:=vx.pos.endCol }
 holding [kv,vv] (dictSet D kv vv)
theorem zN9 (he : PE X elt te) : PB X (zZZ elt) (tbL te):=by
 intro pins s σ H D N I h;refine yAA (thn (he pins s σ H _ I h) λv s1 hM => ?_);obtain ⟨y,H1,I1,r1,ys,hD,hz,q⟩:=hM;refine yAA (yBO (zBC pins s1 σ H1 (.ref D) [y] (.ref D) [v] (λ_ H2=>H2 = upd H1 D (.lst (ys++[y]))) I1 rfl (.cons r1 .nil) ⟨_,ys,y,rfl,rfl,hD,hz,rfl⟩) (λ_ s2 hM => ?_) λ_ _ z=>z);obtain ⟨_,H2,I2,_,e2⟩:=hM;subst e2;exact yAH ⟨_,I2,q⟩
theorem zV9 (hk : PE X kx tk) (hv : PE X vx tv) : PB X (zZI kx vx) (tbD tk tv):=by
 intro pins s σ H D N I h;refine yAA (thn (hk pins s σ H _ I h) λu s1 hM => ?_);obtain ⟨k,H1,I1,r1,q1⟩:=hM;refine yAA (yBd (thn (hv pins s1 σ H1 _ I1 q1) λv s2 hM => ?_));obtain ⟨y,H2,I2,r2,q2⟩:=hM;refine yAA (yCO (yBd ?_));obtain ⟨kvs,key,e,ek,l,q⟩:=q2;subst ek;obtain ⟨z,hd,vs,rel,dd⟩:=zU3 I2.hok e;have hz : vs.length <= sizeLine:=by rw [<- rel.length]; exact z
 have hl : (zGN kvs key y).length <= sizeLine:=by have:=zCV kvs key y; lia
 refine wpAny_dictSet_pairs (knd:=zAM X.prog X.w) (hsz:=hz) (zJN r1) dd λh' dd' hs => ?_;have he : ∃ q,h'.get? D = some q:=let ⟨q,_,_,hq,_⟩:=dd'; ⟨q,hq⟩;exact ⟨_,zK1 I2 (by rw [e]; exact True.intro) hs he (zSY hl hd (rel.put key r2) dd'),q⟩
theorem zKM : zO8 X (newList []) (.lst []):=by
 intro pins σ H s E Q I h;refine yBQ (h _ (I.lnew (t':=s.toks) (its:=[]) .nil (yAy _)) (yCi ..) λb o e=>yAD _ e)
theorem zSO : zO8 X newDict (.dK []):=by
 intro pins σ H s E Q I h;refine yBQ (h _ (I.laid (a:=s.heap.objs.size) (o := .dK []) (t':=s.toks) (λ_ _ q=>yAD _ q) (yAG _) (zKJ s.heap I.big)) (yCi ..) λb o e=>yAD _ e)
theorem zYR (I : Inv X pins σ H s) (S : CompOkT scope xs fv) (hv : FvOk X scope fv) : closureFor scope X.env = pure (zWG scope X.env):=zM7 λp hp hk=>by
 obtain ⟨q,hq,e⟩:=yBA.mp (S.fr _ hp hk);obtain ⟨j,hj⟩:=yAi hq;have z:=(hv.get hj).2.1;rw [e] at z;exact yCV.mpr (I.ok.has _ z)
theorem zB8 {wi : TI} (hc : X.calm = true) (hs : zEA scope xs fv = true) (hv : FvOk X scope fv) (hi : PI X tg iter wi) (hg : ∀ C s₀ H₀ ex pn,PG (cxT X scope xs fv C s₀ H₀ ex pn) tg g)
  (ht : ∀ C s₀ H₀ ex pn,PTl (cxT X scope xs fv C s₀ H₀ ex pn) ifs tt) (he : ∀ C s₀ H₀ ex pn,PE (cxT X scope xs fv C s₀ H₀ ex pn) elt te)
  (hf : ∀ x,foldedSetIterable iter X.env x = pure x:=by intro _; rfl) : PE X (.ListComp elt [⟨tg,iter,ifs,0⟩] scope pos) (zL2 (.lst []) wi xs fv g tt (tbL te)):=by
 intro pins s σ H Q I h;have S:=zD8 hs;rw [eval_ListComp];refine yDz (use:=none) rfl hf (zYR I S hv) S.kind S.names (thn (hi pins s σ H _ I h) λv s1 h1=>thn h1 λitv s2 h2 => ?_);obtain ⟨it,fp,tn,J,H2,e,I2,T,st2,f2,hw⟩:=h2;subst e;refine zDH (e := .ListComp elt [⟨tg,iter,ifs,0⟩] scope pos) (iter:=iter) (RR:=λacc C=>compPost (model X.prog X.w) X.A X.xe none (EP X pins σ Q) acc C) hc S hv ht hg (λC s₀ H₀ ex pn=>zN9 (he C s₀ H₀ ex pn)) zKM (λ_ _ _=>rfl) (λ_ _ _=>rfl) (λit D env=>compTurn_list ..) (λ_ _ _ _ _ a b=>codeAny_compStart_list a b) I2 T st2 f2 hw ?_;intro D C s' H' m I' q hn fC;exact ⟨m,hn,λh' hs'=>⟨.ref D,H',I'.turned (t':=s'.toks) (λb o hb e=>(hs'.2 b hb).trans e) fC.1 fC.2.1 fC.2.2.2.1 fC.2.2.2.2.1 fC.2.2.2.2.2,rfl,q⟩⟩
theorem zR9 {wi : TI} (hc : X.calm = true) (hs : zEA scope xs fv = true) (hv : FvOk X scope fv) (hi : PI X tg iter wi) (hg : ∀ C s₀ H₀ ex pn,PG (cxT X scope xs fv C s₀ H₀ ex pn) tg g)
  (ht : ∀ C s₀ H₀ ex pn,PTl (cxT X scope xs fv C s₀ H₀ ex pn) ifs tt) (hk : ∀ C s₀ H₀ ex pn,PE (cxT X scope xs fv C s₀ H₀ ex pn) kx tk) (hx : ∀ C s₀ H₀ ex pn,PE (cxT X scope xs fv C s₀ H₀ ex pn) vx tv)
  (hf : ∀ x,foldedSetIterable iter X.env x = pure x:=by intro _; rfl) : PE X (.DictComp kx vx [⟨tg,iter,ifs,0⟩] scope pos) (zL2 (.dK []) wi xs fv g tt (tbD tk tv)):=by
 intro pins s σ H Q I h;have S:=zD8 hs;have ev : eval (.DictComp kx vx [⟨tg,iter,ifs,0⟩] scope pos) X.env = comprehension (.DictComp kx vx [⟨tg,iter,ifs,0⟩] scope pos) scope X.env (firstIterPos [⟨tg,iter,ifs,0⟩] pos) newDict (firstAsync [⟨tg,iter,ifs,0⟩]) (firstIter [⟨tg,iter,ifs,0⟩] X.env):=rfl;rw [ev];refine yDz (use:=none) rfl hf (zYR I S hv) S.kind S.names (thn (hi pins s σ H _ I h) λv s1 h1=>thn h1 λitv s2 h2 => ?_);obtain ⟨it,fp,tn,J,H2,e,I2,T,st2,f2,hw⟩:=h2;subst e;refine zDH (e := .DictComp kx vx [⟨tg,iter,ifs,0⟩] scope pos) (iter:=iter) (RR:=λacc C=>compPost (model X.prog X.w) X.A X.xe none (EP X pins σ Q) acc C) hc S hv ht hg (λC s₀ H₀ ex pn=>zV9 (hk C s₀ H₀ ex pn) (hx C s₀ H₀ ex pn)) zSO (λ_ _ _=>rfl) (λ_ _ _=>rfl) (λit D env=>compTurn_dict ..) (λ_ _ _ _ _ a b=>codeAny_compStart_dict a b) I2 T st2 f2 hw ?_;intro D C s' H' m I' q hn fC;exact ⟨m,hn,λh' hs'=>⟨.ref D,H',I'.turned (t':=s'.toks) (λb o hb e=>(hs'.2 b hb).trans e) fC.1 fC.2.1 fC.2.2.2.1 fC.2.2.2.2.1 fC.2.2.2.2.2,rfl,q⟩⟩
end
theorem Inv.pair {X : Cx} {pins : List (Addr × Obj)} {σ : St} {H : Hp} {s : Shared} {e it : Addr} {h' : Heap} {t' : Nat} {a b : V} {u v : Value} (I : Inv X pins σ H s) (fe : zF5 X pins H e) (fi : zF5 X pins H it)
  (k : ∀ b o,b≠e -> b≠it -> s.heap.get? b = some o -> h'.get? b = some o) (he : ∃ o,h'.get? e = some o) (hi : ∃ o,h'.get? it = some o) (ht : h'.get? s.heap.objs.size = some { cls := .type "tuple",data := .seq #[u,v] }) (ra : RelV a u) (rb : RelV b v) :
  Inv X pins σ (upd H s.heap.objs.size (.tup [a,b])) { s with heap:=h',toks:=t' }:=by
 have hn : H s.heap.objs.size = none:=I.hok.fresh (yAG _);have ne : ∀ c u,H c = some u -> c≠e/\c≠it:=λc u q=>⟨(λz=>by rw [z,fe.1] at q; cases q),(λz=>by rw [z,fi.1] at q; cases q)⟩;have two : ∀ {c : Addr},c∉[e,it] -> c≠e/\c≠it:=λhc=>by simpa using hc
 refine I.call' (ch:=[e,it]) (s':={ s with heap:=h',toks:=t' }) rfl ⟨λc o q _ _ hx=>k c o (two hx).1 (two hx).2 q,λc o q _ _ hx=>⟨o.slots,k c o (two hx).1 (two hx).2 q⟩,λc o q n _ => ?_,λc o q hx=>⟨o,k c o (two hx).1 (two hx).2 q⟩,λc xs q => ?_,λc o u q => ?_,λc ps q => ?_⟩ ?_ I.bare ?_
 ·rw [zA7 (yAh (yAI q))]; exact n
 ·rw [zA7 (zA6 q hn)]; exact q
 ·rw [zA7 (zA6 q hn)]; exact q
 ·exact ⟨#[],by rw [zA7 (zA6 q hn),q]; simp⟩
 ·intro c o q
  by_cases hc : c = s.heap.objs.size
  ·subst hc
   rw [zA1] at q
   cases q
   exact ⟨by show 2 <= sizeLine; decide,[u,v],.cons ra (.cons rb .nil),⟨_,ht,rfl,_,rfl⟩⟩
  ·rw [zA7 hc] at q
   refine (I.hok c o q).stay (λd w hd z => ?_) (λd z=>by rw [zA7 (zA6 z hn)]; exact z) λd xs z=>by rw [zA7 (zA6 z hn)]; exact z
   rcases hd with rfl | hd
   ·exact k _ _ (ne _ _ q).1 (ne _ _ q).2 z
   ·exact k _ _ (ne _ _ hd).1 (ne _ _ hd).2 z
 ·intro c hc
  rcases yAd.mp hc with rfl | hc
  ·exact ⟨fe.2.2.2.1,fe.2.1,fe.2.2.2.2.1,fe.2.2.2.2.2⟩
  ·rw [yAJ.mp hc]; exact ⟨fi.2.2.2.1,fi.2.1,fi.2.2.2.2.1,fi.2.2.2.2.2⟩
noncomputable def Ite (K : PySem.W.Frag) (a : Addr) : It :=
 ⟨λi H=>∃ xs x,SqL K H a xs/\xs[i]? = some x,λi H v H'=>∃ p x,H p = none/\v = .ref p/\(∀ xs,SqL K H a xs -> xs[i]? = some x)/\H' = upd H p (.tup [.int (i : Nat),x]),λi H=>∃ xs,SqL K H a xs/\xs.length = i⟩
theorem zPF {P : Program} {w : World} {K : PySem.W.Frag} {elts : List Expr} {x1 : Nat} {pos : Pos} (a e it : Addr) (hne : e≠it) :
  Turn P w K (.Tuple elts x1 pos) (Ite K a) [e,it] e (λi h=>(∃ old,IsEnum h e it (i : Nat) old)/\h.IsListIter it a i) where
 mem:=by simp
 obj:=λi h st b hb=>by
  obtain ⟨⟨old,se⟩,o,eo,c,d⟩:=st
  rcases yAd.mp hb with rfl | hb
  ·exact ⟨_,se,λv z=>by cases z⟩
  ·rw [yAJ.mp hb]
   exact ⟨o,eo,λv z=>by rw [d] at z; cases z⟩
 keep:=λi h h' st k=>⟨let ⟨old,se⟩:=st.1; ⟨old,k e (by simp) _ se⟩,st.2.at λo q=>k it (by simp) o q⟩
 item:=by
  intro X hP hw hK hc i pins s σ H E I hf st hg;subst hP hw hK;obtain ⟨xs,x,hq,hx⟩:=hg;obtain ⟨its,rv,p,hz⟩:=I.list hq;obtain ⟨u,hu,ru⟩:=rv.get hx;obtain ⟨⟨old,se⟩,si⟩:=st;have fe:=hf e (by simp);have fi:=hf it (by simp);have hel : e < s.heap.objs.size:=yAI se;refine wpAny_pyNext_enum_item se si p.isList (x:=u) (by simpa using hu) hne λh1 so si1 ht hsz kk => ?_;refine ⟨_,rfl,wpAny_letOwnedTupleGo_enum so λh2 se2 sb => ?_⟩;have sb' : Heap.SameBut e h1 h2:=sb;have si2 : h2.IsListIter it a (i + 1):=si1.extBut sb'.extBut hne.symm;have hn : H s.heap.objs.size = none:=I.hok.fresh (yAG _);have ht2 : h2.get? s.heap.objs.size = some { cls := .type "tuple",data := .seq #[.int i s.toks,u] }:=(sb'.2 _ (yBi hel)).trans ht;refine ⟨.ref s.heap.objs.size,_,I.pair (a := .int (i : Nat)) (b:=x) fe fi (λb o h1 h2' q=>(sb'.2 b h1).trans (kk b o h1 h2' q)) ⟨_,se2⟩ (let ⟨o,q,_⟩:=si2; ⟨o,q⟩) ht2 ⟨_,rfl⟩ ru,rfl,⟨_,x,hn,rfl,λys hy=>by rw [I.list_inj hy hq]; exact hx,rfl⟩,⟨⟨u,?_⟩,si2⟩,λb hb => ?_⟩
  ·have : ((i + 1 : Nat) : Int) = (i : Int) + 1:=by lia
   rw [this]; exact se2
  ·rw [zA7]
   ·exact (hf b hb).1
   ·intro z
    rcases yAd.mp hb with q | q
    ·rw [z] at q; exact absurd q (yBi hel)
    ·obtain ⟨o,q2,_⟩:=si
     rw [z] at q; exact absurd (yAJ.mp q) (yBi (yAI q2))
 done:=by
  intro X hP hw hK hc i pins s σ H E I hf st hg;subst hP hw hK;obtain ⟨xs,hq,hx⟩:=hg;obtain ⟨its,rv,p,hz⟩:=I.list hq;obtain ⟨⟨old,se⟩,si⟩:=st;obtain ⟨f0,f1,f2,f3,f4,f5⟩:=hf it (by simp);have hl:=rv.length;exact wpAny_pyNext_enum_end (I.ok.hd hc) se si p.isList (by simp; lia) λh' eb=>⟨rfl,I.turned (t':=s.toks) (λb o hb e=>eb b o hb e) f0 f1 f3 f4 f5⟩
 self:=λ_ _ _ _ _ st h=>let ⟨_,se⟩:=st.1; yDx se h
noncomputable def zQC (acc : List Key) (k : Key) : Bool:=acc.any λy=>decide (y = k)
theorem memK_iff {acc : List Key} {k : Key} : zQC acc k = true ↔ k∈acc:=by
 unfold zQC;rw [yCC];refine ⟨λhM => ?_,λh=>⟨k,h,yAZ rfl⟩⟩;obtain ⟨y,h,e⟩:=hM;exact (yAl e) ▸ h
noncomputable def zQD (acc : List Key) (k : Key) : List Key:=if zQC acc k = true then acc else acc++[k]
noncomputable def zBI (ks : List Key) : List Key:=ks.foldl zQD []
theorem zD9 (ks : List Key) (k : Key) : zBI (ks++[k]) = zQD (zBI ks) k:=by unfold zBI; rw [yED]; rfl
theorem zUD (acc : List Key) (k : Key) : (zQD acc k).length <= acc.length + 1:=by unfold zQD; split <;> simp
theorem zKT : ∀ (n : Nat) (ks : List Key),ks.length = n -> (zBI ks).length <= n:=by
 intro n
 induction n with
 | zero=>intro ks h; rw [yDM.mp h]; exact yAG _
 | succ n ih =>
  intro ks h;have hne : ks≠[]:=λe=>by rw [e] at h; cases h
  obtain ⟨ds,c,rfl⟩ : ∃ ds c,ks = ds++[c]:=⟨_,_,(yCn hne).symm⟩
  have:=ih ds (by simpa using h)
  have:=zUD (zBI ds) c
  rw [zD9]; lia
theorem zI7 : ∀ (n : Nat) (ks : List Key),ks.length = n -> ∀ k,k∈zBI ks ↔ k∈ks:=by
 intro n
 induction n with
 | zero=>intro ks h k; rw [yDM.mp h]; exact Iff.rfl
 | succ n ih =>
  intro ks h k;have hne : ks≠[]:=λe=>by rw [e] at h; cases h
  obtain ⟨ds,c,rfl⟩ : ∃ ds c,ks = ds++[c]:=⟨_,_,(yCn hne).symm⟩;have q:=ih ds (by simpa using h);rw [zD9];unfold zQD
  split
  ·rename_i hm
   rw [memK_iff,q] at hm;rw [q,yAm,yAJ];exact ⟨.inl,λz=>z.elim id λe=>e ▸ hm⟩
  ·rw [yAm,yAm,q]
theorem zHR : ∀ (n : Nat) (ks : List Key),ks.length = n -> ((zBI ks).length = ks.length ↔ ks.Nodup):=by
 intro n
 induction n with
 | zero=>intro ks h; rw [yDM.mp h]; simp [zBI]
 | succ n ih =>
  intro ks h;have hne : ks≠[]:=λe=>by rw [e] at h; cases h
  obtain ⟨ds,c,rfl⟩ : ∃ ds c,ks = ds++[c]:=⟨_,_,(yCn hne).symm⟩;have hl : ds.length = n:=by simpa using h
  have q:=ih ds hl;have le:=zKT n ds hl;rw [zD9,yDS];unfold zQD
  split
  ·rename_i hm
   rw [memK_iff,zI7 n ds hl] at hm
   constructor
   ·intro z; rw [yAU,yEU] at z; lia
   ·intro z; exact absurd rfl (z.2.2 c hm c (by simp))
  ·rename_i hm
   rw [memK_iff,zI7 n ds hl] at hm;rw [yAU,yAU,yEU]
   constructor
   ·intro z
    refine ⟨q.mp (by lia),by simp,λa ha b hb e=>hm ?_⟩;rw [yAJ.mp hb] at e;exact e ▸ ha
   ·intro z; have:=q.mpr z.1; lia
section
variable {P : Program} {w : World} {A : Around} {R : Result -> Shared -> Prop} {J S : Addr} {fp wr : List Addr} {n : Nat} {Pv : Nat -> Value -> Prop} {St : Nat -> Heap -> Prop}
noncomputable def HasK (P : Program) (w : World) (h : Heap) (S : Addr) (ks : List Key) : Prop:=h.SetOf (zAM P w) S (λx=>zQC (zBI ks) x) (zBI ks).length
theorem HasK.keep {h h' : Heap} {ks : List Key} (x : HasK P w h S ks) (k : ∀ o,h.get? S = some o -> h'.get? S = some o) : HasK P w h' S ks:=let ⟨o,es,ep,t,ho,r⟩:=x; ⟨o,es,ep,t,k _ ho,r⟩
theorem zLR (W : Walks P w A.in1 J fp wr n Pv St) (hSf : S∉fp) (ks : List Key) (hn : ks.length = n) (hkey : ∀ i v,Pv i v -> ∃ k,ks[i]? = some k/\(zAM P w).is k v = true/\v.scannable = true) (hb : n + 1 < scanBound) :
  ∀ (m i : Nat) (s : Shared),n - i = m -> i <= n -> St i s.heap -> HasK P w s.heap S (ks.take i) ->
   (∀ h' tk,(∀ b o,b≠S -> b∉wr -> s.heap.get? b = some o -> h'.get? b = some o) -> HasK P w h' S ks -> R (.ok (.ret .none)) { s with heap:=h',toks:=tk }) ->
   codeAny (model P w) A (.builtin "set.update.loop" ⟨[.ref S,.ref J],[]⟩) R s:=by
 have hSw : S∉wr:=λz=>hSf (W.sub _ z);intro m
 induction m with
 | zero =>
  intro i s hm hi st hS hR;obtain rfl : i = n:=by lia
  refine yCJ PyProof.Rows.F.entry_set_update_loop ?_;rw [yDd yCw _];show wpAny _ A.in1 (pyNext (.ref J) >>= _) _ _ s;refine yAA (W.done s _ _ st λh2 tk kk => ?_);rw [yAt (by lia)] at hS;exact yAH (hR h2 tk (λb o _ hw q=>kk b o hw q) (hS.keep λo q=>kk S o hSw q))
 | succ m ih =>
  intro i s hm hi st hS hR;refine yCJ PyProof.Rows.F.entry_set_update_loop ?_;rw [yDd yCw _];show wpAny _ A.in1 (pyNext (.ref J) >>= _) _ _ s;refine yAA (W.item i s _ _ (by lia) st λv h2 tk pv st2 kk => ?_);obtain ⟨k,hk,his,hsc⟩:=hkey i v pv;have hS2:=hS.keep λo q=>kk S o hSw q;show wpAny _ A.in1 (holding [v] (setAdd S v) >>= _) _ _ _;refine yAA (yBd ?_);unfold setAdd;refine yBd (yAA ((zAM P w).pyHash (k:=k) his ?_))
  have hroom : (zBI (ks.take i)).length + 1 < scanBound:=by
   have:=zKT _ (ks.take i) rfl
   rw [yAf] at this;lia
  refine wpAny_setAddHashed_of (knd:=zAM P w) his hsc hS2 hroom λh3 sb hS3 => ?_;have et : ks.take (i + 1) = ks.take i++[k]:=by rw [yBX,hk]; rfl
  have hS4 : HasK P w h3 S (ks.take (i + 1)):=by
   unfold HasK;rw [et,zD9]
   have e1 : (λx=>zQC (zQD (zBI (ks.take i)) k) x) = λx=>zQC (zBI (ks.take i)) x||decide (x = k):=funext λx=>by
    rw [yAr,yDP,memK_iff,memK_iff,yAT];unfold zQD
    by_cases hx : zQC (zBI (ks.take i)) k = true
    ·rw [yAK hx]
     exact ⟨.inl,λz=>z.elim id λe=>e ▸ memK_iff.mp hx⟩
    ·rw [yAN hx,yAm,yAJ]
   have e2 : (zQD (zBI (ks.take i)) k).length = if zQC (zBI (ks.take i)) k = true then (zBI (ks.take i)).length else (zBI (ks.take i)).length + 1:=by
    unfold zQD
    by_cases hx : zQC (zBI (ks.take i)) k = true
    ·rw [yAK hx,yAK hx]
    ·rw [yAN hx,yAN hx,yAU]; rfl
   rw [e1,e2];exact hS3
  refine yAH ⟨plainId_quiet yCw _,ih (i + 1) _ (by lia) (by lia) (W.frame _ _ _ st2 λb hbf o q => ?_) hS4 λh4 tk4 kk4 hS5 => ?_⟩
  ·exact (sb.2 b (λz=>hSf (z ▸ hbf))).trans q
  ·exact hR h4 tk4 (λb o hbS hbw q=>kk4 b o hbS hbw ((sb.2 b hbS).trans (kk b o hbw q))) hS5
end
noncomputable abbrev zAW (led : Bool) : Obj:={ cls := .type "set",dict:=none,data := .set #[] 0 (.fresh 0 0 led) }
theorem zKD {P : Program} {w : World} {h : Heap} {S : Addr} {led : Bool} (q : h.get? S = some (zAW led)) : HasK P w h S []:=⟨_,#[],0,_,q,⟨rfl,rfl,rfl⟩,rfl,λe he=>by simp at he,λk=>by simp [zQC,zBI],by decide,by rfl,rfl⟩
set_option maxHeartbeats 3200000 in
theorem zG4 {P : Program} {w : World} {A : Around} {E : Value -> Shared -> Prop} {s : Shared} {l : Addr} {items : Array Value} {ks : List Key} {Q : Value -> Shared -> Prop} (hh : A.handled = none) (hl : s.heap.IsList l items) (hn : ks.length = items.size)
  (hkey : ∀ (i : Nat) (v : Value),items[i]? = some v -> ∃ k,ks[i]? = some k/\(zAM P w).is k v = true/\v.scannable = true) (hb : items.size + 1 < scanBound)
  (h : ∀ (h' : Heap) (tk : Nat),HasK P w h' s.heap.objs.size ks -> (∀ b o,s.heap.get? b = some o -> h'.get? b = some o) -> Q (.ref s.heap.objs.size) { s with heap:=h',toks:=tk }) :
  wpAny (model P w) A (call (.type "set") [.ref l]) Q E s:=by
 obtain ⟨c0,tl0,mro0⟩:=F.called_set.mro;have made0:=F.called_set.made; have sub0:=F.called_set.sub; have nt0:=F.called_set.notType; have cc0:=F.called_set.canCreate; have tc0:=F.typeCall_set_1 (.ref l);refine yDf (codeAny_of_tree (show wpAny _ _ (callAny (.type "set") _) _ _ _ from yAH ⟨yCo _ (by decide +kernel),yCJ F.entry_type_call ?_⟩));rw [Around.under_plain (weight_type_call_type "set" [.ref l] []) rfl]
 repeat (any_goals (first | assumption | wp_step))
 refine yCZ (code_set_new_1 (.ref l) (E:=E) (Q₁ := λob s1=>∃ led : Bool,ob = .ref s.heap.objs.size/\s1 = { s with heap:=s.heap.push (zAW led) }) λled=>⟨led,rfl,rfl⟩) λr s1 hr => ?_
 cases r with
 | error e=>exact hr
 | ok fl =>
  cases fl with
  | ret ob =>
   obtain ⟨led,rfl,rfl⟩:=hr;have gS : (s.heap.push (zAW led)).get? s.heap.objs.size = some (zAW led):=yAY _ rfl;have ty : Shared.TypeIs { s with heap:=s.heap.push (zAW led) } (.ref s.heap.objs.size) "set":=⟨_,gS,rfl⟩;have li:=F.called_set.init.lookup; have bi:=F.called_set.init.bind (.ref s.heap.objs.size)
   repeat (any_goals (first | assumption | wp_step))
   refine yCZ (yCE (R:=wants (λr s2=>r = .none/\∃ h' tk,s2 = { s with heap:=h',toks:=tk }/\HasK P w h' s.heap.objs.size ks/\∀ b o,s.heap.get? b = some o -> h'.get? b = some o) E) F.called_set.init.plain F.entry_set_init (check_set_init_1 ty ?_)) λr2 s2 hr2 => ?_
   ·obtain ⟨⟨ocls,od,odt,osl⟩,hol,hcl,nl,hdl⟩:=hl
    simp only at hcl hdl;subst hcl hdl;have hol2 : (s.heap.push (zAW led)).get? l = some { cls := .type "list",dict:=od,data := .seq items nl,slots:=osl }:=yAD _ hol;have q1:=F.sub_list_set; have q2:=F.sub_list_frozenset; have q3 : (Value.type "list" == Value.type "dict") = false:=by decide
    have hl2 : (s.heap.push (zAW led)).IsList l items:=⟨_,hol2,rfl,nl,rfl⟩;unfold Builtin.«set.__init__» noKeywords Builtin.Frozenset.updateFrom;generalize hPI : pyIter = PI
    wp_walk
    subst hPI;refine yDR hl2 (yAA (wpAny_runValue ?_));have lt : l < s.heap.objs.size:=yAI hol;have sz : (s.heap.push (zAW led)).objs.size = s.heap.objs.size + 1:=yCi ..;have hh3 : A.in1.in1.in1.handled = none:=by simp [hh]
    have W:=Walks.list (prog:=P) (w:=w) hh3 (s.heap.push (zAW led)).objs.size l (by rw [sz]; exact yAh (yCI lt)) items;have g2 : ∀ o,((s.heap.push (zAW led)).push o).get? s.heap.objs.size = some (zAW led):=λo=>yAD _ gS
    refine zLR W (S:=s.heap.objs.size) (by rw [sz]; simp only [yAd,yDa,or_false,not_or]; exact ⟨yAh (yCy _),yBi lt⟩) ks hn hkey hb _ 0 _ rfl (yAy _)
     ⟨⟨_,yAY _ rfl,rfl,rfl⟩,hl2.push _⟩ (zKD (g2 _)) λh3 tk3 kk3 hS3 => ?_
    show wpAny _ _ _ _ _ _;refine yAH (show wpAny _ _ (ret Value.none) _ _ _ from yAH ⟨rfl,h3,tk3,rfl,hS3,λb o q => ?_⟩);have hbs:=yAI q;exact kk3 b o (yAh hbs) (by rw [sz]; simp only [yAd,yDa,or_false]; exact yAh (yCI hbs)) (yAD _ (yAD _ q))
   ·cases r2 with
    | error e=>exact hr2
    | ok fl2 =>
     cases fl2 with
     | ret r =>
      obtain ⟨rfl,h3,tk3,rfl,hS3,kk3⟩:=hr2
      repeat (any_goals (first | assumption | wp_step))
      exact h _ _ hS3 kk3
     | _=>exact hr2.elim
  | _=>exact hr.elim
set_option maxHeartbeats 3200000 in
theorem zFY {P : Program} {w : World} {A : Around} {E : Value -> Shared -> Prop} {s : Shared} {l : Addr} {items : Array Value} {ks : List Key} {Q : Value -> Shared -> Prop} (hh : A.handled = none) (hl : s.heap.IsTuple l items) (hn : ks.length = items.size)
  (hkey : ∀ (i : Nat) (v : Value),items[i]? = some v -> ∃ k,ks[i]? = some k/\(zAM P w).is k v = true/\v.scannable = true) (hb : items.size + 1 < scanBound)
  (h : ∀ (h' : Heap) (tk : Nat),HasK P w h' s.heap.objs.size ks -> (∀ b o,s.heap.get? b = some o -> h'.get? b = some o) -> Q (.ref s.heap.objs.size) { s with heap:=h',toks:=tk }) :
  wpAny (model P w) A (call (.type "set") [.ref l]) Q E s:=by
 obtain ⟨c0,tl0,mro0⟩:=F.called_set.mro;have made0:=F.called_set.made; have sub0:=F.called_set.sub; have nt0:=F.called_set.notType; have cc0:=F.called_set.canCreate; have tc0:=F.typeCall_set_1 (.ref l);refine yDf (codeAny_of_tree (show wpAny _ _ (callAny (.type "set") _) _ _ _ from yAH ⟨yCo _ (by decide +kernel),yCJ F.entry_type_call ?_⟩));rw [Around.under_plain (weight_type_call_type "set" [.ref l] []) rfl]
 repeat (any_goals (first | assumption | wp_step))
 refine yCZ (code_set_new_1 (.ref l) (E:=E) (Q₁ := λob s1=>∃ led : Bool,ob = .ref s.heap.objs.size/\s1 = { s with heap:=s.heap.push (zAW led) }) λled=>⟨led,rfl,rfl⟩) λr s1 hr => ?_
 cases r with
 | error e=>exact hr
 | ok fl =>
  cases fl with
  | ret ob =>
   obtain ⟨led,rfl,rfl⟩:=hr;have gS : (s.heap.push (zAW led)).get? s.heap.objs.size = some (zAW led):=yAY _ rfl;have ty : Shared.TypeIs { s with heap:=s.heap.push (zAW led) } (.ref s.heap.objs.size) "set":=⟨_,gS,rfl⟩;have li:=F.called_set.init.lookup; have bi:=F.called_set.init.bind (.ref s.heap.objs.size)
   repeat (any_goals (first | assumption | wp_step))
   refine yCZ (yCE (R:=wants (λr s2=>r = .none/\∃ h' tk,s2 = { s with heap:=h',toks:=tk }/\HasK P w h' s.heap.objs.size ks/\∀ b o,s.heap.get? b = some o -> h'.get? b = some o) E) F.called_set.init.plain F.entry_set_init (check_set_init_1 ty ?_)) λr2 s2 hr2 => ?_
   ·obtain ⟨⟨ocls,od,odt,osl⟩,hol,hcl,nl,hdl⟩:=hl
    simp only at hcl hdl;subst hcl hdl;have hol2 : (s.heap.push (zAW led)).get? l = some { cls := .type "tuple",dict:=od,data := .seq items nl,slots:=osl }:=yAD _ hol;have q1:=F.sub_tuple_set; have q2:=F.sub_tuple_frozenset; have q3 : (Value.type "tuple" == Value.type "dict") = false:=by decide
    have hl2 : (s.heap.push (zAW led)).IsTuple l items:=⟨_,hol2,rfl,nl,rfl⟩;unfold Builtin.«set.__init__» noKeywords Builtin.Frozenset.updateFrom;generalize hPI : pyIter = PI
    wp_walk
    subst hPI;refine yDn hl2 (yAA (wpAny_runValue ?_));have lt : l < s.heap.objs.size:=yAI hol;have sz : (s.heap.push (zAW led)).objs.size = s.heap.objs.size + 1:=yCi ..;have hh3 : A.in1.in1.in1.handled = none:=by simp [hh]
    have W:=Walks.tuple (prog:=P) (w:=w) hh3 (s.heap.push (zAW led)).objs.size l (by rw [sz]; exact yAh (yCI lt)) items;have g2 : ∀ o,((s.heap.push (zAW led)).push o).get? s.heap.objs.size = some (zAW led):=λo=>yAD _ gS
    refine zLR W (S:=s.heap.objs.size) (by rw [sz]; simp only [yAd,yDa,or_false,not_or]; exact ⟨yAh (yCy _),yBi lt⟩) ks hn hkey hb _ 0 _ rfl (yAy _)
     ⟨⟨_,yAY _ rfl,rfl,rfl⟩,hl2.push _⟩ (zKD (g2 _)) λh3 tk3 kk3 hS3 => ?_
    show wpAny _ _ _ _ _ _;refine yAH (show wpAny _ _ (ret Value.none) _ _ _ from yAH ⟨rfl,h3,tk3,rfl,hS3,λb o q => ?_⟩);have hbs:=yAI q;exact kk3 b o (yAh hbs) (by rw [sz]; simp only [yAd,yDa,or_false]; exact yAh (yCI hbs)) (yAD _ (yAD _ q))
   ·cases r2 with
    | error e=>exact hr2
    | ok fl2 =>
     cases fl2 with
     | ret r =>
      obtain ⟨rfl,h3,tk3,rfl,hS3,kk3⟩:=hr2
      repeat (any_goals (first | assumption | wp_step))
      exact h _ _ hS3 kk3
     | _=>exact hr2.elim
  | _=>exact hr.elim
noncomputable def zON (K : PySem.W.Frag) (ta : TA) : TE:=λσ H Q=>ta σ H λvs H1=>∃ a ks,vs = [.ref a]/\(SqL K H1 a (ks.map kV) \/ SqT K H1 a (ks.map kV))/\ks.length + 1 < 4096/\Q (.int ((zBI ks).length : Nat)) H1
theorem zNT {P : Program} {w : World} {ks : List Key} {its : List Value} (r : Vals (ks.map kV) its) : ∀ (i : Nat) (v : Value),its.toArray[i]? = some v -> ∃ k,ks[i]? = some k/\(zAM P w).is k v = true/\v.scannable = true:=λi v hv=>by
 have hv' : its[i]? = some v:=by simpa using hv
 have hl:=r.length;have hi : i < its.length:=(yAE.mp hv').1;have hk : i < ks.length:=by rw [yAC] at hl; lia
 obtain ⟨u,hu,ru⟩:=r.get (i:=i) (x:=kV ks[i]) (by rw [yAb,yAB hk]; rfl);rw [hv'] at hu
 cases hu
 refine ⟨ks[i],yAB hk,zJN ru,?_⟩;generalize ks[i] = k at ru
 cases k with
 | inl j=>obtain ⟨t,rfl⟩:=ru; rfl
 | inr z=>obtain ⟨t,rfl⟩:=ru; rfl
theorem zPO {X : Cx} {e : Expr} {ta : TA} {p p2 pos pos2 : Pos} (hc : X.calm = true) (hg : Gl X "len") (hm : X.mg "len" = none) (hg2 : Gl X "set") (hm2 : X.mg "set" = none) (ha : PA X [e] ta)
  (he : starEach [e] X.env = [(false,eval e X.env)]:=by rfl) (he2 : starEach [.Call (.Name "set" p2) [e] [] pos2] X.env = [(false,eval (.Call (.Name "set" p2) [e] [] pos2) X.env)]:=by rfl) :
  PE X (.Call (.Name "len" p) [.Call (.Name "set" p2) [e] [] pos2] [] pos) (zON X.K ta):=by
 intro pins s σ H Q I h;refine yBy (zDW I hg hm yBH ?_);refine yDV ?_ he2 (by rfl);rw [he2];refine Calls.spliced_cons ?_;refine yBy (zDW I hg2 hm2 PyProof.Rows.boot_set ?_);refine yCq (thn (ha pos2 pins s σ H _ I h) λus s1 hM => ?_) he (by rfl);obtain ⟨vs,H1,I1,r1,q1⟩:=hM;obtain ⟨a,ks,rfl,hq,hb,q⟩:=q1;obtain ⟨u,rfl,ru⟩:=zDJ r1
 cases ru
 have hh:=I1.ok.hd hc
 have fin : ∀ (h' : Heap) (tk : Nat),HasK X.prog X.w h' s1.heap.objs.size ks -> (∀ b o,s1.heap.get? b = some o -> h'.get? b = some o) ->
   wpAny (model X.prog X.w) X.A (spliced (backTo pos (starEach ([] : List Expr) X.env))) (λus s2=>wpAny (model X.prog X.w) X.A (call (.builtin "len") (Value.ref s1.heap.objs.size::us)) (EP X pins σ Q) X.xe s2) X.xe { s1 with heap:=h',toks:=tk }:=λh' tk hS kk=>by
  refine Calls.spliced_nil ?_;obtain ⟨o,es,ep,t,ho,hex,hd,hel,hiff,hsz,hf,hn⟩:=hS
  have hlt : (es.size : Int) < 2 ^ 63:=by
   have : es.size < 4096:=hsz;lia
  refine call_len_set (s:={ s1 with heap:=h',toks:=tk }) ho hex hd hf hlt ?_;rw [hn];exact ⟨.int ((zBI ks).length : Nat),H1,I1.kept (t':=tk + 1 + 1) kk,⟨_,rfl⟩,q⟩
 rcases hq with hq | hq
 ·obtain ⟨its,rv,pl,hz⟩:=I1.list hq
  have hl:=rv.length;rw [yAC] at hl;exact zG4 hh pl.isList (by simp [hl]) (zNT rv) (by simp only [yAF]; unfold scanBound; lia) fin
 ·obtain ⟨its,rv,pl,hz⟩:=I1.tuple hq
  have hl:=rv.length;rw [yAC] at hl;exact zFY hh (show s1.heap.IsTuple a its.toArray from pl) (by simp [hl]) (zNT rv) (by simp only [yAF]; unfold scanBound; lia) fin
open AutoSeq1 (wpAny_loadPart')
theorem zOF (l : Addr) (xs : Array Value) (n : Nat) (dc : Option Addr) (sl : Array (Option Value)) :
  Meets (Builtin.«enumerate.__new__» ⟨[.type "enumerate",.ref l],[]⟩) (λ_ R s=>s.heap.get? l = some { cls := .type "tuple",dict:=dc,data := .seq xs n,slots:=sl } /\
   R (.ok (.ret (.ref (s.heap.push { cls := .type "tuple_iterator",data := .fields #[.ref l,.int 0 0] }).objs.size)))
    { s with heap:=(s.heap.push { cls := .type "tuple_iterator",data := .fields #[.ref l,.int 0 0] }).push { cls := .type "enumerate",data := .fields #[.none,.bool false,.ref s.heap.objs.size,rawInt 0,.none,.none] } }) :=
 .of_wp λprog w A R s h=>by
  obtain ⟨h0,g0,d0,t0,o0⟩:=s;obtain ⟨e0,h⟩:=h;have sb:=sub_enumerate;have tp : Heap.IsTuple (Shared.heap ⟨h0,g0,d0,t0,o0⟩) l xs:=⟨_,e0,rfl,n,rfl⟩
  wp_walk using yBD e0
  refine wpAny_stack_any λstk=>yAH ?_
  split
  ·rename_i c _ _ _ _ _
   cases (c == Value.type "enumerate") <;> (wp_walk using yBD e0,yDn tp; exact ⟨_,rfl,h⟩)
  ·(wp_walk using yBD e0,yDn tp; exact ⟨_,rfl,h⟩)
section
variable {prog : Program} {w : World} {A : Around} {E : Value -> Shared -> Prop} {s : Shared}
theorem zML {l : Addr} {xs : Array Value} {Q : Value -> Shared -> Prop} (tp : s.heap.IsTuple l xs)
  (h : ∀ h',IsEnum h' (s.heap.objs.size + 1) s.heap.objs.size 0 .none -> h'.IsTupleIter s.heap.objs.size l 0 -> (∀ b o,s.heap.get? b = some o -> h'.get? b = some o) -> Q (.ref (s.heap.objs.size + 1)) { s with heap:=h' }) :
  wpAny (model prog w) A (call (.type "enumerate") [.ref l]) Q E s:=by
 obtain ⟨⟨c,dc,dt,sl⟩,hl,hc,n,hd⟩:=tp;obtain rfl : c = .type "tuple":=hc;obtain rfl : dt = .seq xs n:=hd;refine callType_new F.called_enumerate (by decide) (F.typeCall_enumerate_1 _) (F.newCall_enumerate_1 _) (λob=>F.args_object_init_2 ob _) F.entry_enumerate_new (zOF l xs n dc sl) ⟨hl,?_⟩;have sz : (s.heap.push { cls := .type "tuple_iterator",data := .fields #[.ref l,.int 0 0] }).objs.size = s.heap.objs.size + 1:=yCi ..;have en:=yAY (s.heap.push { cls := .type "tuple_iterator",data := .fields #[.ref l,.int 0 0] }) (o:={ cls := .type "enumerate",data := .fields #[.none,.bool false,.ref s.heap.objs.size,rawInt 0,.none,.none] }) rfl;rw [sz] at en;show _/\_;rw [sz];exact ⟨⟨_,en,rfl⟩,h _ en ⟨_,yAD _ (yAY _ rfl),rfl,rfl⟩ λb o x=>yAD _ (yAD _ x)⟩
theorem zM3 {it t : Addr} {i : Nat} {xs : Array Value} {x : Value} {Q : Value -> Shared -> Prop} (hit : s.heap.IsTupleIter it t i) (ht : s.heap.IsTuple t xs) (hx : xs[i]? = some x)
  (hQ : ∀ h',h'.IsTupleIter it t (i + 1) -> Heap.SameBut it s.heap h' -> Q x { s with heap:=h' }) : wpAny (model prog w) A (Builtin.SmallTypes.nextOf (.ref it)) Q E s:=by
 obtain ⟨o,ho,hc,hd⟩:=id hit;obtain ⟨ot,hot,_,nt,hdt⟩:=ht;unfold Builtin.SmallTypes.nextOf;refine yAA (yCa (name:=Str.ofString "__next__") hit.typeIs yCu (yDY yCu hit.typeIs F.entry_tuple_iterator_next ?_ (F.args_tuple_iterator_next_1 _)));refine (show wpAny _ _ (field (.ref it) 0 >>= _) _ _ s from yAA (yCA ho hd (x := .ref t) rfl ?_));refine (show wpAny _ _ (if (Value.ref t == Value.none) = true then _ else _) _ _ s from ?_);rw [yAN (show ¬ ((Value.ref t == Value.none) = true) by exact yAW)];refine (show wpAny _ _ (field (.ref it) 1 >>= _) _ _ s from yAA (yCA ho hd (x := .int i 0) rfl ?_));refine (show wpAny _ _ (seqItems? (.ref t) >>= _) _ _ s from yAA (wpAny_seqItems hot hdt ?_));simp only [yAS,hx];refine yAA (yDt ho hd (by simp) (yAH ⟨x,rfl,yAH (hQ _ ⟨_,yCR _ ho (yEQ (yDJ hd _)),(Obj.cls_mapFields ..).trans hc,?_⟩ (Heap.SameBut.update ..))⟩));rw [yDJ hd]; simp [rawInt]
theorem zQ0 {it t : Addr} {i : Nat} {xs : Array Value} {Q : Value -> Shared -> Prop} (hh : A.handled = none) (hit : s.heap.IsTupleIter it t i) (ht : s.heap.IsTuple t xs) (hx : xs[i]? = none)
  (hE : ∀ h' e,Heap.ExtBut it s.heap h' -> (∃ o,h'.get? e = some o/\o.cls = .type "StopIteration") -> E (.ref e) { s with heap:=h' }) : wpAny (model prog w) A (Builtin.SmallTypes.nextOf (.ref it)) Q E s:=by
 obtain ⟨o,ho,hc,hd⟩:=id hit;obtain ⟨ot,hot,_,nt,hdt⟩:=ht;unfold Builtin.SmallTypes.nextOf;refine yAA (yCa (name:=Str.ofString "__next__") hit.typeIs yCu (yDY yCu hit.typeIs F.entry_tuple_iterator_next ?_ (F.args_tuple_iterator_next_1 _)));refine (show wpAny _ _ (field (.ref it) 0 >>= _) _ _ s from yAA (yCA ho hd (x := .ref t) rfl ?_));refine (show wpAny _ _ (if (Value.ref t == Value.none) = true then _ else _) _ _ s from ?_);rw [yAN (show ¬ ((Value.ref t == Value.none) = true) by exact yAW)];refine (show wpAny _ _ (field (.ref it) 1 >>= _) _ _ s from yAA (yCA ho hd (x := .int i 0) rfl ?_));refine (show wpAny _ _ (seqItems? (.ref t) >>= _) _ _ s from yAA (wpAny_seqItems hot hdt ?_));simp only [yAS,hx];refine yAA (yDD (yAA (yDt ho hd (by simp) (show wpAny _ _ (newExc (.type "StopIteration") [] >>= _) _ _ _ from yAA ?_))));simp only [newExc,newTuple];refine yAA (yBQ (yAA (m:=firstArgMember _ _) (wpAny_of_eq (a:=Value.none) (by first | rfl | (simp only [firstArgMember]; rfl)) (yBQ ?_ (by size_fits)))) (by size_fits));simp only [raiseNew];refine yAA (wpAny_handled ?_)
 first | rw [show A.in1.handled = none by exact hh] | rw [hh]
 exact yAA (yAH (wpAny_throw (hE _ _ (((Heap.SameBut.update ..).extBut.push _).push _) ⟨_,yAY _ rfl,rfl⟩)))
end
theorem zTI {prog : Program} {w : World} {A : Around} (hh : A.handled = none) (it t : Addr) (hne : t≠it) (xs : Array Value) :
  Draws prog w A it [it,t] xs.size (λi v=>xs[i]? = some v) (λi h=>h.IsTupleIter it t i/\h.IsTuple t xs) where
 live:=λ_ _ st=>let ⟨o,ho,_⟩:=st.1; ⟨o,ho⟩
 frame:=λ_ _ _ st hk=>⟨st.1.at λo e=>hk it (by simp) o e,st.2.at λo e=>hk t (by simp) o e⟩
 item:=λi s Q E hi st hQ=>zM3 st.1 st.2 (x:=xs[i]) (by simp [hi]) λh' hit' hs'=>hQ _ h' s.toks (by simp [hi]) ⟨hit',st.2.extBut hs'.extBut hne⟩ hs'
 done:=λs Q E st hE=>zQ0 hh st.1 st.2 (by simp) hE
noncomputable def zUG (K : PySem.W.Frag) (a : Addr) : It :=
 ⟨λi H=>∃ xs x,SqT K H a xs/\xs[i]? = some x,λi H v H'=>∃ p x,H p = none/\v = .ref p/\(∀ xs,SqT K H a xs -> xs[i]? = some x)/\H' = upd H p (.tup [.int (i : Nat),x]),λi H=>∃ xs,SqT K H a xs/\xs.length = i⟩
theorem zMP {P : Program} {w : World} {K : PySem.W.Frag} {elts : List Expr} {x1 : Nat} {pos : Pos} (a e it : Addr) (hne : e≠it) (hai : a≠it) (hea : e≠a) :
  Turn P w K (.Tuple elts x1 pos) (zUG K a) [e,it] e (λi h=>(∃ old,IsEnum h e it (i : Nat) old)/\h.IsTupleIter it a i) where
 mem:=by simp
 obj:=λi h st b hb=>by
  obtain ⟨⟨old,se⟩,o,eo,c,d⟩:=st
  rcases yAd.mp hb with rfl | hb
  ·exact ⟨_,se,λv z=>by cases z⟩
  ·rw [yAJ.mp hb]
   exact ⟨o,eo,λv z=>by rw [d] at z; cases z⟩
 keep:=λi h h' st k=>⟨let ⟨old,se⟩:=st.1; ⟨old,k e (by simp) _ se⟩,st.2.at λo q=>k it (by simp) o q⟩
 item:=by
  intro X hP hw hK hc i pins s σ H E I hf st hg;subst hP hw hK;obtain ⟨xs,x,hq,hx⟩:=hg;obtain ⟨its,rv,p,hz⟩:=I.tuple hq;obtain ⟨u,hu,ru⟩:=rv.get hx;obtain ⟨⟨old,se⟩,si⟩:=st;have fe:=hf e (by simp);have fi:=hf it (by simp);have hel : e < s.heap.objs.size:=yAI se;have D:=zTI (prog:=X.prog) (w:=X.w) (A:=X.A.in1) (by simpa using I.ok.hd hc) it a hai its.toArray;have hlt : i < its.length:=(yAE.mp hu).1;refine wpAny_pyNext_enum_itemD D se ⟨si,show s.heap.IsTuple a its.toArray from p⟩ (by simpa using hlt) hne (by simp only [yAd,yDa,or_false,not_or]; exact ⟨hne,hea⟩) λy h1 tk hy so si1 ht hsz kk => ?_
  have hyu : y = u:=by
   have : its[i]? = some y:=by simpa using hy
   rw [hu] at this; cases this; rfl
  subst hyu;refine ⟨_,rfl,wpAny_letOwnedTupleGo_enum so λh2 se2 sb => ?_⟩;have sb' : Heap.SameBut e h1 h2:=sb;have si2 : h2.IsTupleIter it a (i + 1):=si1.1.at λo q=>(sb'.2 it hne.symm).trans q;have hn : H s.heap.objs.size = none:=I.hok.fresh (yAG _);have ht2 : h2.get? s.heap.objs.size = some { cls := .type "tuple",data := .seq #[.int i tk,y] }:=(sb'.2 _ (yBi hel)).trans ht;refine ⟨.ref s.heap.objs.size,_,I.pair (a := .int (i : Nat)) (b:=x) fe fi (λb o h1 h2' q=>(sb'.2 b h1).trans (kk b o h1 h2' q)) ⟨_,se2⟩ (let ⟨o,q,_⟩:=si2; ⟨o,q⟩) ht2 ⟨_,rfl⟩ ru,rfl,⟨_,x,hn,rfl,λys hy=>by rw [I.tuple_inj hy hq]; exact hx,rfl⟩,⟨⟨y,?_⟩,si2⟩,λb hb => ?_⟩
  ·have : ((i + 1 : Nat) : Int) = (i : Int) + 1:=by lia
   rw [this]; exact se2
  ·rw [zA7]
   ·exact (hf b hb).1
   ·intro z
    rcases yAd.mp hb with q | q
    ·rw [z] at q; exact absurd q (yBi hel)
    ·obtain ⟨o,q2,_⟩:=si
     rw [z] at q; exact absurd (yAJ.mp q) (yBi (yAI q2))
 done:=by
  intro X hP hw hK hc i pins s σ H E I hf st hg;subst hP hw hK;obtain ⟨xs,hq,hx⟩:=hg;obtain ⟨its,rv,p,hz⟩:=I.tuple hq;obtain ⟨⟨old,se⟩,si⟩:=st;obtain ⟨f0,f1,f2,f3,f4,f5⟩:=hf it (by simp);have hl:=rv.length;have D:=zTI (prog:=X.prog) (w:=X.w) (A:=X.A.in1) (by simpa using I.ok.hd hc) it a hai its.toArray;have en : i = its.toArray.size:=by simp; lia
  subst en;exact wpAny_pyNext_enum_endD D se ⟨si,show s.heap.IsTuple a its.toArray from p⟩ λh' eb=>⟨rfl,I.turned (t':=s.toks) (λb o hb e=>eb b o hb e) f0 f1 f3 f4 f5⟩
 self:=λ_ _ _ _ _ st h=>let ⟨_,se⟩:=st.1; yDx se h
noncomputable def zTM (K : PySem.W.Frag) (ta : TA) : TI:=λσ H R=>ta σ H λvs H1=>∃ a,vs = [.ref a]/\((∃ xs,SqL K H1 a xs)/\R (Ite K a) H1 \/ (∃ xs,SqT K H1 a xs)/\R (zUG K a) H1)
theorem zE2 {X : Cx} {elts : List Expr} {x1 : Nat} {tpos : Pos} {a : Expr} {ta : TA} {p pos : Pos} (hg : Gl X "enumerate") (hm : X.mg "enumerate" = none) (ha : PA X [a] ta) (hs : starEach [a] X.env = [(false,eval a X.env)]:=by rfl) :
  PI X (.Tuple elts x1 tpos) (.Call (.Name "enumerate" p) [a] [] pos) (zTM X.K ta):=by
 intro pins s σ H R I h;refine Call_ (zDW I hg hm boot_enumerate (yCq (thn (ha pos pins s σ H _ I h) λus s1 hM => ?_) hs rfl));obtain ⟨vs,H1,I1,r1,q1⟩:=hM;obtain ⟨l,e,q⟩:=q1;subst e;obtain ⟨u,rfl,ru⟩:=zDJ r1
 cases ru
 have fp : ∀ b∈[s1.heap.objs.size + 1,s1.heap.objs.size],zF5 X pins H1 b:=λb hb=>by
  rcases yAd.mp hb with rfl | hb
  ·exact I1.fpOk (yDi _) (I1.hok.fresh (yDi _))
  ·rw [yAJ.mp hb]; exact I1.fpOk (yAG _) (I1.hok.fresh (yAG _))
 rcases q with ⟨⟨xs,hq⟩,q⟩ | ⟨⟨xs,hq⟩,q⟩
 ·obtain ⟨its,rv,pl,hz⟩:=I1.list hq
  refine call_enumerate_list pl.isList λh' se si hsz kk=>yDx se ?_;exact ⟨s1.heap.objs.size + 1,[s1.heap.objs.size + 1,s1.heap.objs.size],_,_,H1,rfl,I1.kept (t':=s1.toks) kk,zPF l _ _ (Nat.succ_ne_self _),⟨⟨_,se⟩,si⟩,fp,q⟩
 ·obtain ⟨its,rv,pl,hz⟩:=I1.tuple hq
  have pl' : s1.heap.IsTuple l its.toArray:=pl;refine zML pl' λh' se si kk=>yDx se ?_;have lt : l < s1.heap.objs.size:=let ⟨o,ho,_⟩:=pl'; yAI ho;exact ⟨s1.heap.objs.size + 1,[s1.heap.objs.size + 1,s1.heap.objs.size],_,_,H1,rfl,I1.kept (t':=s1.toks) kk,zMP l _ _ (Nat.succ_ne_self _) (yAh lt) (yBi (yCI lt)),⟨⟨_,se⟩,si⟩,fp,q⟩
noncomputable def zaQ (K : PySem.W.Frag) (tl : TE) : TI:=λσ H R=>tl σ H λx H1=>∃ a,x = .ref a/\((∃ xs,SqL K H1 a xs)/\R (Itl K a) H1 \/ (∃ xs,SqT K H1 a xs)/\R (Itt K a) H1)
theorem zBX {X : Cx} {tg l : Expr} {tl : TE} (hl : PE X l tl) : PI X tg l (zaQ X.K tl):=by
 intro pins s σ H R I h;refine thn (hl pins s σ H _ I h) λv s1 hM => ?_;obtain ⟨x,H1,I1,r1,a,e,q⟩:=hM;subst e
 cases r1
 have fp : ∀ b∈[s1.heap.objs.size],zF5 X pins H1 b:=λb hb=>by rw [yAJ.mp hb]; exact I1.fpOk (yAG _) (I1.hok.fresh (yAG _))
 rcases q with ⟨⟨xs,hq⟩,q⟩ | ⟨⟨xs,hq⟩,q⟩
 ·obtain ⟨its,rv,pl,hz⟩:=I1.list hq
  exact yDR pl.isList ⟨s1.heap.objs.size,[s1.heap.objs.size],_,_,H1,rfl,I1.kept (t':=s1.toks) λb o e=>yAD _ e,zIJ a _,⟨_,yAY _ rfl,rfl,rfl⟩,fp,q⟩
 ·obtain ⟨its,rv,pl,hz⟩:=I1.tuple hq
  exact yDn (show s1.heap.IsTuple a its.toArray from pl) ⟨s1.heap.objs.size,[s1.heap.objs.size],_,_,H1,rfl,I1.kept (t':=s1.toks) λb o e=>yAD _ e,zMB a _,⟨_,yAY _ rfl,rfl,rfl⟩,fp,q⟩
section
variable {X : Cx} {pins : List (Addr × Obj)} {σ : St} {H : Hp} {s : Shared}
theorem zUR {x : V} {u t : Value} (I : Inv X pins σ H s) (rx : RelV x u) (ty : TyOf X.K H x t) : ∃ HH : Heap -> Prop,PySem.W.KitX X.K u t HH/\HH s.heap/\u ≠ .builtin "__main__.__loader__#opaque":=by
 cases ty with
 | non=>cases (show u = Value.none from rx); exact ⟨_,PySem.W.kitx_none,True.intro,λz=>nomatch z⟩
 | bl y=>cases (show u = Value.bool y from rx); exact ⟨_,PySem.W.kitx_bool,True.intro,λz=>nomatch z⟩
 | int i=>obtain ⟨t,q⟩:=(show ∃ t,u = Value.int i t from rx); cases q; exact ⟨_,PySem.W.kitx_int,True.intro,λz=>nomatch z⟩
 | str y=>obtain ⟨t,q⟩:=(show ∃ t,u = Value.str y t from rx); cases q; exact ⟨_,PySem.W.kitx_str,True.intro,λz=>nomatch z⟩
 | flt y=>obtain ⟨t,q⟩:=(show ∃ t,u = Value.float y t from rx); cases q; exact ⟨_,PySem.W.kitx_float,True.intro,λz=>nomatch z⟩
 | @lst a xs ea =>
  cases (show u = Value.ref a from rx)
  obtain ⟨_,_,n,_,h1⟩:=(show ObjOk X.prog X.w H s.heap a (.lst xs) from I.hok a _ ea);exact ⟨_,yEA,⟨_,h1,rfl⟩,λz=>nomatch z⟩
 | @frz a ob xs ea =>
  cases (show u = Value.ref a from rx)
  obtain ⟨_,_,_,n,_,h1⟩:=(show ObjOk X.prog X.w H s.heap a (.frz ob (.lst xs)) from I.hok a _ ea);exact ⟨_,yEA,⟨_,h1,rfl⟩,λz=>nomatch z⟩
 | @tup a xs ea =>
  cases (show u = Value.ref a from rx)
  obtain ⟨_,_,_,p⟩:=(show ObjOk X.prog X.w H s.heap a (.tup xs) from I.hok a _ ea);obtain ⟨o,h1,h2,_⟩:=p;exact ⟨_,PySem.W.kitx_tuple,⟨o,h1,h2⟩,λz=>nomatch z⟩
 | @dK a kvs ea =>
  cases (show u = Value.ref a from rx)
  obtain ⟨_,_,vs,_,p⟩:=(show ObjOk X.prog X.w H s.heap a (.dK kvs) from I.hok a _ ea);obtain ⟨o,es,ep,h1,h2,_⟩:=p;exact ⟨_,yEB,⟨o,h1,h2.1⟩,λz=>nomatch z⟩
 | @dT a kvs ea =>
  cases (show u = Value.ref a from rx)
  obtain ⟨_,_,xs,_,o,es,ep,h1,h2,_⟩:=(show ObjOk X.prog X.w H s.heap a (.dT kvs) from I.hok a _ ea);exact ⟨_,yEB,⟨o,h1,h2.1⟩,λz=>nomatch z⟩
 | @ins a C dx fs ea cl ha hn htk hm =>
  cases (show u = Value.ref a from rx)
  obtain ⟨mA,O,_⟩:=zFR I.hok ea;obtain ⟨od,J,_⟩:=O.look;exact ⟨_,PySem.W.kitx_own (cl.get _) cl.hd ha hn htk hm,J,λz=>nomatch z⟩
theorem zO9 : ∀ {cs : List String} {us : List Value},Vals (cs.map V.ty) us -> us = cs.map Value.type
 | [],_,.nil=>rfl
 | c::cs,_,.cons r t=>by rw [zO9 t,show _ = Value.type c from r]; rfl
noncomputable def zWV (K : PySem.W.Frag) : List V -> Hp -> VK -> Prop:=λxs H Q=>∃ (x : V) (t : Value) (p : Addr) (cs : List String) (b : Bool),xs = [x,.ref p]/\TyOf K H x t/\H p = some (.tup (cs.map V.ty))/\PySem.W.kitAny K t (cs.map Value.type) = some b/\Q (.bl b) H
theorem zEM : zCZ X (.builtin "isinstance") (zWV X.K):=by
 intro pins s σ H xs us Q I r h;obtain ⟨x,t,p,cs,b,rfl,ty,hp,e,q⟩:=h;obtain ⟨u,w',rfl,r1,r2⟩:=zRQ r
 cases r2
 obtain ⟨HH,kx,hh,ne⟩:=zUR I r1 ty;obtain ⟨_,its,rv,⟨oc,od,odt,osl⟩,h1,h2,n,h3⟩:=(show ObjOk X.prog X.w H s.heap p (.tup (cs.map V.ty)) from I.hok p _ hp);obtain rfl : oc = .type "tuple":=h2;obtain rfl : odt = .seq its.toArray n:=h3;rw [<- zO9 rv] at e;exact PySem.W.kia_tup kx I.kIn hh h1 e ne λtk=>⟨.bl b,H,I.tok _,rfl,q⟩
theorem zDO {K : PySem.W.Frag} {t c d : Value} {a b : Bool} (h1 : PySem.W.kitOne K t c = some a) (h2 : PySem.W.kitOne K t d = some b) : PySem.W.kitAny K t [c,d] = some (a||b):=by
 unfold PySem.W.kitAny;rw [h1]
 cases a with
 | true=>rfl
 | false =>
  show PySem.W.kitAny K t [d] = _;unfold PySem.W.kitAny;rw [h2]
  cases b <;> rfl
end
theorem zBZ {o0 : HO} {xs : List Str} {fv : List (Str × Nat)} {g : TG} {tt : TT} {tb : TB} {σ : St} {J : It} {H1 : Hp} {Q : VK} (n : Nat) (Pv : Nat -> Addr -> Hp -> Prop) (h0 : ∀ D,H1 D = none -> Pv 0 D (upd H1 D o0))
  (hgo : ∀ i D H,H1 D = none -> i < n -> Pv i D H -> J.go i H) (hst : ∀ D H,H1 D = none -> Pv n D H -> J.stop n H)
  (hs : ∀ i D H x H',H1 D = none -> i < n -> Pv i D H -> J.yld i H x H' -> g x (ρT xs fv σ) H' λσ2 H2=>zHQ xs (ρT xs fv σ) σ2/\tt σ2 H2 λb H3=>if b = true then tb D σ2 H3 (Pv (i + 1) D) else Pv (i + 1) D H3)
  (hd : ∀ D H,H1 D = none -> Pv n D H -> Q (.ref D) H) : zD3 o0 xs fv g tt tb σ J H1 Q:=by
 intro D hD;refine ⟨λi m H=>m = n - i/\i <= n/\Pv i D H,⟨n,by simp,yAy _,h0 D hD⟩,?_⟩
 rintro i m H ⟨rfl,hi,p⟩
 by_cases hlt : i < n
 ·exact .inr ⟨hgo i D H hD hlt p,Pv (i + 1) D,λH' p'=>⟨n - (i + 1),by lia,rfl,hlt,p'⟩,λx H' y=>hs i D H x H' hD hlt p y⟩
 ·obtain rfl : i = n:=by lia
  exact .inl ⟨hst D H hD p,hd D H hD p⟩
theorem zGJ {J : It} {g : TG} {tb : TS} {D : Ends} {σ : St} {H : Hp} (n : Nat) (Pv : Nat -> St -> Hp -> Prop) (h0 : Pv 0 σ H) (hgo : ∀ i σ H,i < n -> Pv i σ H -> J.go i H) (hst : ∀ σ H,Pv n σ H -> J.stop n H)
  (hs : ∀ i σ H x H',i < n -> Pv i σ H -> J.yld i H x H' -> g x σ H' λσ2 H2=>tb { D with nx:=Pv (i + 1),ct:=Pv (i + 1),bk:=D.nx } σ2 H2) (hd : ∀ σ H,Pv n σ H -> D.nx σ H) :
  ∃ W : Nat -> Nat -> St -> Hp -> Prop,(∃ m,W 0 m σ H)/\∀ i m σ H,W i m σ H ->
   (J.stop i H/\D.nx σ H) \/ (J.go i H/\∃ N : St -> Hp -> Prop,(∀ σ' H',N σ' H' -> ∃ m',m' < m/\W (i + 1) m' σ' H')/\∀ x H',J.yld i H x H' -> g x σ H' λσ2 H2=>tb { D with nx:=N,ct:=N,bk:=D.nx } σ2 H2):=by
 refine ⟨λi m σ H=>m = n - i/\i <= n/\Pv i σ H,⟨n,by simp,yAy _,h0⟩,?_⟩
 rintro i m σ H ⟨rfl,hi,p⟩
 by_cases hlt : i < n
 ·exact .inr ⟨hgo i σ H hlt p,Pv (i + 1),λσ' H' p'=>⟨n - (i + 1),by lia,rfl,hlt,p'⟩,λx H' y=>hs i σ H x H' hlt p y⟩
 ·obtain rfl : i = n:=by lia
  exact .inl ⟨hst σ H p,hd σ H p⟩
theorem ndT {X : Cx} {scope : Scope} {xs : List Str} {fv : List (Str × Nat)} {C : Addr} {s₀ : Shared} {H₀ : Hp} {ex : List Addr} {pn : List (Addr × Obj)} (h : zEA scope xs fv = true) : (cxT X scope xs fv C s₀ H₀ ex pn).N.Nodup:=(zD8 h).nd
end
end L2
namespace L2
open PySem PySem.Spec PyProof.Rows PySem.W
structure Lin (α : Type) where
 lt : α -> α -> Bool
 asym : ∀ a b,lt a b = true -> lt b a = false
 trans : ∀ a b c,lt b a = false -> lt c b = false -> lt c a = false
 anti : ∀ a b,lt a b = false -> lt b a = false -> a = b
section
variable {n : Nat} {r : Nat -> Nat -> Bool}
end
section
variable {κ : Type} (O : Lin κ) (g : Nat -> κ) {n : Nat}
noncomputable def Lin.le (a b : κ) : Prop:=O.lt b a = false
structure Pm (n : Nat) (p : Array Nat) : Prop where
 perm : p.Perm (List.toArray (List.range n))
end
mutual
inductive DV (K : PySem.W.Frag) (H : Hp) : V -> PyData -> Prop
 | non : DV K H .non .none
 | bl (b : Bool) : DV K H (.bl b) (.bool b)
 | int (i : Int) : DV K H (.int i) (.int i)
 | str (x : Str) : DV K H (.str x) (.str x)
 | lst {a : Addr} {xs : List V} {ds : List PyData} : SqL K H a xs -> DVs K H xs ds -> DV K H (.ref a) (.list ds)
 | tup {a : Addr} {xs : List V} {ds : List PyData} : SqT K H a xs -> DVs K H xs ds -> DV K H (.ref a) (.tuple ds)
inductive DVs (K : PySem.W.Frag) (H : Hp) : List V -> List PyData -> Prop
 | nil : DVs K H [] []
 | cons {x : V} {xs : List V} {d : PyData} {ds : List PyData} : DV K H x d -> DVs K H xs ds -> DVs K H (x::xs) (d::ds)
end
theorem DVs.ints {K : PySem.W.Frag} {H : Hp} : ∀ ns : List Int,DVs K H (ns.map V.int) (ns.map PyData.int)
 | [] => .nil
 | n::r => .cons (.int n) (DVs.ints r)
theorem SqT.mono {K : PySem.W.Frag} {H H' : Hp} {a : Addr} {xs : List V} (e : Same H H') (h : SqT K H a xs) : SqT K H' a xs:=by
 rcases h with (h | ⟨o,h⟩) | h
 ·exact .inl (.inl (e _ _ h))
 ·exact .inl (.inr ⟨o,e _ _ h⟩)
 ·exact .inr h
section
variable {X : Cx} {pins : List (Addr × Obj)} {σ : St} {H : Hp} {s : Shared}
mutual
theorem DV.reads (I : Inv X pins σ H s) : ∀ {v : V} {d : PyData} {u : Value},DV X.K H v d -> RelV v u -> ∃ as,Reads s.heap u d as
 | _,_,_,.non,r=>by cases r; exact ⟨_,.none⟩
 | _,_,_,.bl b,r=>by cases r; exact ⟨_,.bool b⟩
 | _,_,_,.int i,r=>by obtain ⟨t,rfl⟩:=r; exact ⟨_,.int i t⟩
 | _,_,_,.str x,r=>by obtain ⟨t,rfl⟩:=r; exact ⟨_,.str x t⟩
 | _,_,_,.lst hq hs,r=>by
  cases r
  obtain ⟨its,rv,⟨o,n,e,c,_,d⟩,_⟩:=I.list hq;obtain ⟨as,q⟩:=DVs.reads I hs rv;exact ⟨_,.list e c d (by simpa using q)⟩
 | _,_,_,.tup hq hs,r=>by
  cases r
  obtain ⟨its,rv,p,_⟩:=I.tuple hq;obtain ⟨as,q⟩:=DVs.reads I hs rv;obtain ⟨o,e,c,n,d⟩:=p;exact ⟨_,.tuple e c d (by simpa using q)⟩
theorem DVs.reads (I : Inv X pins σ H s) : ∀ {vs : List V} {ds : List PyData} {us : List Value},DVs X.K H vs ds -> Vals vs us -> ∃ as,ReadsAll s.heap us ds as
 | _,_,_,.nil,.nil=>⟨_,.nil⟩
 | _,_,_,.cons h t,.cons r rs=>by
  obtain ⟨as,q⟩:=DV.reads I h r;obtain ⟨bs,q'⟩:=DVs.reads I t rs;exact ⟨_,.cons q q'⟩
end
end
section
variable {X : Cx} {k : Nat}
noncomputable def zZU (K : PySem.W.Frag) : List V -> Hp -> VK -> Prop:=λxs H Q=>∃ x d,xs = [x]/\DV K H x d/\d.showable = true/\d.hasDict = false/\d.depth <= 100/\d.shown.length <= sizeLine/\Q (.str d.shown) H
noncomputable def zYP (K : PySem.W.Frag) (neg : Bool) : R2:=λx y H Q=>∃ d e,DV K H x d/\DV K H y e/\d.canLay0 = true/\e.canLay0 = true/\d.depth <= 100/\Q (.bl (if neg then !PyData.eqv d e else PyData.eqv d e)) H
theorem zSU (hr : Room k X.A) : OpR X (compareOp .Eq) (zYP X.K false):=by
 intro pins s σ H x y v u Q I rx ry h;obtain ⟨d,e,hd,he,h1,h2,h3,q⟩:=h;obtain ⟨as,r1⟩:=hd.reads I rx;obtain ⟨bs,r2⟩:=he.reads I ry;refine SeqAt.compareEq_reads r1 r2 h1 h2 (by have:=hr.un; have:=yES d.depth e.depth; lia) ?_;exact ⟨.bl _,H,I,rfl,q⟩
theorem zFN (hr : Room k X.A) : OpR X (compareOp .NotEq) (zYP X.K true):=by
 intro pins s σ H x y v u Q I rx ry h;obtain ⟨d,e,hd,he,h1,h2,h3,q⟩:=h;obtain ⟨as,r1⟩:=hd.reads I rx;obtain ⟨bs,r2⟩:=he.reads I ry;refine SeqAt.compareNe_reads r1 r2 h1 h2 (by have:=hr.un; have:=yES d.depth e.depth; lia) ?_;exact ⟨.bl _,H,I,rfl,q⟩
noncomputable def zZX (K : PySem.W.Frag) : List V -> Hp -> VK -> Prop:=λxs H Q=>∃ x t n b,xs = [x,.ty n]/\TyOf K H x t/\PySem.W.kitOne K t (.type n) = some b/\Q (.bl b) H
theorem zBR : zCZ X (.builtin "isinstance") (zZX X.K):=by
 intro pins s σ H xs us Q I r h;obtain ⟨x,t,n,b,rfl,ty,e,q⟩:=h;obtain ⟨u,w',rfl,r1,r2⟩:=zRQ r
 cases r2
 exact zP2 I r1 ty e λtk=>⟨.bl b,H,I.tok _,rfl,q⟩
noncomputable def zaX (K : PySem.W.Frag) (te : TE) : TE:=λσ H Q=>te σ H λx H1=>∃ a xs,x = .ref a/\SqL K H1 a xs/\∀ p,H1 p = none -> Q (.ref p) (upd H1 p (.lst xs.reverse))
theorem zTH {e : Expr} {te : TE} {p1 p2 p3 p4 pos : Pos} {c : Nat} (he : PE X e te) : PE X (.Subscript e (.Slice none none (some (.UnaryOp .USub (.Constant (.int 1) c p1) p2)) p3) pos) (zaX X.K te):=by
 intro pins s σ H Q I h;refine yEY (thn (he pins s σ H _ I h) λv s1 hM => ?_);obtain ⟨x,H1,I1,r1,q1⟩:=hM;obtain ⟨a,xs,rfl,hx,q⟩:=q1
 cases r1
 refine wpAny_Slice (thn (zAN pins s1 σ H1 (λo H2=>o = none/\H2 = H1) I1 ⟨rfl,rfl⟩) λvl s2 hM => ?_);obtain ⟨l,H2,I2,pl,q2⟩:=hM;refine thn (zAN pins s2 σ H2 (λo H3=>o = none/\H3 = H1) I2 ⟨rfl,q2.2⟩) λvu s3 hM => ?_;obtain ⟨u,H3,I3,pu,q3⟩:=hM;refine thn (zAL (zW0 zOE zA4) pins s3 σ H3 (λo H4=>o = some (-1)/\H4 = H1) I3 ⟨1,rfl,-1,rfl,rfl,q3.2⟩) λvk s4 hM => ?_;obtain ⟨w,H4,I4,pk,q4⟩:=hM;obtain ⟨rfl,rfl⟩:=q4;obtain ⟨rfl,_⟩:=q2;obtain ⟨rfl,_⟩:=q3;obtain ⟨its,r,ht,hz⟩:=I4.list hx;have hlen:=r.length;have I5 : Inv X pins σ H4 { s4 with heap:=s4.heap.push { cls := .type "slice",data := .fields #[vl,vu,vk] } }:=I4.kept (t':=s4.toks) λb ob q=>yAD _ q;have hl5 : (s4.heap.push { cls := .type "slice",data := .fields #[vl,vu,vk] }).IsList a its.toArray:=ht.isList.push _
 refine tail_any (ops:=[.ref a,.ref s4.heap.objs.size]) (s:={ s4 with heap:=s4.heap.push { cls := .type "slice",data := .fields #[vl,vu,vk] } }) (Heap.IsList.typeIs (s:={ s4 with heap:=s4.heap.push { cls := .type "slice",data := .fields #[vl,vu,vk] } }) hl5) slot_list_getitem.lookup
  (yDy hl5 (Heap.IsSliceOf.new ..) pl pu pk (by simp) ?_ (by rw [yAF]; lia)) (by with_unfolding_all rfl)
 rw [show slicePick its.toArray none none (some (-1)) = its.reverse.toArray from by rw [PySem.W.krv_pick]];refine ⟨.ref _,_,I5.lnew (t':=s4.toks) (ys:=xs.reverse) r.reverse (by simpa using hz),rfl,q _ I5.fresh⟩
end
end L2
namespace L2
open PySem PySem.Spec PyProof.Rows PySem.W
noncomputable def zB2 (a b : Int × List Int) : Bool:=if a.1 = b.1 then HT.lexLt a.2 b.2 else decide (a.1 < b.1)
noncomputable def zYQ (a : Int × List Int) : PyData := .tuple [.int a.1,.tuple (a.2.map PyData.int)]
theorem zH2 : ∀ a : List Int,HT.lexLt a a = false
 | []=>rfl
 | x::r=>by rw [HT.lexLt_cons,yAK rfl]; exact zH2 r
theorem zLH : ∀ a b : List Int,HT.lexLt a b = true -> HT.lexLt b a = false
 | [],[],h=>by cases h
 | [],_::_,_=>rfl
 | _::_,[],h=>by cases h
 | x::r,y::t,h=>by
  rw [HT.lexLt_cons] at h ⊢
  by_cases e : x = y
  ·rw [yAK e] at h; rw [yAK e.symm]; exact zLH r t h
  ·rw [yAN e] at h; rw [yAN (Ne.symm e)]
   have:=yAl h
   exact yAL (by lia)
theorem zHK : ∀ a b : List Int,HT.lexLt a b = false -> HT.lexLt b a = false -> a = b
 | [],[],_,_=>rfl
 | [],_::_,h,_=>by cases h
 | _::_,[],_,h=>by cases h
 | x::r,y::t,h,h'=>by
  rw [HT.lexLt_cons] at h h'
  by_cases e : x = y
  ·rw [yAK e] at h; rw [yAK e.symm] at h'; rw [e,zHK r t h h']
  ·rw [yAN e] at h; rw [yAN (Ne.symm e)] at h'
   have h1:=yBT h;have h2:=yBT h';lia
theorem zIE : ∀ a b c : List Int,HT.lexLt b a = false -> HT.lexLt c b = false -> HT.lexLt c a = false
 | _,[],[],h,_=>h
 | _,_::_,[],_,h'=>by cases h'
 | [],_,_::_,_,_=>rfl
 | x::r,[],_::_,h,_=>by cases h
 | x::r,y::t,z::u,h,h'=>by
  rw [HT.lexLt_cons] at h h' ⊢
  by_cases e1 : y = x
  ·rw [yAK e1] at h
   by_cases e2 : z = y
   ·rw [yAK e2] at h'; rw [yAK (e2.trans e1)]; exact zIE r t u h h'
   ·rw [yAN e2] at h'; rw [yAN (by lia)]
    have:=yBT h'
    exact yAL (by lia)
  ·rw [yAN e1] at h
   have h1:=yBT h
   by_cases e2 : z = y
   ·rw [yAN (by lia)]; exact yAL (by lia)
   ·rw [yAN e2] at h'
    have h2:=yBT h';rw [yAN (by lia)]; exact yAL (by lia)
noncomputable def keyLin : Lin (Int × List Int) where
 lt:=zB2
 asym:=λa b h=>by
  unfold zB2 at h ⊢
  by_cases e : a.1 = b.1
  ·rw [yAK e] at h; rw [yAK e.symm]; exact zLH _ _ h
  ·rw [yAN e] at h; rw [yAN (Ne.symm e)]
   have:=yAl h
   exact yAL (by lia)
 trans:=λa b c h h'=>by
  unfold zB2 at h h' ⊢
  by_cases e1 : b.1 = a.1
  ·rw [yAK e1] at h
   by_cases e2 : c.1 = b.1
   ·rw [yAK e2] at h'; rw [yAK (e2.trans e1)]; exact zIE _ _ _ h h'
   ·rw [yAN e2] at h'; rw [yAN (by lia)]
    have:=yBT h'
    exact yAL (by lia)
  ·rw [yAN e1] at h
   have h1:=yBT h
   by_cases e2 : c.1 = b.1
   ·rw [yAN (by lia)]; exact yAL (by lia)
   ·rw [yAN e2] at h'
    have h2:=yBT h';rw [yAN (by lia)]; exact yAL (by lia)
 anti:=λa b h h'=>by
  unfold zB2 at h h'
  by_cases e : a.1 = b.1
  ·rw [yAK e] at h; rw [yAK e.symm] at h'
   exact Prod.ext e (zHK _ _ h h')
  ·rw [yAN e] at h; rw [yAN (Ne.symm e)] at h'
   have h1:=yBT h;have h2:=yBT h';lia
mutual
theorem DV.mono {K : PySem.W.Frag} {H H' : Hp} (g : Same H H') : ∀ {v : V} {d : PyData},DV K H v d -> DV K H' v d
 | _,_,.non => .non
 | _,_,.bl b => .bl b
 | _,_,.int i => .int i
 | _,_,.str x => .str x
 | _,_,.lst h t => .lst (g.seq h) (DVs.mono g t)
 | _,_,.tup h t => .tup (SqT.mono g h) (DVs.mono g t)
theorem DVs.mono {K : PySem.W.Frag} {H H' : Hp} (g : Same H H') : ∀ {v : List V} {d : List PyData},DVs K H v d -> DVs K H' v d
 | _,_,.nil => .nil
 | _,_,.cons h t => .cons (DV.mono g h) (DVs.mono g t)
end
section
variable {X : Cx} {pins : List (Addr × Obj)} {σ : St} {H : Hp} {s : Shared}
theorem Inv.take {D : Addr} {o : HO} (I : Inv X pins σ H s) (f : zF5 X pins H D) (hs : X.s₀.heap.objs.size <= D) (new : ObjOk X.prog X.w (upd H D o) s.heap D o) : Inv X pins σ (upd H D o) s:=by
 obtain ⟨f0,f1,f2,_,f4,f5⟩:=f;have ne : ∀ b ob,X.s₀.heap.get? b = some ob -> b≠D:=λb ob e=>yAh (yAg (yAI e) hs);have nH : ∀ b u,H b = some u -> b≠D:=λb u e z=>by rw [z,f0] at e; cases e
 refine ⟨I.ok,I.os,I.bare,⟨λb ob e n hb hx=>I.base.keep b ob e n hb hx,λb ob e n hb hx=>I.base.slot b ob e n hb hx,λb ob e n hx => ?_,I.base.there,λb xs e => ?_,λb ob xs e => ?_,λb ps e => ?_⟩,I.loc,I.cell,?_,λy c e => ?_,λp hp => ?_,λb u e => ?_,I.len⟩
 ·rw [zA7 (ne b ob e)]; exact I.base.free b ob e n hx
 ·rw [zA7 (nH b _ (I.base.tups b xs e))]; exact I.base.tups b xs e
 ·rw [zA7 (nH b _ (I.base.frzs b ob xs e))]; exact I.base.frzs b ob xs e
 ·obtain ⟨m,q⟩:=I.base.tbls b ps e
  exact ⟨m,by rw [zA7 (nH b _ q)]; exact q⟩
 ·rw [zA7 f1.symm]; exact I.free
 ·rw [zA7 (f4 y c e)]; exact I.freeC y c e
 ·obtain ⟨z1,z2,z3⟩:=I.pin p hp
  exact ⟨z1,by rw [zA7 (f5 p hp)]; exact z2,z3⟩
 ·by_cases hb : b = D
  ·subst hb; rw [zA1] at e; cases e; exact new
  ·rw [zA7 hb] at e
   exact (I.hok b u e).stay (λ_ _ _ q=>q) (λc q=>by rw [zA7 (zA6 q f0)]; exact q) λc xs q=>by rw [zA7 (zA6 q f0)]; exact q
theorem zF9 {prog : Program} {w : World} {A : Around} {E : Value -> Shared -> Prop} {l : Addr} {T : String} {o : Obj} {n : Nat} {vs : List Value} {Q : List Value -> Shared -> Prop} (hT : T = "list" \/ T = "tuple") (ho : s.heap.get? l = some o) (hc : o.cls = .type T)
  (hd : o.data = .seq vs.toArray n) (h : ∀ h',(∀ b u,s.heap.get? b = some u -> h'.get? b = some u) -> Q vs { s with heap:=h' }) (hz : vs.length <= sizeLine) : wpAny (model prog w) A (collect (.ref l)) Q E s:=by
 unfold collect;refine yAA (wpAny_runValue (yCJ entry_proto_collect' ?_));show wpAny _ _ ((newList []) >>= λz=>again (.builtin "list.__iadd__" ⟨[z,.ref l],[]⟩)) _ _ s;refine yAA (yEH (yAH ⟨yCo _ (by decide +kernel),yCJ entry_list_iadd' ?_⟩));show wpAny _ _ (Builtin.List.listExtendWith (.ref s.heap.objs.size) (.ref l) (.ref s.heap.objs.size)) _ _ { s with heap:=s.heap.push (seqObj "list" #[] 0) };unfold Builtin.List.listExtendWith;have ho1:=yAD (seqObj "list" #[] 0) ho;refine yAA (yDm (T:=T) ⟨o,ho1,hc⟩ ?_)
 have hor : (Builtin.List.listSameRef (.ref s.heap.objs.size) (.ref l)||Value.type T == .type "list"||Value.type T == .type "tuple") = true:=by
  rcases hT with rfl | rfl <;> simp
 rw [yAK hor];have hnew : (s.heap.push (seqObj "list" #[] 0)).get? s.heap.objs.size = some (seqObj "list" #[] 0):=yAY _ rfl;refine yAA (yEO ho1 hd (yAA (yEO hnew rfl ?_)));rw [yAN (by simp)];refine yAA (yDF hnew rfl ?_ (yAy _) (by show (#[]++vs.toArray).size <= _; simp; lia));refine yAH ?_;show wpAny (model prog w) A (load s.heap.objs.size >>= λz=>match z.data with | .seq xs _=>pure xs.toList | _=>unsupported "internal:collect") Q E { s with heap:=(s.heap.push (seqObj "list" #[] 0)).update s.heap.objs.size (Obj.mapSeq (· ++ vs.toArray)) };refine yAA (wpAny_load (yDG hnew _) ?_);show wpAny _ _ (pure ((#[] : Array Value)++vs.toArray).toList) Q E _;rw [show ((#[] : Array Value)++vs.toArray).toList = vs by simp];refine yAH (h _ λb u e => ?_);have hb : b≠s.heap.objs.size:=yAh (yAI e);rw [yBN _ _ _ _ hb];exact yAD _ e
theorem zW9 {prog : Program} {w : World} {A : Around} {E : Value -> Shared -> Prop} {st : SortSt} {out : List Value} {D kS : Addr} {e e1 : Nat} {ks : List Value} {P : PySem.Fin -> Shared -> Prop} (hk : s.heap.get? kS = some (seqObj "list" ks.toArray e)) (hD : s.heap.get? D = some (seqObj "list" #[] e1)) (hne : kS≠D)
  (hout : (arrOf st).map (·.2) = out.toArray) (hf : failedOf st = none) (hz : ks.length <= sizeLine) (hz2 : out.length <= sizeLine)
  (h : P (.done (.ret .none)) { s with heap:=(s.heap.update kS (Obj.mapSeq λ_ => #[])).update D (Obj.mapSeq λ_=>out.toArray) }) : wpAny (model prog w) A (ksk_tail D false e1 (.ref kS) st) P E s:=by
 unfold ksk_tail
 try dsimp only
 rw [hout];refine yAA (yDF hk rfl ?_ (by rw [yAF]; exact hz) (yAy _))
 have hD' : (s.heap.update kS (Obj.mapSeq λ_=>(#[] : Array Value))).get? D = some (seqObj "list" #[] e1):=by
  rw [yBN _ _ _ _ hne.symm]; exact hD
 refine yAA (wpAny_letGo (yAA (seqEpoch_at hD' rfl ?_)));refine yAA (yDF hD' rfl ?_ (yAy _) (by simp only [yBK,yCb,yAF]; lia));rw [hf];simp only [bne_self_eq_false,yBK,yCb];exact yAH h
theorem zC5 : ∀ ms : List Int,PyData.canLayAll0 (ms.map PyData.int) = true
 | []=>rfl
 | _::r=>by show (true&&PyData.canLayAll0 (r.map PyData.int)) = true; rw [zC5 r]; rfl
theorem zCP : ∀ ms : List Int,PyData.depthAll (ms.map PyData.int) <= 1
 | []=>by simp [PyData.depthAll]
 | m::r=>by
  have:=zCP r
  simp only [yAp,PyData.depthAll,PyData.depth];lia
theorem zMT (ms : List Int) : (PyData.tuple (ms.map PyData.int)).depth <= 2:=by
 have:=zCP ms
 simp only [PyData.depth];lia
theorem DVs.ints_inv {K : PySem.W.Frag} {ms : List Int} : ∀ {xs : List V},DVs K H xs (ms.map PyData.int) -> xs = ms.map V.int:=by
 induction ms with
 | nil=>intro xs h; cases h; rfl
 | cons m r ih =>
  intro xs h
  cases h with
  | cons a b =>
   cases a
   rw [ih b]; rfl
structure KeyAt (X : Cx) (H : Hp) (s : Shared) (v : Value) (n : Int) (ms : List Int) : Prop where
 ex : ∃ (a b : Addr) (t : Tok) (o : Obj) (k : Nat) (its : List Value) (bs : List Addr),v = .ref a/\s.heap.get? a = some o/\o.cls = .type "tuple"/\o.data = .seq [.int n t,.ref b].toArray k/\IsTup s.heap b its.toArray/\IntsAre its ms/\Reads s.heap (.ref b) (.tuple (ms.map PyData.int)) bs
theorem zX7 {v : V} {u : Value} {n : Int} {ms : List Int} (I : Inv X pins σ H s) (h : DV X.K H v (zYQ (n,ms))) (r : RelV v u) : KeyAt X H s u n ms:=by
 unfold zYQ at h;generalize hd : PyData.tuple [.int n,.tuple (ms.map PyData.int)] = d at h
 cases h with
 | @tup a xs ds hq hs =>
  cases hd
  cases r
  obtain ⟨its,rv,⟨o,e,c,k,d⟩,_⟩:=I.tuple hq
  cases hs with
  | cons h1 t =>
   cases t with
   | cons h2 t2 =>
    cases t2
    generalize hd2 : PyData.int n = d1 at h1
    cases h1 with
    | int i =>
     cases hd2
     generalize hd3 : PyData.tuple (ms.map PyData.int) = d2 at h2;have h2':=h2
     cases h2 with
     | @tup b ys es hq2 hs2 =>
      cases hd3
      have ey:=DVs.ints_inv hs2;subst ey
      cases rv with
      | cons r1 rr =>
       cases rr with
       | cons r2 rr2 =>
        cases rr2
        obtain ⟨t,rfl⟩:=r1
        cases r2
        obtain ⟨its2,rv2,p2,_⟩:=I.tuple hq2;obtain ⟨bs,q⟩:=DV.reads I h2' (u := .ref b) rfl;exact ⟨a,b,t,o,k,its2,bs,rfl,e,c,d,p2,zGP rv2,q⟩
     | _=>cases hd3
    | _=>cases hd2
 | _=>cases hd
theorem zTX {A : Around} {E : Value -> Shared -> Prop} {u v : Value} {n m : Int} {ms ks : List Int} {C : Bool -> Shared -> Prop} (hu : A.units + 10 < cLine) (h1 : KeyAt X H s u n ms) (h2 : KeyAt X H s v m ks) (h : C (zB2 (n,ms) (m,ks)) s) :
  wpAny (model X.prog X.w) A (keyLt' (tuples' true) u v) C E s:=by
 obtain ⟨a,b,t,o,k,its,bs,rfl,e,c,d,p,ia,rd⟩:=h1.ex;obtain ⟨a',b',t',o',k',its',bs',rfl,e',c',d',p',ia',rd'⟩:=h2.ex;refine kat_lt e d e' d' (kat_cons (yDH n t m t' _ _ _ _ ?_));refine kat_go (λz => ?_) (λz => ?_)
 ·have en : n = m:=by simpa using z
  subst en;refine kat_yes (kat_cons (SeqAt.eqAt_reads _ _ A s _ _ _ _ rd rd' ?_ ?_ ?_ _ _ _ _ ?_))
  ·show PyData.canLayAll0 (ms.map PyData.int) = true
   exact zC5 ms
  ·show PyData.canLayAll0 (ks.map PyData.int) = true
   exact zC5 ks
  ·have q : (PyData.tuple (ms.map PyData.int)).depth <= 2:=zMT ms
   have:=yES (PyData.tuple (ms.map PyData.int)).depth (PyData.tuple (ks.map PyData.int)).depth
   lia
  ·have eq1 : PyData.eqv (.tuple (ms.map PyData.int)) (.tuple (ks.map PyData.int)) = decide (ms = ks):=by
    rw [PyData.eqv]; exact ked_eqvAll ms ks
   have hk : zB2 (n,ms) (n,ks) = HT.lexLt ms ks:=by unfold zB2; rw [yAK rfl]
   rw [hk] at h;refine kat_go (λy => ?_) (λy => ?_)
   ·rw [eq1] at y
    have em:=yAl y;subst em;rw [zH2] at h;exact kat_yes (kat_nil h)
   ·refine kat_no (kat_one _ _ ?_)
    exact HT.lt_tupInts (items:=its.toArray) (items2:=its'.toArray) p p' ia ia' (by lia) h
 ·have en : ¬ n = m:=by simpa using z
  have hk : zB2 (n,ms) (m,ks) = decide (n < m):=by unfold zB2; rw [yAN en]
  rw [hk] at h;exact kat_no (oneLt_int h)
end
end L2
namespace L2T
open PySem PyProof.Rows
noncomputable def zDG : Bool -> Keyed -> Array Keyed -> Nat -> Nat -> Nat -> StateT SortSt Sem (Option Nat):=sortPriv% PySem.Builtin.gallop
noncomputable def zK9 : Array Keyed -> Array Keyed -> StateT SortSt Sem (Array Keyed):=sortPriv% PySem.Builtin.mergeLo
noncomputable def zLE : Array Keyed -> Array Keyed -> StateT SortSt Sem (Array Keyed):=sortPriv% PySem.Builtin.mergeHi
noncomputable def zOV : Nat -> StateT SortSt Sem Unit:=sortPriv% PySem.Builtin.setMinGallop
structure Ord (R : Keyed -> Keyed -> Bool) : Prop where
 as : ∀ x y,R x y = true -> R y x = false
 tr : ∀ x y z,R y x = false -> R z y = false -> R z x = false
theorem Ord.irr {R : Keyed -> Keyed -> Bool} (O : Ord R) (x : Keyed) : R x x = false:=by
 cases h : R x x with
 | false=>rfl
 | true=>rw [O.as x x h] at h; cases h
structure Cmp (prog : Program) (w : World) (A : Around) (s : Shared) (κ : SortKind) (R : Keyed -> Keyed -> Bool) (P : Keyed -> Prop) : Prop where
 ask : ∀ x y,P x -> P y -> ∀ (C : Bool -> Shared -> Prop) (E : Value -> Shared -> Prop),C (R x y) s -> wpAny (model prog w) A (keyLt' κ x.1 y.1) C E s
noncomputable def at_ (xs : Array Keyed) (i : Nat) : Keyed:=xs.getD i (Value.none,Value.none)
theorem zT1 {xs : Array Keyed} {i : Nat} (h : i < xs.size) : xs[i]? = some (at_ xs i):=by
 unfold at_
 simp [Array.getD,h]
section
variable {prog : Program} {w : World} {A : Around} {E : Value -> Shared -> Prop} {s : Shared} {κ : SortKind} {R : Keyed -> Keyed -> Bool} {P : Keyed -> Prop} {st : SortSt}
theorem zHO {x y : Keyed} {Q : Option Bool -> SortSt -> Prop} (C : Cmp prog w A s κ R P) (hk : kindOf st = κ) (hx : P x) (hy : P y) (h : Q (some (R x y)) st) : wpS (model prog w) A E s (lt' x y) Q st:=by
 rw [lt'_eq];refine yAO (yEG ?_);rw [hk];refine yAO (wpS_lift (wpAny_attempt (C.ask x y hx hy _ _ ⟨rfl,?_⟩)));exact yAX h
theorem zAS {α : Type} {M : Model} {st : SortSt} {c : Prop} [Decidable c] {x y : StateT SortSt Sem α} {Q : α -> SortSt -> Prop} (h1 : c -> wpS M A E s x Q st) (h2 : ¬c -> wpS M A E s y Q st) : wpS M A E s (if c then x else y) Q st:=by
 by_cases h : c
 ·rw [yAK h]; exact h1 h
 ·rw [yAN h]; exact h2 h
structure Box (G : Prop) : Prop where
 k : G
theorem zHI {G T : Prop} (use : Box G -> T) (pf : G) : T:=use ⟨pf⟩
theorem zWF {γ σ : Type} {I T : γ -> σ -> Prop} {G : (γ -> σ -> Prop) -> Prop} (use : ∀ T : γ -> σ -> Prop,Box (G T) -> ∀ c st',I c st' -> T c st') (pf : G T) : ∀ c st',I c st' -> T c st':=use T ⟨pf⟩
theorem zYN {γ σ : Type} {I T : γ -> σ -> Prop} {G G' : (γ -> σ -> Prop) -> Prop} (use : ∀ T : γ -> σ -> Prop,Box (G T) -> Box (G' T) -> ∀ c st',I c st' -> T c st') (pf : G T) (pg : G' T) : ∀ c st',I c st' -> T c st':=use T ⟨pf⟩ ⟨pg⟩
theorem zAK {xs : Array Keyed} {i : Nat} {Q : Keyed -> SortSt -> Prop} (h : i < xs.size) (q : Q (at_ xs i) st) : wpS (model prog w) A E s (elem' xs i) Q st:=by
 rw [elem'_eq,zT1 h];exact yAX q
noncomputable def bey (R : Keyed -> Keyed -> Bool) (left : Bool) (key : Keyed) (xs : Array Keyed) (base i : Nat) : Bool:=if left = true then R (at_ xs (base + i)) key else !R key (at_ xs (base + i))
noncomputable def zTL (left : Bool) (key : Keyed) (xs : Array Keyed) (base i : Nat) : StateT SortSt Sem (Option Bool) :=
 elem' xs (base + i) >>= λx=>if left = true then lt' x key else (lt' key x >>= λr=>pure (Option.map (λb => !b) r))
theorem zWA {left : Bool} {key : Keyed} {xs : Array Keyed} {base i : Nat} {Q : Option Bool -> SortSt -> Prop} (C : Cmp prog w A s κ R P) (hk : kindOf st = κ) (hy : P key) (hi : base + i < xs.size) (hx : P (at_ xs (base + i))) (h : Q (some (bey R left key xs base i)) st) : wpS (model prog w) A E s (zTL left key xs base i) Q st:=by
 unfold zTL;refine yAO (zAK hi ?_);unfold bey at h
 cases left with
 | true =>
  rw [yAK rfl] at h ⊢;exact zHO C hk hx hy h
 | false =>
  rw [yAN yAW] at h ⊢;exact yAO (zHO C hk hy hx (yAX h))
structure Gal (R : Keyed -> Keyed -> Bool) (left : Bool) (key : Keyed) (xs : Array Keyed) (base n k : Nat) : Prop where
 le : k <= n
 lo : ∀ i,i < k -> bey R left key xs base i = true
 hi : ∀ i,k <= i -> i < n -> bey R left key xs base i = false
theorem zC2 {left : Bool} {key : Keyed} {xs : Array Keyed} {base n hint : Nat} {Q : Option Nat -> SortSt -> Prop} (C : Cmp prog w A s κ R P) (hk : kindOf st = κ) (hy : P key) (hx : ∀ i,i < n -> base + i < xs.size/\P (at_ xs (base + i)))
  (mono : ∀ i j,i <= j -> j < n -> bey R left key xs base j = true -> bey R left key xs base i = true) (hh : hint < n) (h : ∀ k,Gal R left key xs base n k -> Q (some k) st) :
  wpS (model prog w) A E s (zDG left key xs base n hint) Q st:=by
 have ask : ∀ {i : Nat} {Q' : Option Bool -> SortSt -> Prop},i < n -> Q' (some (bey R left key xs base i)) st -> wpS (model prog w) A E s (zTL left key xs base i) Q' st:=λhi q=>zWA C hk hy (hx _ hi).1 (hx _ hi).2 q;refine yAO (m:=zTL left key xs base hint) (f:=_) (ask hh ?_);dsimp only
 have down : ∀ i j,i <= j -> j < n -> bey R left key xs base i = false -> bey R left key xs base j = false:=λi j hij hj e=>by
  cases z : bey R left key xs base j with
  | false=>rfl
  | true=>rw [mono i j hij hj z] at e; cases e
 cases hb : bey R left key xs base hint with
 | true =>
  simp only [yDu]
  refine yAO (m:=_) (f:=_) (yCN (yBZ (I:=λx c st'=>st' = st/\∃ l o,c = (none,l,o)/\hint + l < n/\l < o/\x + 1 <= o/\bey R left key xs base (hint + l) = true)
   (Q:=λc st'=>st' = st/\∃ l o,c = (none,l,o)/\hint + l < n/\l < o/\bey R left key xs base (hint + l) = true/\(n - hint <= o \/ bey R left key xs base (hint + o) = false)) ?step ?fin ⟨rfl,0,1,rfl,hh,by lia,by lia,hb⟩) ?post)
  case fin =>
   rintro c st' ⟨rfl,l,o,rfl,h1,h2,h3,h4⟩
   exact ⟨rfl,l,o,rfl,h1,h2,h4,.inl (by lia)⟩
  case step =>
   rintro x c st' _ hxn ⟨rfl,l,o,rfl,h1,h2,h3,h4⟩
   dsimp only
   by_cases hge : o >= n - hint
   ·rw [yAK hge]
    exact yAX ⟨rfl,l,o,rfl,h1,h2,h4,.inl hge⟩
   ·rw [yAN hge]
    refine yAO (m:=zTL left key xs base (hint + o)) (f:=_) (ask (by lia) ?_);dsimp only
    cases ho : bey R left key xs base (hint + o) with
    | false=>exact yAX ⟨rfl,l,o,rfl,h1,h2,h4,.inr ho⟩
    | true=>exact yAX ⟨rfl,o,2 * o + 1,rfl,by lia,by lia,by lia,ho⟩
  case post =>
   rintro c st' ⟨rfl,l,o,rfl,h1,h2,h4,h5⟩
   dsimp only
   refine yAO (m:=_) (f:=_) (yCN (yBZ (I:=λx c st3=>st3 = st'/\∃ lo hi,c = (none,lo,hi)/\lo <= hi/\hi <= n/\hi - lo <= n - x/\(∀ i,i < lo -> bey R left key xs base i = true)/\∀ i,hi <= i -> i < n -> bey R left key xs base i = false)
    (Q:=λc st3=>st3 = st'/\∃ lo hi,c = (none,lo,hi)/\Gal R left key xs base n hi) ?ts1 ?tf1 ?ti1) ?tp1)
   case tf1 =>
    rintro c st' ⟨rfl,lo,hi,rfl,a1,a2,a3,a4,a5⟩
    have e : lo = hi:=by lia
    subst e;exact ⟨rfl,lo,lo,rfl,a2,a4,a5⟩
   case tp1 =>
    rintro c st' ⟨rfl,lo,hi,rfl,g⟩
    exact yAX (h hi g)
   case ts1 =>
    rintro x c st' _ hxn ⟨rfl,lo,hi,rfl,a1,a2,a3,a4,a5⟩
    dsimp only
    by_cases hge : lo >= hi
    ·rw [yAK hge]
     have e : lo = hi:=by lia
     subst e;exact yAX ⟨rfl,lo,lo,rfl,a2,a4,a5⟩
    ·rw [yAN hge]
     refine yAO (m:=zTL left key xs base (lo + (hi - lo) / 2)) (f:=_) (ask (by lia) ?_);dsimp only
     cases hm : bey R left key xs base (lo + (hi - lo) / 2) with
     | true=>exact yAX ⟨rfl,_,_,rfl,by lia,a2,by lia,λi hi'=>mono i _ (by lia) (by lia) hm,a5⟩
     | false=>exact yAX ⟨rfl,_,_,rfl,by lia,by lia,by lia,a4,λi b1 b2=>down _ i b1 b2 hm⟩
   refine ⟨rfl,hint + l + 1,hint + min o (n - hint),rfl,by lia,by lia,by lia,λi hi=>mono i (hint + l) (by lia) h1 h4,λi h6 h7 => ?_⟩
   ·rcases h5 with h5 | h5
    ·lia
    ·exact down (hint + o) i (by lia) h7 h5
 | false =>
  simp only [yBK,yCb]
  refine yAO (m:=_) (f:=_) (yCN (yBZ (I:=λx c st'=>st' = st/\∃ l o,c = (none,l,o)/\l <= hint/\l < o/\x + 1 <= o/\bey R left key xs base (hint - l) = false)
   (Q:=λc st'=>st' = st/\∃ l o,c = (none,l,o)/\l <= hint/\l < o/\bey R left key xs base (hint - l) = false/\(hint + 1 <= o \/ (o <= hint/\bey R left key xs base (hint - o) = true))) ?step2 ?fin2 ⟨rfl,0,1,rfl,by lia,by lia,by lia,hb⟩) ?post2)
  case fin2 =>
   rintro c st' ⟨rfl,l,o,rfl,h1,h2,h3,h4⟩
   exact ⟨rfl,l,o,rfl,h1,h2,h4,.inl (by lia)⟩
  case step2 =>
   rintro x c st' _ hxn ⟨rfl,l,o,rfl,h1,h2,h3,h4⟩
   dsimp only
   by_cases hge : o >= hint + 1
   ·rw [yAK hge]
    exact yAX ⟨rfl,l,o,rfl,h1,h2,h4,.inl hge⟩
   ·rw [yAN hge]
    refine yAO (m:=zTL left key xs base (hint - o)) (f:=_) (ask (by lia) ?_);dsimp only
    cases ho : bey R left key xs base (hint - o) with
    | true=>exact yAX ⟨rfl,l,o,rfl,h1,h2,h4,.inr ⟨by lia,ho⟩⟩
    | false=>exact yAX ⟨rfl,o,2 * o + 1,rfl,by lia,by lia,by lia,ho⟩
  case post2 =>
   rintro c st' ⟨rfl,l,o,rfl,h1,h2,h4,h5⟩
   dsimp only
   refine yAO (m:=_) (f:=_) (yCN (yBZ (I:=λx c st3=>st3 = st'/\∃ lo hi,c = (none,lo,hi)/\lo <= hi/\hi <= n/\hi - lo <= n - x/\(∀ i,i < lo -> bey R left key xs base i = true)/\∀ i,hi <= i -> i < n -> bey R left key xs base i = false)
    (Q:=λc st3=>st3 = st'/\∃ lo hi,c = (none,lo,hi)/\Gal R left key xs base n hi) ?ts2 ?tf2 ?ti2) ?tp2)
   case tf2 =>
    rintro c st' ⟨rfl,lo,hi,rfl,a1,a2,a3,a4,a5⟩
    have e : lo = hi:=by lia
    subst e;exact ⟨rfl,lo,lo,rfl,a2,a4,a5⟩
   case tp2 =>
    rintro c st' ⟨rfl,lo,hi,rfl,g⟩
    exact yAX (h hi g)
   case ts2 =>
    rintro x c st' _ hxn ⟨rfl,lo,hi,rfl,a1,a2,a3,a4,a5⟩
    dsimp only
    by_cases hge : lo >= hi
    ·rw [yAK hge]
     have e : lo = hi:=by lia
     subst e;exact yAX ⟨rfl,lo,lo,rfl,a2,a4,a5⟩
    ·rw [yAN hge]
     refine yAO (m:=zTL left key xs base (lo + (hi - lo) / 2)) (f:=_) (ask (by lia) ?_);dsimp only
     cases hm : bey R left key xs base (lo + (hi - lo) / 2) with
     | true=>exact yAX ⟨rfl,_,_,rfl,by lia,a2,by lia,λi hi'=>mono i _ (by lia) (by lia) hm,a5⟩
     | false=>exact yAX ⟨rfl,_,_,rfl,by lia,by lia,by lia,a4,λi b1 b2=>down _ i b1 b2 hm⟩
   refine ⟨rfl,hint + 1 - min o (hint + 1),hint - l,rfl,by lia,by lia,by lia,λi hi => ?_,λi h6 h7=>down (hint - l) i h6 h7 h4⟩
   ·rcases h5 with h5 | ⟨h5,h6⟩
    ·lia
    ·exact mono i (hint - o) (by lia) (by lia) h6
end
end L2T
namespace L2T
open PySem PyProof.Rows
noncomputable def Srt (R : Keyed -> Keyed -> Bool) (xs : Array Keyed) : Prop:=∀ i j,i <= j -> j < xs.size -> R (at_ xs j) (at_ xs i) = false
structure Mg (R : Keyed -> Keyed -> Bool) (a b out : Array Keyed) (ia ib : Nat) : Prop where
 la : ia <= a.size
 lb : ib <= b.size
 perm : out.toList.Perm (a.toList.take ia++b.toList.take ib)
 srt : out.toList.Pairwise λx y=>R y x = false
 ua : ∀ x∈out.toList,∀ i,ia <= i -> i < a.size -> R (at_ a i) x = false
 ub : ∀ x∈out.toList,∀ i,ib <= i -> i < b.size -> R (at_ b i) x = false
noncomputable def zJL (R : Keyed -> Keyed -> Bool) (a b m : Array Keyed) : Prop:=m.toList.Perm (a.toList++b.toList)/\m.toList.Pairwise λx y=>R y x = false
theorem at_toList {xs : Array Keyed} {i : Nat} (h : i < xs.size) : xs.toList[i]? = some (at_ xs i):=by
 rw [<- zT1 h]; simp
theorem zK7 {xs : Array Keyed} {i : Nat} (h : i < xs.size) : xs.toList.take (i + 1) = xs.toList.take i++[at_ xs i]:=by
 rw [yBX,at_toList h]; rfl
theorem zLP {xs : Array Keyed} {i k : Nat} (h : i + k < xs.size) (out : Array Keyed) : out++xs.extract i (i + (k + 1)) = (out++xs.extract i (i + k)).push (at_ xs (i + k)):=by
 apply yBl.mp;rw [yAo,yDC,yDC,yBf]
 congr 1
 rw [yBh,yBh,yBM,yBM];have e1 : i + (k + 1) - i = k + 1:=by lia
 have e2 : i + k - i = k:=by lia
 rw [e1,e2,yBX,yCm,at_toList h];rfl
theorem zF2 (xs out : Array Keyed) (i : Nat) : out++xs.extract i (i + 0) = out:=by
 apply yBl.mp;rw [yDC,yBh,yBM]
 simp
theorem Mg.pushA {R : Keyed -> Keyed -> Bool} {a b out : Array Keyed} {ia ib : Nat} (h : Mg R a b out ia ib) (sa : Srt R a) (hi : ia < a.size) (le : ∀ i,ib <= i -> i < b.size -> R (at_ b i) (at_ a ia) = false) : Mg R a b (out.push (at_ a ia)) (ia + 1) ib:=by
 refine ⟨hi,h.lb,?_,?_,λx hx i h1 h2 => ?_,λx hx i h1 h2 => ?_⟩
 ·rw [yAo,zK7 hi,yBf]
  refine (h.perm.append_right [at_ a ia]).trans ?_;rw [yBf];exact List.Perm.append_left _ yDX
 ·rw [yAo,List.pairwise_append]
  refine ⟨h.srt,yCG _ _,λx hx y hy => ?_⟩;rw [yAJ.mp hy];exact h.ua x hx ia (yAG _) hi
 ·rw [yAo] at hx
  rcases yAm.mp hx with hx | hx
  ·exact h.ua x hx i (by lia) h2
  ·rw [yAJ.mp hx]; exact sa ia i (by lia) h2
 ·rw [yAo] at hx
  rcases yAm.mp hx with hx | hx
  ·exact h.ub x hx i h1 h2
  ·rw [yAJ.mp hx]; exact le i h1 h2
theorem Mg.pushB {R : Keyed -> Keyed -> Bool} {a b out : Array Keyed} {ia ib : Nat} (h : Mg R a b out ia ib) (sb : Srt R b) (hi : ib < b.size) (le : ∀ i,ia <= i -> i < a.size -> R (at_ a i) (at_ b ib) = false) : Mg R a b (out.push (at_ b ib)) ia (ib + 1):=by
 refine ⟨h.la,hi,?_,?_,λx hx i h1 h2 => ?_,λx hx i h1 h2 => ?_⟩
 ·rw [yAo,zK7 hi,<- yBf]
  exact h.perm.append_right [at_ b ib]
 ·rw [yAo,List.pairwise_append]
  refine ⟨h.srt,yCG _ _,λx hx y hy => ?_⟩;rw [yAJ.mp hy];exact h.ub x hx ib (yAG _) hi
 ·rw [yAo] at hx
  rcases yAm.mp hx with hx | hx
  ·exact h.ua x hx i h1 h2
  ·rw [yAJ.mp hx]; exact le i h1 h2
 ·rw [yAo] at hx
  rcases yAm.mp hx with hx | hx
  ·exact h.ub x hx i (by lia) h2
  ·rw [yAJ.mp hx]; exact sb ib i (by lia) h2
theorem Mg.appA {R : Keyed -> Keyed -> Bool} {a b out : Array Keyed} {ia ib : Nat} (h : Mg R a b out ia ib) (sa : Srt R a) : ∀ k,ia + k <= a.size -> (∀ j,j < k -> ∀ i,ib <= i -> i < b.size -> R (at_ b i) (at_ a (ia + j)) = false) -> Mg R a b (out++a.extract ia (ia + k)) (ia + k) ib
 | 0,_,_=>by rw [zF2]; exact h
 | k + 1,hk,le=>by
  rw [zLP (by lia)];exact (h.appA sa k (by lia) λj hj=>le j (by lia)).pushA sa (by lia) (le k (by lia))
theorem Mg.appB {R : Keyed -> Keyed -> Bool} {a b out : Array Keyed} {ia ib : Nat} (h : Mg R a b out ia ib) (sb : Srt R b) : ∀ k,ib + k <= b.size -> (∀ j,j < k -> ∀ i,ia <= i -> i < a.size -> R (at_ a i) (at_ b (ib + j)) = false) -> Mg R a b (out++b.extract ib (ib + k)) ia (ib + k)
 | 0,_,_=>by rw [zF2]; exact h
 | k + 1,hk,le=>by
  rw [zLP (by lia)];exact (h.appB sb k (by lia) λj hj=>le j (by lia)).pushB sb (by lia) (le k (by lia))
theorem Mg.good {R : Keyed -> Keyed -> Bool} {a b out : Array Keyed} (h : Mg R a b out a.size b.size) : zJL R a b out:=by
 refine ⟨?_,h.srt⟩;have p:=h.perm;rw [yAt (by simp),yAt (by simp)] at p;exact p
theorem zTT (xs out : Array Keyed) : out++xs.extract xs.size xs.size = out:=by
 apply yBl.mp
 simp
theorem Mg.done {R : Keyed -> Keyed -> Bool} {a b out : Array Keyed} {ia ib : Nat} (h : Mg R a b out ia ib) (sa : Srt R a) (e : ib = b.size) : zJL R a b (out++a.extract ia a.size++b.extract ib b.size):=by
 subst e;rw [zTT];have la:=h.la;have q:=h.appA sa (a.size - ia) (by lia) λj hj i h1 h2=>by lia
 rw [show ia + (a.size - ia) = a.size by lia] at q;exact q.good
theorem Mg.lastA {R : Keyed -> Keyed -> Bool} {a b out : Array Keyed} {ia ib : Nat} (h : Mg R a b out ia ib) (sa : Srt R a) (sb : Srt R b) (e : ia + 1 = a.size) (le : ∀ j,j < b.size -> R (at_ a (a.size - 1)) (at_ b j) = false) : zJL R a b (out++b.extract ib b.size++a.extract ia a.size):=by
 have lb:=h.lb
 have q:=h.appB sb (b.size - ib) (by lia) λj hj i h1 h2=>by
  have : i = a.size - 1:=by lia
  subst this;exact le _ (by lia)
 rw [show ib + (b.size - ib) = b.size by lia] at q;have q2:=q.appA sa (a.size - ia) (by lia) λj hj i h1 h2=>by lia
 rw [show ia + (a.size - ia) = a.size by lia] at q2;exact q2.good
structure Pre (R : Keyed -> Keyed -> Bool) (P : Keyed -> Prop) (a b : Array Keyed) : Prop where
 sa : Srt R a
 sb : Srt R b
 na : 1 <= a.size
 nb : 1 <= b.size
 fst : R (at_ b 0) (at_ a 0) = true
 lst : ∀ j,j < b.size -> R (at_ b j) (at_ a (a.size - 1)) = true
 pa : ∀ i,i < a.size -> P (at_ a i)
 pb : ∀ i,i < b.size -> P (at_ b i)
noncomputable abbrev zC8 (st : SortSt) (g : Nat) : SortSt:=SortSt.mk' (kindOf st) (arrOf st) (pendingOf st) g (failedOf st)
section
variable {prog : Program} {w : World} {A : Around} {E : Value -> Shared -> Prop} {s : Shared} {κ : SortKind} {R : Keyed -> Keyed -> Bool} {P : Keyed -> Prop} {st : SortSt}
theorem zEZ {g : Nat} {Q : Unit -> SortSt -> Prop} (h : Q () (zC8 st g)) : wpS (model prog w) A E s (zOV g) Q st:=yDw h
theorem Pre.le {a b : Array Keyed} (O : Ord R) (hp : Pre R P a b) : ∀ j,j < b.size -> R (at_ a (a.size - 1)) (at_ b j) = false:=λj hj=>O.as _ _ (hp.lst j hj)
theorem zVX {left : Bool} {key : Keyed} {xs : Array Keyed} {base i : Nat} (e : left = true) : bey R left key xs base i = R (at_ xs (base + i)) key:=by subst e; rfl
theorem zV6 {left : Bool} {key : Keyed} {xs : Array Keyed} {base i : Nat} (e : left = false) : bey R left key xs base i = !R key (at_ xs (base + i)):=by subst e; rfl
theorem zDA {left : Bool} {key : Keyed} {xs : Array Keyed} {base n : Nat} (O : Ord R) (so : ∀ i j,i <= j -> j < n -> R (at_ xs (base + j)) (at_ xs (base + i)) = false) : ∀ i j,i <= j -> j < n -> bey R left key xs base j = true -> bey R left key xs base i = true:=λi j hij hj e=>by
 have so:=so i j hij hj
 cases left with
 | true =>
  rw [zVX rfl] at e ⊢
  cases z : R (at_ xs (base + i)) key with
  | true=>rfl
  | false=>rw [O.tr _ _ _ z so] at e; cases e
 | false =>
  rw [zV6 rfl] at e ⊢;rw [yEE] at e ⊢;exact O.tr _ _ _ so e
theorem Gal.loF {key : Keyed} {xs : Array Keyed} {base n k i : Nat} (g : Gal R false key xs base n k) (h : i < k) : R key (at_ xs (base + i)) = false:=by
 have:=g.lo i h
 rwa [zV6 rfl,yEE] at this
theorem Gal.hiF {key : Keyed} {xs : Array Keyed} {base n k i : Nat} (g : Gal R false key xs base n k) (h : k <= i) (h' : i < n) : R key (at_ xs (base + i)) = true:=by
 have:=g.hi i h h'
 rwa [zV6 rfl,Bool.not_eq_false'] at this
theorem Gal.loT {key : Keyed} {xs : Array Keyed} {base n k i : Nat} (g : Gal R true key xs base n k) (h : i < k) : R (at_ xs (base + i)) key = true:=by
 have:=g.lo i h
 rwa [zVX rfl] at this
theorem Gal.hiT {key : Keyed} {xs : Array Keyed} {base n k i : Nat} (g : Gal R true key xs base n k) (h : k <= i) (h' : i < n) : R (at_ xs (base + i)) key = false:=by
 have:=g.hi i h h'
 rwa [zVX rfl] at this
set_option maxHeartbeats 2000000 in
theorem zJU {a b : Array Keyed} {Q : Array Keyed -> SortSt -> Prop} (O : Ord R) (C : Cmp prog w A s κ R P) (hk : kindOf st = κ) (hp : Pre R P a b) (h : ∀ m g,zJL R a b m -> Q m (zC8 st g)) : wpS (model prog w) A E s (zK9 a b) Q st:=by
 have na:=hp.na;have nb:=hp.nb;have les:=hp.le O;refine yAO (m:=_) (f:=_) (wpS_lift (yDD ⟨rfl,?_⟩));dsimp only;refine yAO (m:=elem' b 0) (f:=_) (zAK (by lia) ?_)
 have M0 : Mg R a b #[at_ b 0] 0 1:=by
  refine ⟨yAy _,nb,?_,yCG _ _,λx hx i h1 h2 => ?_,λx hx i h1 h2 => ?_⟩
  ·rw [zK7 (by lia : 0 < b.size)]; exact List.Perm.refl _
  ·rw [yAJ.mp hx]
   exact O.tr _ (at_ a 0) _ (O.as _ _ hp.fst) (hp.sa 0 i (yAy _) h2)
  ·rw [yAJ.mp hx]
   exact hp.sb 0 i (yAy _) h2
 refine zAS (λc1=>yAX (h _ (gallopOf st) (M0.done hp.sa (yAe.mp c1)))) (λc1 => ?_);refine zAS (λc2=>yAX (h _ (gallopOf st) (M0.lastA hp.sa hp.sb (yAe.mp c2) les))) (λc2 => ?_);have c1' : 1≠b.size:=λz=>c1 (yAe.mpr z);have c2' : 0 + 1≠a.size:=λz=>c2 (yAe.mpr z);refine yAO (m:=_) (f:=_) (yEG ?_)
 refine yAO (m:=_) (f:=_) (yCN (yBZ (I:=λx c st'=>(∃ g,st' = zC8 st g)/\∃ out ia ib mg,c = (none,out,ia,ib,mg)/\Mg R a b out ia ib/\ia + 1 < a.size/\ib < b.size/\x + 1 <= ia + ib)
  (Q:=λc st'=>(∃ g,st' = zC8 st g)/\∃ m r,c = (some m,r)/\zJL R a b m) ?step ?fin ⟨⟨gallopOf st,rfl⟩,_,_,_,_,rfl,M0,by lia,by lia,by lia⟩) ?post)
 case fin =>
  rintro c st' ⟨_,out,ia,ib,mg,_,_,h1,h2,h3⟩
  exfalso; lia
 case post =>
  rintro c st' ⟨⟨g,rfl⟩,m,r,rfl,hG⟩
  exact yAX (h m g hG)
 case step =>
  intro x c st' h8 hx;clear h8;revert c st';apply zWF
  case use =>
   rintro T key c st' ⟨⟨g,rfl⟩,out,ia,ib,mg,rfl,M,ha,hb,hxi⟩
   revert g out ia ib mg M ha hb hxi;exact key.k
  intro g out ia ib mg M ha hb hxi;dsimp only
  refine yAO (m:=_) (f:=_) (yCN (yBZ (I:=λy c st'=>(∃ g,st' = zC8 st g)/\∃ out' ia' ib' ac bc,c = (none,out',ia',ib',ac,bc)/\Mg R a b out' ia' ib'/\ia' + 1 < a.size/\ib' < b.size/\ia + ib + y <= ia' + ib')
   (Q:=λc st'=>(∃ g,st' = zC8 st g)/\((∃ m r,c = (some m,r)/\zJL R a b m) \/ ∃ out' ia' ib' ac bc,c = (none,out',ia',ib',ac,bc)/\Mg R a b out' ia' ib'/\ia' + 1 < a.size/\ib' < b.size/\ia + ib + 1 <= ia' + ib')) ?s1 ?f1 ⟨⟨g,rfl⟩,_,_,_,_,_,rfl,M,ha,hb,by lia⟩) ?p1)
  case f1 =>
   rintro c st' ⟨_,out',ia',ib',ac,bc,_,_,h1,h2,h3⟩
   exfalso; lia
  case s1 =>
   intro y c st' h8 hy;clear h8;revert c st';apply zWF
   case use =>
    rintro T key c st' ⟨⟨g,rfl⟩,out,ia',ib',ac,bc,rfl,M,ha,hb,hxi⟩
    revert g out ia' ib' ac bc M ha hb hxi;exact key.k
   intro g out ia' ib' ac bc M ha hb hxi;dsimp only;refine yAO (m:=elem' b ib') (f:=_) (zAK (by lia) ?_);refine yAO (m:=elem' a ia') (f:=_) (zAK (by lia) ?_);refine yAO (m:=lt' (at_ b ib') (at_ a ia')) (f:=_) (zHO C hk (hp.pb _ (by lia)) (hp.pa _ (by lia)) ?_);dsimp only
   cases hR : R (at_ b ib') (at_ a ia') with
   | true =>
    simp only [yDu];refine yAO (m:=elem' b ib') (f:=_) (zAK (by lia) ?_);have M':=M.pushB hp.sb hb λi h1 h2=>O.tr _ (at_ a ia') _ (O.as _ _ hR) (hp.sa ia' i h1 h2);refine zAS (λd1=>yAX ⟨⟨g,rfl⟩,.inl ⟨_,_,rfl,M'.done hp.sa (yAe.mp d1)⟩⟩) (λd1 => ?_);have d1' : ib' + 1≠b.size:=λz=>d1 (yAe.mpr z);exact zAS (λd2=>yAX ⟨⟨g,rfl⟩,.inr ⟨_,_,_,_,_,rfl,M',ha,by lia,by lia⟩⟩) (λd2=>yAX ⟨⟨g,rfl⟩,_,_,_,_,_,rfl,M',ha,by lia,by lia⟩)
   | false =>
    simp only [yBK,yCb];refine yAO (m:=elem' a ia') (f:=_) (zAK (by lia) ?_);have M':=M.pushA hp.sa (by lia) λi h1 h2=>O.tr _ (at_ b ib') _ hR (hp.sb ib' i h1 h2);refine zAS (λd1=>yAX ⟨⟨g,rfl⟩,.inl ⟨_,_,rfl,M'.lastA hp.sa hp.sb (yAe.mp d1) les⟩⟩) (λd1 => ?_);have d1' : ia' + 1 + 1≠a.size:=λz=>d1 (yAe.mpr z);exact zAS (λd2=>yAX ⟨⟨g,rfl⟩,.inr ⟨_,_,_,_,_,rfl,M',by lia,hb,by lia⟩⟩) (λd2=>yAX ⟨⟨g,rfl⟩,_,_,_,_,_,rfl,M',by lia,hb,by lia⟩)
  case p1 =>
   apply zYN
   case use =>
    rintro T key key2 c st' ⟨⟨g,rfl⟩,⟨m,r,rfl,hG⟩ | ⟨out1,ia1,ib1,ac,bc,rfl,M1,ha1,hb1,hx1⟩⟩
    ·revert g m r hG
     exact key.k
    ·revert g out1 ia1 ib1 ac bc M1 ha1 hb1 hx1
     exact key2.k
   ·intro g m r hG
    exact yAX ⟨⟨g,rfl⟩,m,_,rfl,hG⟩
   ·intro g out1 ia1 ib1 ac bc M1 ha1 hb1 hx1
    dsimp only;refine yAO (m:=_) (f:=_) (wpS_lift (yDD ⟨rfl,?_⟩))
    refine yAO (m:=_) (f:=_) (yCN (yBZ (I:=λy c st'=>(∃ g,st' = zC8 st g)/\∃ out' ia' ib' mg' ac bc,c = (none,out',ia',ib',mg',ac,bc)/\Mg R a b out' ia' ib'/\ia' + 1 < a.size/\ib' < b.size/\ia + ib + 1 + y <= ia' + ib')
     (Q:=λc st'=>(∃ g,st' = zC8 st g)/\((∃ m r,c = (some m,r)/\zJL R a b m) \/ ∃ out' ia' ib' mg' ac bc,c = (none,out',ia',ib',mg',ac,bc)/\Mg R a b out' ia' ib'/\ia' + 1 < a.size/\ib' < b.size/\ia + ib + 1 <= ia' + ib')) ?s2 ?f2 ⟨⟨g,rfl⟩,_,_,_,_,_,_,rfl,M1,ha1,hb1,by lia⟩) ?p2)
    case f2 =>
     rintro c st' ⟨_,out',ia',ib',mg',ac,bc,_,_,h1,h2,h3⟩
     exfalso; lia
    case p2 =>
     apply zYN
     case use =>
      rintro T key key2 c st' ⟨⟨g,rfl⟩,⟨m,r,rfl,hG⟩ | ⟨out2,ia2,ib2,mg2,ac2,bc2,rfl,M2,ha2,hb2,hx2⟩⟩
      ·revert g m r hG
       exact key.k
      ·revert g out2 ia2 ib2 mg2 ac2 bc2 M2 ha2 hb2 hx2
       exact key2.k
     ·intro g m r hG
      exact yAX ⟨⟨g,rfl⟩,m,_,rfl,hG⟩
     ·intro g out2 ia2 ib2 mg2 ac2 bc2 M2 ha2 hb2 hx2
      dsimp only;refine yAO (m:=zOV _) (f:=_) (zEZ (yAX ⟨⟨_,rfl⟩,_,_,_,_,rfl,M2,ha2,hb2,by lia⟩))
    case s2 =>
     intro y c st' h8 hy;clear h8;revert c st';apply zWF
     case use =>
      rintro T key c st' ⟨⟨g,rfl⟩,out,i,j,mg',ac',bc',rfl,M,ha,hb,hxi⟩
      revert g out i j mg' ac' bc' M ha hb hxi;exact key.k
     intro g out i j mg' ac' bc' M ha hb hxi;dsimp only;apply zHI
     case use =>
      intro key
      by_cases hm : mg' > 1
      ·rw [yAK hm]
       generalize mg' - 1 = mm;revert mm;exact key.k
      ·rw [yAN hm]
       clear hm;generalize mg' = mm;revert mm;exact key.k
     intro mm;refine yAO (m:=zOV mm) (f:=_) (zEZ ?_);refine yAO (m:=elem' b j) (f:=_) (zAK (by lia) ?_);refine yAO (m:=zDG false (at_ b j) a i (a.size - i) 0) (f:=_) (zC2 C hk (hp.pb j hb) (λu hu=>⟨by lia,hp.pa _ (by lia)⟩) (zDA O λu v huv hv=>hp.sa _ _ (by lia) (by lia)) (by lia) λk G1 => ?_);dsimp only;apply zHI
     case use =>
      intro key
      have kn : k < a.size - i:=by
       rcases yBs k (a.size - i) with z | z
       ·exact z
       ·have q:=G1.loF (i:=a.size - i - 1) (by lia)
        rw [show i + (a.size - i - 1) = a.size - 1 by lia,hp.lst j hb] at q
        cases q
      have MM:=M.appA hp.sa k (by lia) λu hu v h1 h2=>O.tr _ (at_ b j) _ (G1.loF hu) (hp.sb j v h1 h2)
      have uu : ∀ v,i + k <= v -> v < a.size -> R (at_ b j) (at_ a v) = true:=λv h1 h2=>by
       have q:=G1.hiF (i:=v - i) (Nat.le_sub_of_add_le' h1) (Nat.sub_lt_sub_right (yAz (yEJ _ _) h1) h2)
       rwa [Nat.add_sub_of_le (yAz (yEJ _ _) h1)] at q
      have lim : i + k < a.size:=by lia
      have far : i <= i + k:=by lia
      rcases yCl k with k0 | k0
      case inr =>
       rw [yAK k0];refine zAS (λe1=>yAX ⟨⟨_,rfl⟩,.inl ⟨_,_,rfl,MM.lastA hp.sa hp.sb (yAe.mp e1) les⟩⟩) (λe1 => ?_);have nz : i + k + 1≠a.size:=λz=>e1 (yAe.mpr z);rw [yAN (λz=>by have:=yAe.mp z; lia)];clear e1;generalize out++a.extract i (i + k) = out2 at MM ⊢;generalize i + k = i2 at far MM uu lim nz ⊢;revert far; revert nz; revert lim; revert uu; revert MM; revert i2; revert out2;exact key.k
      case inl =>
       subst k0;rw [yAN (yBk 0)];rw [zF2] at MM;simp only [Nat.add_zero] at MM uu lim;exact key.k out i MM uu lim (by lia) (yAG _)
     clear G1 M;intro out2 i2 MM uu lim nz far;refine yAO (m:=elem' b j) (f:=_) (zAK (by lia) ?_);have M2:=MM.pushB hp.sb hb λv h1 h2=>O.as _ _ (uu v h1 h2);refine zAS (λd1=>yAX ⟨⟨_,rfl⟩,.inl ⟨_,_,rfl,M2.done hp.sa (yAe.mp d1)⟩⟩) (λd1 => ?_);have d1' : j + 1≠b.size:=λz=>d1 (yAe.mpr z);refine yAO (m:=elem' a i2) (f:=_) (zAK (by lia) ?_);refine yAO (m:=zDG true (at_ a i2) b (j + 1) (b.size - (j + 1)) 0) (f:=_) (zC2 C hk (hp.pa i2 lim) (λu hu=>⟨by lia,hp.pb _ (by lia)⟩) (zDA O λu v huv hv=>hp.sb _ _ (by lia) (by lia)) (by lia) λk2 G2 => ?_);dsimp only;apply zHI
     case use =>
      intro key;have g2:=G2.le;have M3:=M2.appB hp.sb k2 (by lia) λu hu v h1 h2=>O.tr _ (at_ a i2) _ (O.as _ _ (G2.loT hu)) (hp.sa i2 v h1 h2)
      have lo2 : ∀ v,j + 1 + k2 <= v -> v < b.size -> R (at_ b v) (at_ a i2) = false:=λv h1 h2=>by
       have q:=G2.hiT (i:=v - (j + 1)) (Nat.le_sub_of_add_le' h1) (Nat.sub_lt_sub_right (yAz (yEJ _ _) h1) h2)
       rwa [show j + 1 + (v - (j + 1)) = v by lia] at q
      have fb : j + 1 <= j + 1 + k2:=by lia
      rcases yCl k2 with k0' | k0'
      case inr =>
       rw [yAK k0'];refine zAS (λe2=>yAX ⟨⟨_,rfl⟩,.inl ⟨_,_,rfl,M3.done hp.sa (yAe.mp e2)⟩⟩) (λe2 => ?_);have bz : j + 1 + k2≠b.size:=λz=>e2 (yAe.mpr z);clear e2;generalize out2.push (at_ b j)++b.extract (j + 1) (j + 1 + k2) = out3 at M3 ⊢;generalize j + 1 + k2 = j3 at M3 lo2 bz fb ⊢;revert fb; revert bz; revert lo2; revert M3; revert j3; revert out3;exact key.k
      case inl =>
       subst k0';rw [yAN (yBk 0)];rw [zF2] at M3;simp only [Nat.add_zero] at M3 lo2;exact key.k _ _ M3 lo2 d1' (yAG _)
     clear G2;intro out3 j3 M3 lo2 bz fb;have lb3:=M3.lb;refine yAO (m:=elem' a i2) (f:=_) (zAK lim ?_);have M4:=M3.pushA hp.sa lim lo2;refine zAS (λd3=>yAX ⟨⟨_,rfl⟩,.inl ⟨_,_,rfl,M4.lastA hp.sa hp.sb (yAe.mp d3) les⟩⟩) (λd3 => ?_);have d3' : i2 + 1 + 1≠a.size:=λz=>d3 (yAe.mpr z);exact zAS (λ_=>yAX ⟨⟨_,rfl⟩,.inr ⟨_,_,_,_,_,_,rfl,M4,by lia,by lia,by lia⟩⟩) (λ_=>yAX ⟨⟨_,rfl⟩,_,_,_,_,_,_,rfl,M4,by lia,by lia,by lia⟩)
end
end L2T
namespace L2T
open PySem PyProof.Rows
structure Hg (R : Keyed -> Keyed -> Bool) (a b out : Array Keyed) (na nb : Nat) : Prop where
 la : na <= a.size
 lb : nb <= b.size
 perm : out.toList.Perm (a.toList.drop na++b.toList.drop nb)
 srt : out.toList.reverse.Pairwise λx y=>R y x = false
 ua : ∀ x∈out.toList,∀ i,i < na -> R x (at_ a i) = false
 ub : ∀ x∈out.toList,∀ i,i < nb -> R x (at_ b i) = false
theorem zH0 {xs : Array Keyed} {i : Nat} (h : i < xs.size) : xs.toList.drop i = at_ xs i::xs.toList.drop (i + 1):=by
 have h' : i < xs.toList.length:=by simpa using h
 rw [yBv h']
 congr 1
 have:=at_toList h
 rw [yAB h'] at this;exact Option.some.inj this
theorem Hg.pushA {R : Keyed -> Keyed -> Bool} {a b out : Array Keyed} {na nb : Nat} (h : Hg R a b out (na + 1) nb) (sa : Srt R a) (le : ∀ i,i < nb -> R (at_ a na) (at_ b i) = false) : Hg R a b (out.push (at_ a na)) na nb:=by
 have hi : na < a.size:=h.la;refine ⟨by lia,h.lb,?_,?_,λx hx i h1 => ?_,λx hx i h1 => ?_⟩
 ·rw [yAo,zH0 hi,yEK]
  exact (yDX (l₁ := out.toList)).trans (h.perm.cons _)
 ·rw [yAo,List.reverse_append]
  refine yDL.mpr ⟨λy hy => ?_,h.srt⟩;exact h.ua y (List.mem_reverse.mp hy) na (by lia)
 ·rw [yAo] at hx
  rcases yAm.mp hx with hx | hx
  ·exact h.ua x hx i (by lia)
  ·rw [yAJ.mp hx]; exact sa i na (by lia) hi
 ·rw [yAo] at hx
  rcases yAm.mp hx with hx | hx
  ·exact h.ub x hx i h1
  ·rw [yAJ.mp hx]; exact le i h1
theorem Hg.pushB {R : Keyed -> Keyed -> Bool} {a b out : Array Keyed} {na nb : Nat} (h : Hg R a b out na (nb + 1)) (sb : Srt R b) (le : ∀ i,i < na -> R (at_ b nb) (at_ a i) = false) : Hg R a b (out.push (at_ b nb)) na nb:=by
 have hi : nb < b.size:=h.lb;refine ⟨h.la,by lia,?_,?_,λx hx i h1 => ?_,λx hx i h1 => ?_⟩
 ·rw [yAo,zH0 hi]
  refine (yDX (l₁ := out.toList)).trans ?_;exact (h.perm.cons _).trans List.perm_middle.symm
 ·rw [yAo,List.reverse_append]
  refine yDL.mpr ⟨λy hy => ?_,h.srt⟩;exact h.ub y (List.mem_reverse.mp hy) nb (by lia)
 ·rw [yAo] at hx
  rcases yAm.mp hx with hx | hx
  ·exact h.ua x hx i h1
  ·rw [yAJ.mp hx]; exact le i h1
 ·rw [yAo] at hx
  rcases yAm.mp hx with hx | hx
  ·exact h.ub x hx i (by lia)
  ·rw [yAJ.mp hx]; exact sb i nb (by lia) hi
theorem zL4 {xs : Array Keyed} {k n : Nat} (h : k < n) (hn : n <= xs.size) (out : Array Keyed) : out++(xs.extract k n).reverse = (out++(xs.extract (k + 1) n).reverse).push (at_ xs k):=by
 apply yBl.mp;rw [yAo,yDC,yDC,yDc,yDc,yBf]
 congr 1
 rw [yBh,yBh,yBM,yBM,zH0 (by lia)];rw [show n - k = (n - (k + 1)) + 1 by lia,List.take_succ_cons,List.reverse_cons]
theorem zF4 (xs out : Array Keyed) (n : Nat) : out++(xs.extract n n).reverse = out:=by
 apply yBl.mp
 simp
theorem Hg.appA {R : Keyed -> Keyed -> Bool} {a b out : Array Keyed} {na nb : Nat} (h : Hg R a b out na nb) (sa : Srt R a) : ∀ d,d <= na -> (∀ j,na - d <= j -> j < na -> ∀ i,i < nb -> R (at_ a j) (at_ b i) = false) -> Hg R a b (out++(a.extract (na - d) na).reverse) (na - d) nb
 | 0,_,_=>by rw [Nat.sub_zero,zF4]; exact h
 | d + 1,hd,le=>by
  have la:=h.la;have e : na - (d + 1) + 1 = na - d:=by lia
  rw [zL4 (by lia) h.la,e];refine Hg.pushA ?_ sa (le _ (by lia) (by lia));rw [e];exact h.appA sa d (by lia) λj h1 h2=>le j (by lia) h2
theorem Hg.appB {R : Keyed -> Keyed -> Bool} {a b out : Array Keyed} {na nb : Nat} (h : Hg R a b out na nb) (sb : Srt R b) : ∀ d,d <= nb -> (∀ j,nb - d <= j -> j < nb -> ∀ i,i < na -> R (at_ b j) (at_ a i) = false) -> Hg R a b (out++(b.extract (nb - d) nb).reverse) na (nb - d)
 | 0,_,_=>by rw [Nat.sub_zero,zF4]; exact h
 | d + 1,hd,le=>by
  have lb:=h.lb;have e : nb - (d + 1) + 1 = nb - d:=by lia
  rw [zL4 (by lia) h.lb,e];refine Hg.pushB ?_ sb (le _ (by lia) (by lia));rw [e];exact h.appB sb d (by lia) λj h1 h2=>le j (by lia) h2
theorem Hg.good {R : Keyed -> Keyed -> Bool} {a b out : Array Keyed} (h : Hg R a b out 0 0) : zJL R a b out.reverse:=by
 refine ⟨?_,by rw [yDc]; exact h.srt⟩;rw [yDc];exact (yEC _).trans h.perm
theorem zJM (xs out : Array Keyed) (n : Nat) : (out++(xs.extract 0 n).reverse).reverse = xs.extract 0 n++out.reverse:=by
 apply yBl.mp
 simp [List.reverse_append]
theorem zRK (xs : Array Keyed) (out : Array Keyed) : xs.extract 0 0++out = out:=by
 apply yBl.mp
 simp
theorem Hg.done {R : Keyed -> Keyed -> Bool} {a b out : Array Keyed} {na nb : Nat} (h : Hg R a b out na nb) (sb : Srt R b) (e : na = 0) : zJL R a b (a.extract 0 na++b.extract 0 nb++out.reverse):=by
 subst e;have q:=h.appB sb nb (yAG _) λj h1 h2 i h3=>absurd h3 (Nat.not_lt_zero i);rw [yDW] at q;have g:=q.good;rw [zJM] at g
 rwa [zRK]
theorem Hg.firstB {R : Keyed -> Keyed -> Bool} {a b out : Array Keyed} {na nb : Nat} (h : Hg R a b out na nb) (sa : Srt R a) (sb : Srt R b) (e : nb = 1) (le : ∀ i,i < na -> R (at_ a i) (at_ b 0) = false) : zJL R a b (b.extract 0 nb++a.extract 0 na++out.reverse):=by
 subst e
 have q:=h.appA sa na (yAG _) λj h1 h2 i h3=>by
  have : i = 0:=by lia
  subst this;exact le j h2
 rw [yDW] at q;have q2:=q.appB sb 1 (yAG _) λj h1 h2 i h3=>absurd h3 (Nat.not_lt_zero i);rw [yDW] at q2;have g:=q2.good;rw [zJM,zJM] at g
 rwa [Array.append_assoc]
end L2T
namespace L2T
open PySem PyProof.Rows
section
variable {prog : Program} {w : World} {A : Around} {E : Value -> Shared -> Prop} {s : Shared} {κ : SortKind} {R : Keyed -> Keyed -> Bool} {P : Keyed -> Prop} {st : SortSt}
theorem Hg.popA {a b out : Array Keyed} {na nb : Nat} (h : Hg R a b out na nb) (sa : Srt R a) (h1 : 1 <= na) (le : ∀ i,i < nb -> R (at_ a (na - 1)) (at_ b i) = false) : Hg R a b (out.push (at_ a (na - 1))) (na - 1) nb:=by
 refine Hg.pushA ?_ sa le;rw [show na - 1 + 1 = na by lia];exact h
theorem Hg.popB {a b out : Array Keyed} {na nb : Nat} (h : Hg R a b out na nb) (sb : Srt R b) (h1 : 1 <= nb) (le : ∀ i,i < na -> R (at_ b (nb - 1)) (at_ a i) = false) : Hg R a b (out.push (at_ b (nb - 1))) na (nb - 1):=by
 refine Hg.pushB ?_ sb le;rw [show nb - 1 + 1 = nb by lia];exact h
set_option maxHeartbeats 2000000 in
theorem zJ7 {a b : Array Keyed} {Q : Array Keyed -> SortSt -> Prop} (O : Ord R) (C : Cmp prog w A s κ R P) (hk : kindOf st = κ) (hp : Pre R P a b) (h : ∀ m g,zJL R a b m -> Q m (zC8 st g)) : wpS (model prog w) A E s (zLE a b) Q st:=by
 have pa1:=hp.na;have pb1:=hp.nb;have les:=hp.le O;have fb : ∀ i,i < a.size -> R (at_ a i) (at_ b 0) = false:=λi hi=>O.tr _ (at_ a 0) _ (O.as _ _ hp.fst) (hp.sa 0 i (yAy _) hi)
 have tb : ∀ i,i < a.size -> R (at_ b 0) (at_ a i) = true:=λi hi=>by
  cases z : R (at_ b 0) (at_ a i) with
  | true=>rfl
  | false =>
   have q:=hp.fst;rw [O.tr _ (at_ a i) _ (hp.sa 0 i (yAy _) hi) z] at q
   cases q
 refine yAO (m:=_) (f:=_) (wpS_lift (yDD ⟨rfl,?_⟩));dsimp only;refine yAO (m:=elem' a (a.size - 1)) (f:=_) (zAK (by lia) ?_)
 have M0 : Hg R a b #[at_ a (a.size - 1)] (a.size - 1) b.size:=by
  refine ⟨by lia,yAG _,?_,yCG _ _,λx hx i h1 => ?_,λx hx i h1 => ?_⟩
  ·rw [zH0 (by lia : a.size - 1 < a.size),yCL (by simp; lia),yCL (by simp)]
   exact List.Perm.refl _
  ·rw [yAJ.mp hx]
   exact hp.sa i _ (by lia) (by lia)
  ·rw [yAJ.mp hx]
   exact les i h1
 refine zAS (λc1=>yAX (h _ (gallopOf st) (M0.done hp.sb (yAe.mp c1)))) (λc1 => ?_);refine zAS (λc2=>yAX (h _ (gallopOf st) (M0.firstB hp.sa hp.sb (yAe.mp c2) λi hi=>fb i (by lia)))) (λc2 => ?_);have c1' : a.size - 1≠0:=λz=>c1 (yAe.mpr z);have c2' : b.size≠1:=λz=>c2 (yAe.mpr z);refine yAO (m:=_) (f:=_) (yEG ?_)
 refine yAO (m:=_) (f:=_) (yCN (yBZ (I:=λx c st'=>(∃ g,st' = zC8 st g)/\∃ na nb out mg,c = (none,na,nb,out,mg)/\Hg R a b out na nb/\1 <= na/\2 <= nb/\na <= a.size/\nb <= b.size/\x + na + nb + 1 <= a.size + b.size)
  (Q:=λc st'=>(∃ g,st' = zC8 st g)/\∃ m r,c = (some m,r)/\zJL R a b m) ?step ?fin ⟨⟨gallopOf st,rfl⟩,_,_,_,_,rfl,M0,by lia,by lia,by lia,by lia,by lia⟩) ?post)
 case fin =>
  rintro c st' ⟨_,na,nb,out,mg,_,_,h1,h2,h3,h4,h5⟩
  exfalso; lia
 case post =>
  rintro c st' ⟨⟨g,rfl⟩,m,r,rfl,hG⟩
  exact yAX (h m g hG)
 case step =>
  intro x c st' h8 hx;clear h8;revert c st';apply zWF
  case use =>
   rintro T key c st' ⟨⟨g,rfl⟩,na,nb,out,mg,rfl,M,ha,hb,za,zb,hxi⟩
   revert g na nb out mg M ha hb za zb hxi;exact key.k
  intro g na nb out mg M ha hb za zb hxi;dsimp only
  refine yAO (m:=_) (f:=_) (yCN (yBZ (I:=λy c st'=>(∃ g,st' = zC8 st g)/\∃ na' nb' out' ac bc,c = (none,na',nb',out',ac,bc)/\Hg R a b out' na' nb'/\1 <= na'/\2 <= nb'/\na' <= a.size/\nb' <= b.size/\y + na' + nb' <= na + nb)
   (Q:=λc st'=>(∃ g,st' = zC8 st g)/\((∃ m r,c = (some m,r)/\zJL R a b m) \/ ∃ na' nb' out' ac bc,c = (none,na',nb',out',ac,bc)/\Hg R a b out' na' nb'/\1 <= na'/\2 <= nb'/\na' <= a.size/\nb' <= b.size/\na' + nb' + 1 <= na + nb)) ?s1 ?f1 ⟨⟨g,rfl⟩,_,_,_,_,_,rfl,M,ha,hb,za,zb,by lia⟩) ?p1)
  case f1 =>
   rintro c st' ⟨_,na',nb',out',ac,bc,_,_,h1,h2,h3,h4,h5⟩
   exfalso; lia
  case s1 =>
   intro y c st' h8 hy;clear h8;revert c st';apply zWF
   case use =>
    rintro T key c st' ⟨⟨g,rfl⟩,i,j,out,ac,bc,rfl,M,ha,hb,za,zb,hxi⟩
    revert g i j out ac bc M ha hb za zb hxi;exact key.k
   intro g i j out ac bc M ha hb za zb hxi;dsimp only;refine yAO (m:=elem' b (j - 1)) (f:=_) (zAK (by lia) ?_);refine yAO (m:=elem' a (i - 1)) (f:=_) (zAK (by lia) ?_);refine yAO (m:=lt' (at_ b (j - 1)) (at_ a (i - 1))) (f:=_) (zHO C hk (hp.pb _ (by lia)) (hp.pa _ (by lia)) ?_);dsimp only
   cases hR : R (at_ b (j - 1)) (at_ a (i - 1)) with
   | true =>
    simp only [yDu];refine yAO (m:=elem' a (i - 1)) (f:=_) (zAK (by lia) ?_);have M':=M.popA hp.sa ha λu hu=>O.tr _ (at_ b (j - 1)) _ (hp.sb u _ (by lia) (by lia)) (O.as _ _ hR);refine zAS (λd1=>yAX ⟨⟨g,rfl⟩,.inl ⟨_,_,rfl,M'.done hp.sb (yAe.mp d1)⟩⟩) (λd1 => ?_);have d1' : i - 1≠0:=λz=>d1 (yAe.mpr z);exact zAS (λd2=>yAX ⟨⟨g,rfl⟩,.inr ⟨_,_,_,_,_,rfl,M',by lia,by lia,by lia,by lia,by lia⟩⟩) (λd2=>yAX ⟨⟨g,rfl⟩,_,_,_,_,_,rfl,M',by lia,by lia,by lia,by lia,by lia⟩)
   | false =>
    simp only [yBK,yCb];refine yAO (m:=elem' b (j - 1)) (f:=_) (zAK (by lia) ?_);have M':=M.popB hp.sb (by lia) λu hu=>O.tr _ (at_ a (i - 1)) _ (hp.sa u _ (by lia) (by lia)) hR;refine zAS (λd1=>yAX ⟨⟨g,rfl⟩,.inl ⟨_,_,rfl,M'.firstB hp.sa hp.sb (yAe.mp d1) λu hu=>fb u (by lia)⟩⟩) (λd1 => ?_);have d1' : j - 1≠1:=λz=>d1 (yAe.mpr z);exact zAS (λd2=>yAX ⟨⟨g,rfl⟩,.inr ⟨_,_,_,_,_,rfl,M',by lia,by lia,by lia,by lia,by lia⟩⟩) (λd2=>yAX ⟨⟨g,rfl⟩,_,_,_,_,_,rfl,M',by lia,by lia,by lia,by lia,by lia⟩)
  case p1 =>
   apply zYN
   case use =>
    rintro T key key2 c st' ⟨⟨g,rfl⟩,⟨m,r,rfl,hG⟩ | ⟨na1,nb1,out1,ac,bc,rfl,M1,ha1,hb1,za1,zb1,hx1⟩⟩
    ·revert g m r hG
     exact key.k
    ·revert g na1 nb1 out1 ac bc M1 ha1 hb1 za1 zb1 hx1
     exact key2.k
   ·intro g m r hG
    exact yAX ⟨⟨g,rfl⟩,m,_,rfl,hG⟩
   ·intro g na1 nb1 out1 ac bc M1 ha1 hb1 za1 zb1 hx1
    dsimp only;refine yAO (m:=_) (f:=_) (wpS_lift (yDD ⟨rfl,?_⟩))
    refine yAO (m:=_) (f:=_) (yCN (yBZ (I:=λy c st'=>(∃ g,st' = zC8 st g)/\∃ na' nb' out' mg' ac bc,c = (none,na',nb',out',mg',ac,bc)/\Hg R a b out' na' nb'/\1 <= na'/\2 <= nb'/\na' <= a.size/\nb' <= b.size/\y + na' + nb' + 1 <= na + nb)
     (Q:=λc st'=>(∃ g,st' = zC8 st g)/\((∃ m r,c = (some m,r)/\zJL R a b m) \/ ∃ na' nb' out' mg' ac bc,c = (none,na',nb',out',mg',ac,bc)/\Hg R a b out' na' nb'/\1 <= na'/\2 <= nb'/\na' <= a.size/\nb' <= b.size/\na' + nb' + 1 <= na + nb)) ?s2 ?f2 ⟨⟨g,rfl⟩,_,_,_,_,_,_,rfl,M1,ha1,hb1,za1,zb1,by lia⟩) ?p2)
    case f2 =>
     rintro c st' ⟨_,na',nb',out',mg',ac,bc,_,_,h1,h2,h3,h4,h5⟩
     exfalso; lia
    case p2 =>
     apply zYN
     case use =>
      rintro T key key2 c st' ⟨⟨g,rfl⟩,⟨m,r,rfl,hG⟩ | ⟨na2,nb2,out2,mg2,ac2,bc2,rfl,M2,ha2,hb2,za2,zb2,hx2⟩⟩
      ·revert g m r hG
       exact key.k
      ·revert g na2 nb2 out2 mg2 ac2 bc2 M2 ha2 hb2 za2 zb2 hx2
       exact key2.k
     ·intro g m r hG
      exact yAX ⟨⟨g,rfl⟩,m,_,rfl,hG⟩
     ·intro g na2 nb2 out2 mg2 ac2 bc2 M2 ha2 hb2 za2 zb2 hx2
      dsimp only;refine yAO (m:=zOV _) (f:=_) (zEZ (yAX ⟨⟨_,rfl⟩,_,_,_,_,rfl,M2,ha2,hb2,za2,zb2,by lia⟩))
    case s2 =>
     intro y c st' h8 hy;clear h8;revert c st';apply zWF
     case use =>
      rintro T key c st' ⟨⟨g,rfl⟩,i,j,out,mg',ac',bc',rfl,M,ha,hb,za,zb,hxi⟩
      revert g i j out mg' ac' bc' M ha hb za zb hxi;exact key.k
     intro g i j out mg' ac' bc' M ha hb za zb hxi;dsimp only;apply zHI
     case use =>
      intro key
      by_cases hm : mg' > 1
      ·rw [yAK hm]
       generalize mg' - 1 = mm;revert mm;exact key.k
      ·rw [yAN hm]
       clear hm;generalize mg' = mm;revert mm;exact key.k
     intro mm;refine yAO (m:=zOV mm) (f:=_) (zEZ ?_);refine yAO (m:=elem' b (j - 1)) (f:=_) (zAK (by lia) ?_);refine yAO (m:=zDG false (at_ b (j - 1)) a 0 i (i - 1)) (f:=_) (zC2 C hk (hp.pb _ (by lia)) (λu hu=>⟨by lia,hp.pa _ (by lia)⟩) (zDA O λu v huv hv=>hp.sa _ _ (by lia) (by lia)) (by lia) λk G1 => ?_);dsimp only;apply zHI
     case use =>
      intro key;have kn:=G1.le
      have lo1 : ∀ u,u < k -> R (at_ b (j - 1)) (at_ a u) = false:=λu hu=>by
       have q:=G1.loF hu
       rwa [yDp] at q
      have hi1 : ∀ u,k <= u -> u < i -> R (at_ b (j - 1)) (at_ a u) = true:=λu h1 h2=>by
       have q:=G1.hiF h1 h2
       rwa [yDp] at q
      have MM:=M.appA hp.sa (i - k) (Nat.sub_le _ _) λu h1 h2 v hv=>O.tr _ (at_ b (j - 1)) _ (hp.sb v _ (by lia) (by lia)) (O.as _ _ (hi1 u (by rwa [yDZ kn] at h1) h2));rw [yDZ kn] at MM;have lim : k <= a.size:=by lia
      rcases yCl (i - k) with k0 | k0
      case inr =>
       rw [yAK k0];refine zAS (λe1=>yAX ⟨⟨_,rfl⟩,.inl ⟨_,_,rfl,MM.done hp.sb (yAe.mp e1)⟩⟩) (λe1 => ?_);have nz' : k≠0:=λz=>e1 (yAe.mpr z);have nz : 1 <= k:=by lia
       clear e1 nz';generalize hn : i - k = n;generalize out++(a.extract k i).reverse = out2 at MM ⊢;clear hn k0 hi1;have kn2 : k <= i:=kn;clear kn;generalize k = i2 at MM lo1 lim nz kn2 ⊢;revert kn2; revert nz; revert lim; revert lo1; revert MM; revert i2; revert out2; revert n;exact key.k
      case inl =>
       rw [yAN (by lia)];have ek : i = k:=by lia
       subst ek;rw [zF4] at MM;exact key.k _ _ _ MM lo1 lim ha (yAG _)
     clear G1 M k;intro n out2 i2 MM lo1 lim nz kn;refine yAO (m:=elem' b (j - 1)) (f:=_) (zAK (by lia) ?_);have M2:=MM.popB hp.sb (by lia) lo1;refine zAS (λd1=>yAX ⟨⟨_,rfl⟩,.inl ⟨_,_,rfl,M2.firstB hp.sa hp.sb (yAe.mp d1) λu hu=>fb u (by lia)⟩⟩) (λd1 => ?_);have d1' : j - 1≠1:=λz=>d1 (yAe.mpr z);refine yAO (m:=elem' a (i2 - 1)) (f:=_) (zAK (by lia) ?_);refine yAO (m:=zDG true (at_ a (i2 - 1)) b 0 (j - 1) (j - 1 - 1)) (f:=_) (zC2 C hk (hp.pa _ (by lia)) (λu hu=>⟨by lia,hp.pb _ (by lia)⟩) (zDA O λu v huv hv=>hp.sb _ _ (by lia) (by lia)) (by lia) λk2 G2 => ?_);dsimp only;apply zHI
     case use =>
      intro key;have g2:=G2.le
      have lo2 : ∀ u,u < k2 -> R (at_ b u) (at_ a (i2 - 1)) = true:=λu hu=>by
       have q:=G2.loT hu
       rwa [yDp] at q
      have hi2' : ∀ u,k2 <= u -> u < j - 1 -> R (at_ b u) (at_ a (i2 - 1)) = false:=λu h1 h2=>by
       have q:=G2.hiT h1 h2
       rwa [yDp] at q
      have k2p : 1 <= k2:=by
       rcases yCl k2 with z | z
       ·have q:=hi2' 0 (by lia) (by lia)
        rw [tb _ (by lia)] at q
        cases q
       ·exact z
      have M3:=M2.appB hp.sb (j - 1 - k2) (Nat.sub_le _ _) λu h1 h2 v hv=>O.tr _ (at_ a (i2 - 1)) _ (hp.sa v _ (by lia) (by lia)) (hi2' u (by rwa [yDZ g2] at h1) h2);rw [yDZ g2] at M3
      rcases yCl (j - 1 - k2) with k0' | k0'
      case inr =>
       rw [yAK k0'];refine zAS (λe2=>yAX ⟨⟨_,rfl⟩,.inl ⟨_,_,rfl,M3.firstB hp.sa hp.sb (yAe.mp e2) λu hu=>fb u (by lia)⟩⟩) (λe2 => ?_);have e2' : k2≠1:=λz=>e2 (yAe.mpr z);rw [yAN (λz=>by have:=yAe.mp z; lia)];have bz : 2 <= k2:=by lia
       clear e2 e2';generalize j - 1 - k2 = n2;generalize out2.push (at_ b (j - 1))++(b.extract k2 (j - 1)).reverse = out3 at M3 ⊢;have jl : k2 <= j - 1:=g2;clear g2 k0' hi2' k2p;generalize k2 = j3 at M3 lo2 bz jl ⊢;revert jl; revert bz; revert lo2; revert M3; revert j3; revert out3; revert n2;exact key.k
      case inl =>
       rw [yAN (by lia)];have ek : k2 = j - 1:=by lia
       subst ek;rw [zF4] at M3;exact key.k _ _ _ M3 lo2 (by lia) (yAG _)
     clear G2 k2;intro n2 out3 j3 M3 lo2 bz jl;refine yAO (m:=elem' a (i2 - 1)) (f:=_) (zAK (by lia) ?_);have M4:=M3.popA hp.sa nz λu hu=>O.as _ _ (lo2 u hu);have lb3:=M3.lb;refine zAS (λd3=>yAX ⟨⟨_,rfl⟩,.inl ⟨_,_,rfl,M4.done hp.sb (yAe.mp d3)⟩⟩) (λd3 => ?_);have d3' : i2 - 1≠0:=λz=>d3 (yAe.mpr z);exact zAS (λ_=>yAX ⟨⟨_,rfl⟩,.inr ⟨_,_,_,_,_,_,rfl,M4,by lia,by lia,by lia,by lia,by lia⟩⟩) (λ_=>yAX ⟨⟨_,rfl⟩,_,_,_,_,_,_,rfl,M4,by lia,by lia,by lia,by lia,by lia⟩)
end
end L2T
namespace L2T
open PySem PyProof.Rows
noncomputable def SegSrt (R : Keyed -> Keyed -> Bool) (xs : Array Keyed) (lo hi : Nat) : Prop:=∀ i j,lo <= i -> i <= j -> j < hi -> R (at_ xs j) (at_ xs i) = false
noncomputable abbrev zZD (st : SortSt) (p : Array (Nat × Nat × Nat)) : SortSt:=SortSt.mk' (kindOf st) (arrOf st) p (gallopOf st) (failedOf st)
theorem zG0 (xs : Array Keyed) (i : Nat) : at_ xs i = (xs.toList[i]?).getD (Value.none,Value.none):=by
 unfold at_
 by_cases h : i < xs.size
 ·simp [Array.getD,h]
 ·simp [Array.getD,h]
theorem zKC : ∀ (m : List Keyed) (xs : Array Keyed) (off j : Nat),off + j + m.length <= xs.size -> ((m.zipIdx j).foldl (λa x=>a.setIfInBounds (off + x.snd) x.fst) xs).toList = xs.toList.take (off + j)++m++xs.toList.drop (off + j + m.length)
 | [],xs,off,j,h=>by simp
 | x::r,xs,off,j,h=>by
  have hl : off + j + (r.length + 1) <= xs.size:=h;rw [List.zipIdx_cons,List.foldl_cons,zKC r _ off (j + 1) (by rw [Array.size_setIfInBounds]; lia)]
  have e : (xs.setIfInBounds (off + j) x).toList = xs.toList.take (off + j)++x::xs.toList.drop (off + j + 1):=by
   rw [Array.toList_setIfInBounds,List.set_eq_take_append_cons_drop,yAK (by simp; lia)]
  show (xs.setIfInBounds (off + j) x).toList.take (off + (j + 1))++r++(xs.setIfInBounds (off + j) x).toList.drop (off + (j + 1) + r.length) = _;rw [e];have lt : (xs.toList.take (off + j)).length = off + j:=by rw [yAf]; simp; lia
  have t1 : (xs.toList.take (off + j)++x::xs.toList.drop (off + j + 1)).take (off + (j + 1)) = xs.toList.take (off + j)++[x]:=by
   rw [List.take_append,lt,yAt (by lia),show off + (j + 1) - (off + j) = 1 by lia];rfl
  have t2 : (xs.toList.take (off + j)++x::xs.toList.drop (off + j + 1)).drop (off + (j + 1) + r.length) = xs.toList.drop (off + j + (x::r).length):=by
   rw [List.drop_append,lt,yCL (by lia),show off + (j + 1) + r.length - (off + j) = r.length + 1 by lia,List.drop_succ_cons,List.drop_drop,yET]
   congr 1
   simp only [yBP]
   lia
  rw [t1,t2]
  simp
theorem zDE {xs : Array Keyed} {lo hi i : Nat} (h : lo + i < hi) (hz : hi <= xs.size) : at_ (xs.extract lo hi) i = at_ xs (lo + i):=by
 rw [zG0,zG0,yBh,yBM,yBz,yAK (by lia),yCm]
theorem zNF {xs : Array Keyed} {lo hi : Nat} (hz : hi <= xs.size) {z : Keyed} (h : z∈(xs.extract lo hi).toList) : ∃ u,lo <= u/\u < hi/\z = at_ xs u:=by
 obtain ⟨n,hn⟩:=yAi h;rw [yBh,yBM,yBz] at hn
 split at hn
 ·rw [yCm] at hn
  refine ⟨lo + n,by lia,by lia,?_⟩;rw [zG0,hn];rfl
 ·cases hn
section
variable {prog : Program} {w : World} {A : Around} {E : Value -> Shared -> Prop} {s : Shared} {κ : SortKind} {R : Keyed -> Keyed -> Bool} {P : Keyed -> Prop} {st : SortSt}
theorem zUP {st' : SortSt} {Q : PUnit -> SortSt -> Prop} (h : Q ⟨⟩ st') : wpS (model prog w) A E s (set st' : StateT SortSt Sem PUnit) Q st:=by
 unfold wpS; rw [StateT.run_set]; exact yAH ⟨rfl,h⟩
theorem zK4 {i sa na pw sb nb pw2 : Nat} {Q : Bool -> SortSt -> Prop} (O : Ord R) (C : Cmp prog w A s κ R P) (hk : kindOf st = κ) (hf : failedOf st = none) (p1 : (pendingOf st)[i]? = some (sa,na,pw)) (p2 : (pendingOf st)[i + 1]? = some (sb,nb,pw2)) (esb : sb = sa + na) (na1 : 1 <= na) (nb1 : 1 <= nb)
  (hz : sb + nb <= (arrOf st).size) (s1 : SegSrt R (arrOf st) sa sb) (s2 : SegSrt R (arrOf st) sb (sb + nb)) (hP : ∀ k,k < (arrOf st).size -> P (at_ (arrOf st) k))
  (h : ∀ xs g,xs.Perm (arrOf st) -> (∀ k,k < sa \/ sb + nb <= k -> at_ xs k = at_ (arrOf st) k) -> SegSrt R xs sa (sb + nb) -> Q true (SortSt.mk' (kindOf st) xs (((pendingOf st).setIfInBounds i (sa,na + nb,pw)).eraseIdxIfInBounds (i + 1)) g none)) :
  wpS (model prog w) A E s (mergeAt' i) Q st:=by
 rcases st with ⟨kd,ar,pd,ga,fl⟩
 have hf : fl = none:=hf;subst hf;have hk : kd = κ := hk;have hz : sb + nb <= ar.size:=hz;have s1 : SegSrt R ar sa sb:=s1;have s2 : SegSrt R ar sb (sb + nb):=s2;have hP : ∀ k,k < ar.size -> P (at_ ar k):=hP;refine yAO (m:=_) (f:=_) (yEG ?_);dsimp only;rw [show pd[i]? = some (sa,na,pw) from p1,show pd[i + 1]? = some (sb,nb,pw2) from p2];dsimp only;refine yAO (m:=_) (f:=_) (zUP ?_);refine yAO (m:=elem' ar sb) (f:=_) (zAK (by lia) ?_);refine yAO (m:=zDG false (at_ ar sb) ar sa na 0) (f:=_) (zC2 C hk (hP _ (by lia)) (λu hu=>⟨by lia,hP _ (by lia)⟩) (zDA O λu v huv hv=>s1 _ _ (by lia) (by lia) (by lia)) (by lia) λk G1 => ?_);dsimp only;have kle:=G1.le
 have lo1 : ∀ u,sa <= u -> u < sa + k -> R (at_ ar sb) (at_ ar u) = false:=λu h1 h2=>by
  have q:=G1.loF (i:=u - sa) (by lia)
  rwa [show sa + (u - sa) = u by lia] at q
 have hi1 : ∀ u,sa + k <= u -> u < sb -> R (at_ ar sb) (at_ ar u) = true:=λu h1 h2=>by
  have q:=G1.hiF (i:=u - sa) (by lia) (by lia)
  rwa [show sa + (u - sa) = u by lia] at q
 have below : ∀ u,sa <= u -> u < sa + k -> ∀ v,sb <= v -> v < sb + nb -> R (at_ ar v) (at_ ar u) = false:=λu h1 h2 v h3 h4=>O.tr _ (at_ ar sb) _ (lo1 u h1 h2) (s2 sb v (yAG _) h3 h4)
 by_cases c1 : (na - k == 0) = true
 ·rw [yAK c1]
  have ek : na - k = 0:=yAe.mp c1;refine yAX (h ar ga (Array.Perm.refl _) (λ_ _=>rfl) λu v h1 h2 h3 => ?_)
  by_cases cu : u < sb
  ·by_cases cv : v < sb
   ·exact s1 u v h1 h2 cv
   ·exact below u h1 (by lia) v (by lia) h3
  ·exact s2 u v (by lia) h2 h3
 rw [yAN c1];have c1' : na - k≠0:=λz=>c1 (yAe.mpr z);clear c1;have hd : na = k + (na - k):=by lia
 generalize na - k = d at c1' hd ⊢;subst hd;clear kle;rw [show sa + k + d - 1 = sb - 1 by lia];refine yAO (m:=elem' ar (sb - 1)) (f:=_) (zAK (by lia) ?_);refine yAO (m:=zDG true (at_ ar (sb - 1)) ar sb nb (nb - 1)) (f:=_) (zC2 C hk (hP _ (by lia)) (λu hu=>⟨by lia,hP _ (by lia)⟩) (zDA O λu v huv hv=>s2 _ _ (by lia) (by lia) (by lia)) (by lia) λk2 G2 => ?_);dsimp only;have k2le:=G2.le
 have lo2 : ∀ u,sb <= u -> u < sb + k2 -> R (at_ ar u) (at_ ar (sb - 1)) = true:=λu h1 h2=>by
  have q:=G2.loT (i:=u - sb) (by lia)
  rwa [show sb + (u - sb) = u by lia] at q
 have hi2 : ∀ u,sb + k2 <= u -> u < sb + nb -> R (at_ ar u) (at_ ar (sb - 1)) = false:=λu h1 h2=>by
  have q:=G2.hiT (i:=u - sb) (by lia) (by lia)
  rwa [show sb + (u - sb) = u by lia] at q
 have k2p : 1 <= k2:=by
  rcases yCl k2 with z | z
  ·have q:=hi2 sb (by lia) (by lia)
   rw [hi1 (sb - 1) (by lia) (by lia)] at q
   cases q
  ·exact z
 rw [yAN (λz=>by have:=yAe.mp z; lia)];have xs1 : (ar.extract (sa + k) sb).size = d:=by rw [Array.size_extract]; lia
 have ys1 : (ar.extract sb (sb + k2)).size = k2:=by rw [Array.size_extract]; lia
 have hp : Pre R P (ar.extract (sa + k) sb) (ar.extract sb (sb + k2)):=by
  refine ⟨λu v h1 h2 => ?_,λu v h1 h2 => ?_,by lia,by lia,?_,λj hj => ?_,λu hu => ?_,λu hu => ?_⟩
  ·rw [xs1] at h2
   rw [zDE (by lia) (by lia),zDE (by lia) (by lia)];exact s1 _ _ (by lia) (by lia) (by lia)
  ·rw [ys1] at h2
   rw [zDE (by lia) (by lia),zDE (by lia) (by lia)];exact s2 _ _ (by lia) (by lia) (by lia)
  ·rw [zDE (by lia) (by lia),zDE (by lia) (by lia)]
   exact hi1 _ (by lia) (by lia)
  ·rw [ys1] at hj
   rw [xs1,zDE (by lia) (by lia),zDE (by lia) (by lia),show sa + k + (d - 1) = sb - 1 by lia];exact lo2 _ (by lia) (by lia)
  ·rw [xs1] at hu
   rw [zDE (by lia) (by lia)];exact hP _ (by lia)
  ·rw [ys1] at hu
   rw [zDE (by lia) (by lia)];exact hP _ (by lia)
 have fin : ∀ m : Array Keyed,zJL R (ar.extract (sa + k) sb) (ar.extract sb (sb + k2)) m -> ∀ xs : Array Keyed,xs = (m.toList.zipIdx).foldl (λa x=>a.setIfInBounds (sa + k + x.snd) x.fst) ar -> xs.Perm ar/\(∀ u,u < sa \/ sb + nb <= u -> at_ xs u = at_ ar u)/\SegSrt R xs sa (sb + nb):=λm hG xs hxs=>by
  obtain ⟨gp,gs⟩:=hG;have ml : m.toList.length = d + k2:=by rw [gp.length_eq,yAU]; simp only [yAx]; lia
  have el : xs.toList = ar.toList.take (sa + k)++m.toList++ar.toList.drop (sb + k2):=by
   rw [hxs,zKC _ _ _ _ (by lia),ml,Nat.add_zero,show sa + k + (d + k2) = sb + k2 by lia]
  have eo : ar.toList = ar.toList.take (sa + k)++((ar.extract (sa + k) sb).toList++(ar.extract sb (sb + k2)).toList)++ar.toList.drop (sb + k2):=by
   rw [yBh,yBh,yBM,yBM]
   have e1 : ar.toList.drop sb = (ar.toList.drop sb).take (sb + k2 - sb)++ar.toList.drop (sb + k2):=by
    have:=(yCP (sb + k2 - sb) (ar.toList.drop sb)).symm
    rwa [List.drop_drop,show sb + (sb + k2 - sb) = sb + k2 by lia] at this
   have e2 : ar.toList.drop (sa + k) = (ar.toList.drop (sa + k)).take (sb - (sa + k))++ar.toList.drop sb:=by
    have:=(yCP (sb - (sa + k)) (ar.toList.drop (sa + k))).symm
    rwa [List.drop_drop,show sa + k + (sb - (sa + k)) = sb by lia] at this
   have e3:=(yCP (sa + k) ar.toList).symm;rw [yBf,yBf,<- e1,<- e2,<- e3]
  have ta : (ar.toList.take (sa + k)).length = sa + k:=by rw [yAf]; simp; lia
  have at1 : ∀ u,u < sa + k -> at_ xs u = at_ ar u:=λu hu=>by
   rw [zG0,zG0,el,yBf,yBF (by lia),yBz,yAK hu]
  have at3 : ∀ u,sb + k2 <= u -> at_ xs u = at_ ar u:=λu hu=>by
   rw [zG0,zG0,el,yBC (by rw [yAU]; lia),yAU,ta,ml,yCm]
   congr 2
   lia
  have at2 : ∀ u,sa + k <= u -> u < sb + k2 -> m.toList[u - (sa + k)]? = some (at_ xs u):=λu h1 h2=>by
   have hl : u - (sa + k) < m.toList.length:=by lia
   rw [zG0,el,yBf,yBC (by lia),ta,yBF hl,yAB hl];rfl
  have mem : ∀ u,sa + k <= u -> u < sb + k2 -> (∃ v,sa + k <= v/\v < sb/\at_ xs u = at_ ar v) \/ ∃ v,sb <= v/\v < sb + k2/\at_ xs u = at_ ar v:=λu h1 h2=>by
   have q:=gp.mem_iff.mp (yAn (at2 u h1 h2))
   rcases yAm.mp q with q | q
   ·exact .inl (zNF (by lia) q)
   ·exact .inr (zNF (by lia) q)
  refine ⟨yCv.mpr ?_,λu hu => ?_,λu v h1 h2 h3 => ?_⟩
  ·rw [el]
   refine List.Perm.trans ?_ (yEW eo.symm);exact (gp.append_left _).append_right _
  ·rcases hu with hu | hu
   ·exact at1 u (by lia)
   ·exact at3 u (by lia)
  ·by_cases cu1 : u < sa + k
   ·rw [at1 u cu1]
    by_cases cv1 : v < sa + k
    ·rw [at1 v cv1]; exact s1 u v h1 h2 (by lia)
    ·by_cases cv2 : v < sb + k2
     ·rcases mem v (by lia) cv2 with ⟨z,z1,z2,e⟩ | ⟨z,z1,z2,e⟩
      ·rw [e]; exact s1 u z h1 (by lia) z2
      ·rw [e]; exact below u h1 cu1 z z1 (by lia)
     ·rw [at3 v (by lia)]; exact below u h1 cu1 v (by lia) h3
   ·by_cases cu2 : u < sb + k2
    ·by_cases cv2 : v < sb + k2
     ·by_cases e : u = v
      ·rw [e]; exact O.irr _
      ·have p:=yDv.mp gs (u - (sa + k)) (v - (sa + k)) (by lia) (by lia) (by lia)
       have e1:=at2 u (by lia) cu2;have e2:=at2 v (by lia) cv2;rw [yAB (by lia)] at e1 e2;rw [Option.some.inj e1,Option.some.inj e2] at p;exact p
     ·rw [at3 v (by lia)]
      rcases mem u (by lia) cu2 with ⟨z,z1,z2,e⟩ | ⟨z,z1,z2,e⟩
      ·rw [e]; exact O.tr _ (at_ ar (sb - 1)) _ (s1 z (sb - 1) (by lia) (by lia) (by lia)) (hi2 v (by lia) h3)
      ·rw [e]; exact s2 z v z1 (by lia) h3
    ·rw [at3 u (by lia),at3 v (by lia)]; exact s2 u v (by lia) h2 h3
 by_cases c3 : d <= k2
 ·rw [yAK c3]
  refine yAO (m:=zK9 _ _) (f:=_) (zJU O C hk hp λm g hG => ?_);obtain ⟨q1,q2,q3⟩:=fin m hG _ rfl;refine yAO (m:=_) (f:=_) (yDw ?_);refine yAO (m:=_) (f:=_) (yEG (yAX ?_));exact h _ g q1 q2 q3
 ·rw [yAN c3]
  refine yAO (m:=zLE _ _) (f:=_) (zJ7 O C hk hp λm g hG => ?_);obtain ⟨q1,q2,q3⟩:=fin m hG _ rfl;refine yAO (m:=_) (f:=_) (yDw ?_);refine yAO (m:=_) (f:=_) (yEG (yAX ?_));exact h _ g q1 q2 q3
end
end L2T
namespace L2T
open PySem PyProof.Rows
noncomputable def Eqv (R : Keyed -> Keyed -> Bool) (x y : Keyed) : Prop:=R x y = false/\R y x = false
theorem Eqv.le {R : Keyed -> Keyed -> Bool} (O : Ord R) {x x' y y' : Keyed} (a : Eqv R x x') (b : Eqv R y y') (h : R x y = false) : R x' y' = false :=
 O.tr _ x _ (O.tr _ y _ b.1 h) a.2
theorem Eqv.refl {R : Keyed -> Keyed -> Bool} (O : Ord R) (x : Keyed) : Eqv R x x:=⟨O.irr x,O.irr x⟩
theorem Eqv.symm {R : Keyed -> Keyed -> Bool} {x y : Keyed} (h : Eqv R x y) : Eqv R y x:=⟨h.2,h.1⟩
theorem Eqv.trans {R : Keyed -> Keyed -> Bool} (O : Ord R) {x y z : Keyed} (h : Eqv R x y) (g : Eqv R y z) : Eqv R x z:=⟨O.tr _ _ _ g.1 h.1,O.tr _ _ _ h.2 g.2⟩
noncomputable def Dec (R : Keyed -> Keyed -> Bool) (xs : Array Keyed) (lo hi : Nat) : Prop:=∀ i j,lo <= i -> i <= j -> j < hi -> R (at_ xs i) (at_ xs j) = false
theorem zDX {xs ys : Array Keyed} {i j : Nat} (h : xs[i]? = ys[j]?) : at_ xs i = at_ ys j:=by
 rw [zG0,zG0,yAs,yAs,h]
theorem zDU {xs : Array Keyed} {i j : Nat} (hj : j <= xs.size) (k : Nat) : at_ (mirror xs i j ((j - i) / 2)) k = if i <= k/\k < j then at_ xs (i + j - 1 - k) else at_ xs k:=by
 have e:=getElem?_mirror_all (i:=i) hj k
 split
 ·rename_i c
  rw [yAK c] at e;exact zDX e
 ·rename_i c
  rw [yAN c] at e;exact zDX e
theorem zPT {xs : Array Keyed} {src d : Nat} (hs : src < xs.size) (hd : d <= src) (k : Nat) : at_ (bubble xs src d) k = if k = src - d then at_ xs src else if src - d < k/\k <= src then at_ xs (k - 1) else at_ xs k:=by
 have e:=getElem?_bubble hs d hd k
 split
 ·rename_i c
  rw [yAK c] at e;exact zDX e
 ·rename_i c
  rw [yAN c] at e
  split
  ·rename_i c2
   rw [yAK c2] at e;exact zDX e
  ·rename_i c2
   rw [yAN c2] at e;exact zDX e
structure Bs (κ : SortKind) (a₀ : Array Keyed) (st : SortSt) : Prop where
 kind : kindOf st = κ
 failed : failedOf st = none
 perm : (arrOf st).Perm a₀
theorem Bs.size {κ : SortKind} {a₀ : Array Keyed} {st : SortSt} (h : Bs κ a₀ st) : (arrOf st).size = a₀.size:=h.perm.size_eq
theorem Bs.mem {κ : SortKind} {a₀ : Array Keyed} {st : SortSt} (h : Bs κ a₀ st) {k : Nat} (hk : k < (arrOf st).size) : at_ (arrOf st) k∈a₀.toList:=by
 have:=yCv.mp h.perm
 exact this.mem_iff.mp (yAn (at_toList hk))
theorem Bs.setA {κ : SortKind} {a₀ : Array Keyed} {st : SortSt} (h : Bs κ a₀ st) {xs : Array Keyed} (hp : xs.Perm (arrOf st)) : Bs κ a₀ (setArr st xs):=⟨h.kind,h.failed,hp.trans h.perm⟩
structure Upd (a₀ : Array Keyed) (κ : SortKind) (lo : Nat) (st st' : SortSt) : Prop where
 bs : Bs κ a₀ st'
 pend : pendingOf st' = pendingOf st
 low : ∀ k,k < lo -> at_ (arrOf st') k = at_ (arrOf st) k
theorem Upd.refl {a₀ : Array Keyed} {κ : SortKind} {lo : Nat} {st : SortSt} (h : Bs κ a₀ st) : Upd a₀ κ lo st st:=⟨h,rfl,λ_ _=>rfl⟩
section
variable {prog : Program} {w : World} {A : Around} {E : Value -> Shared -> Prop} {s : Shared} {κ : SortKind} {R : Keyed -> Keyed -> Bool} {a₀ : Array Keyed} {st : SortSt}
theorem zG9 {i j : Nat} {Q : Option Bool -> SortSt -> Prop} (C : Cmp prog w A s κ R (· ∈ a₀.toList)) (hB : Bs κ a₀ st) (hi : i < a₀.size) (hj : j < a₀.size) (h : Q (some (R (at_ (arrOf st) i) (at_ (arrOf st) j))) st) : wpS (model prog w) A E s (ltAt' i j) Q st:=by
 have hz:=hB.size;rw [ltAt'_eq];refine yAO (yEG ?_);refine yAO (m:=elem' (arrOf st) i) (f:=_) (zAK (by lia) ?_);refine yAO (m:=elem' (arrOf st) j) (f:=_) (zAK (by lia) ?_);exact zHO C hB.kind (hB.mem (by lia)) (hB.mem (by lia)) h
theorem Upd.mirror {lo i j : Nat} {st₀ : SortSt} (U : Upd a₀ κ lo st₀ st) (hi : lo <= i) (hj : j <= a₀.size) : Upd a₀ κ lo st₀ (setArr st (mirror (arrOf st) i j ((j - i) / 2))):=by
 have hz:=U.bs.size;refine ⟨U.bs.setA (mirror_perm _ _ _ _),U.pend,λk hk => ?_⟩;show at_ (PyProof.Rows.mirror (arrOf st) i j ((j - i) / 2)) k = _;rw [zDU (by lia),yAN (by lia)];exact U.low k hk
theorem zEL (O : Ord R) {xs : Array Keyed} {i j : Nat} (hj : j <= xs.size) (he : ∀ u,i <= u -> u < j -> Eqv R (at_ xs u) (at_ xs (j - 1))) (k : Nat) : Eqv R (at_ xs k) (at_ (mirror xs i j ((j - i) / 2)) k):=by
 rw [zDU hj]
 split
 ·exact (he _ (by lia) (by lia)).trans O (he _ (by lia) (by lia)).symm
 ·exact Eqv.refl O _
set_option maxHeartbeats 1000000 in
theorem zQ5 {lo nrem : Nat} {Q : Option Nat -> SortSt -> Prop} (O : Ord R) (C : Cmp prog w A s κ R (· ∈ a₀.toList)) (hB : Bs κ a₀ st) (hn : lo + nrem <= a₀.size) (h1 : 1 <= nrem)
  (h : ∀ m st',Upd a₀ κ lo st st' -> 1 <= m -> m <= nrem -> SegSrt R (arrOf st') lo (lo + m) -> Q (some m) st') : wpS (model prog w) A E s (countRun' lo nrem) Q st:=by
 have hz:=hB.size
 have one : ∀ xs : Array Keyed,SegSrt R xs lo (lo + 1):=λxs i j a1 a2 a3=>by
  have : i = j:=by lia
  subst this;exact O.irr _
 refine yAO (m:=_) (f:=_) (yCN (yBZ (I:=λx c st'=>st' = st/\c = (none,x)/\SegSrt R (arrOf st) lo (lo + x))
  (Q:=λc st'=>st' = st/\∃ n,c = (none,n)/\1 <= n/\n <= nrem/\SegSrt R (arrOf st) lo (lo + n)/\(n = nrem \/ R (at_ (arrOf st) (lo + n)) (at_ (arrOf st) (lo + n - 1)) = true)) ?as ?af ⟨rfl,rfl,one _⟩) ?ap)
 case af =>
  rintro c st' ⟨rfl,rfl,hs⟩
  rw [show max 1 nrem = nrem by lia] at hs ⊢;exact ⟨rfl,nrem,rfl,h1,yAG _,hs,.inl rfl⟩
 case as =>
  rintro x c st' hx1 hx ⟨rfl,rfl,hs⟩
  dsimp only;refine yAO (m:=ltAt' (lo + x) (lo + x - 1)) (f:=_) (zG9 C hB (by lia) (by lia) ?_);dsimp only
  cases hr : R (at_ (arrOf st') (lo + x)) (at_ (arrOf st') (lo + x - 1)) with
  | true=>exact yAX ⟨rfl,x,rfl,hx1,by lia,hs,.inr hr⟩
  | false =>
   refine yAX ⟨rfl,rfl,λi j a1 a2 a3 => ?_⟩
   by_cases c1 : j < lo + x
   ·exact hs i j a1 a2 c1
   ·have ej : j = lo + x:=by lia
    subst ej
    by_cases c2 : i = lo + x
    ·rw [c2]; exact O.irr _
    ·exact O.tr _ (at_ (arrOf st') (lo + x - 1)) _ (hs i (lo + x - 1) a1 (by lia) (by lia)) hr
 case ap =>
  rintro c st' ⟨rfl,n,rfl,n1,nn,hs,hor⟩
  dsimp only;have hst4 : st' = st':=rfl;refine zAS (λcn=>yAX (h n st' (Upd.refl hB) n1 nn hs)) (λcn => ?_);have cn' : n≠nrem:=λz=>cn (yAe.mpr z);have hlt:=hor.resolve_left cn';apply zHI
  case use =>
   intro key
   by_cases cg : n > 1
   case pos =>
    rw [yAK cg];refine yAO (m:=ltAt' lo (lo + n - 1)) (f:=_) (zG9 C hB (by lia) (by lia) ?_);dsimp only
    by_cases hr' : R (at_ (arrOf st') lo) (at_ (arrOf st') (lo + n - 1)) = true
    ·rw [hr']
     exact yAX (h n st' (Upd.refl hB) n1 nn hs)
    have hr : R (at_ (arrOf st') lo) (at_ (arrOf st') (lo + n - 1)) = false:=yEF.mpr hr';rw [hr];have al : ∀ u,lo <= u -> u < lo + n -> Eqv R (at_ (arrOf st') u) (at_ (arrOf st') (lo + n - 1)):=λu b1 b2=>⟨O.tr _ (at_ (arrOf st') lo) _ hr (hs lo u (yAG _) b1 b2),hs u (lo + n - 1) b1 (by lia) (by lia)⟩;simp only [yBK,yCb];refine yAO (m:=reverseSlice' lo (lo + n)) (f:=_) (wpS_reverse ?_);have U:=(Upd.refl (lo:=lo) hB).mirror (yAG lo) (show lo + n <= a₀.size by lia);have ev:=zEL O (xs:=arrOf st') (i:=lo) (j:=lo + n) (by lia) al
    have D0 : Dec R (mirror (arrOf st') lo (lo + n) ((lo + n - lo) / 2)) lo (lo + (n + 1)):=λi j a1 a2 a3=>by
     refine (ev i).le O (ev j) ?_
     by_cases c1 : j < lo + n
     ·exact ((al i a1 (by lia)).trans O (al j (by lia) c1).symm).1
     ·have ej : j = lo + n:=by lia
      subst ej
      by_cases c2 : i = lo + n
      ·rw [c2]; exact O.irr _
      ·exact (al i a1 (by lia)).symm.le O (Eqv.refl O _) (O.as _ _ hlt)
    have D : Dec R (arrOf (setArr st' (mirror (arrOf st') lo (lo + n) ((lo + n - lo) / 2)))) lo (lo + (n + 1)):=D0;clear D0 ev al hr;generalize setArr st' (mirror (arrOf st') lo (lo + n) ((lo + n - lo) / 2)) = st2 at U D ⊢;revert D; revert U; revert st2;exact key.k
   case neg =>
    rw [yAN cg];have U:=Upd.refl (lo:=lo) hB
    have D : Dec R (arrOf st') lo (lo + (n + 1)):=λi j a1 a2 a3=>by
     by_cases c2 : i = j
     ·rw [c2]; exact O.irr _
     ·have ei : i = lo + n - 1:=by lia
      have ej : j = lo + n:=by lia
      subst ei ej;exact O.as _ _ hlt
    exact key.k _ U D
  intro st2 U D;refine yAO (m:=_) (f:=_) (wpS_lift (yDD ⟨rfl,?_⟩))
  refine yAO (m:=_) (f:=_) (yCN (yBZ (I:=λx c st3=>∃ neq,c = (none,x,neq)/\Upd a₀ κ lo st' st3/\Dec R (arrOf st3) lo (lo + x)/\neq + 1 <= x/\∀ u,lo + x - (neq + 1) <= u -> u < lo + x -> Eqv R (at_ (arrOf st3) u) (at_ (arrOf st3) (lo + x - 1)))
   (Q:=λc st3=>∃ m neq,c = (none,m,neq)/\1 <= m/\m <= nrem/\Upd a₀ κ lo st' st3/\Dec R (arrOf st3) lo (lo + m)/\neq + 1 <= m/\∀ u,lo + m - (neq + 1) <= u -> u < lo + m -> Eqv R (at_ (arrOf st3) u) (at_ (arrOf st3) (lo + m - 1))) ?ds ?df ⟨0,rfl,U,D,by lia,λu b1 b2=>by rw [show u = lo + (n + 1) - 1 by lia]; exact Eqv.refl O _⟩) ?dp)
  case df =>
   rintro c st3 ⟨neq,rfl,U3,D3,q1,q2⟩
   rw [show max (n + 1) nrem = nrem by lia] at D3 q1 q2 ⊢;exact ⟨nrem,neq,rfl,h1,yAG _,U3,D3,q1,q2⟩
  case ds =>
   rintro x c st3 hx1 hx ⟨neq,rfl,U3,D3,q1,q2⟩
   have z3:=U3.bs.size;dsimp only;refine yAO (m:=ltAt' (lo + x) (lo + x - 1)) (f:=_) (zG9 C U3.bs (by lia) (by lia) ?_);dsimp only
   by_cases hr' : R (at_ (arrOf st3) (lo + x)) (at_ (arrOf st3) (lo + x - 1)) = true
   ·rw [hr']
    simp only [yDu]
    have step1 : ∀ xs : Array Keyed,(∀ k,Eqv R (at_ (arrOf st3) k) (at_ xs k)) -> Dec R xs lo (lo + (x + 1)):=λxs ev i j a1 a2 a3=>by
     refine (ev i).le O (ev j) ?_
     by_cases c1 : j < lo + x
     ·exact D3 i j a1 a2 c1
     ·have ej : j = lo + x:=by lia
      subst ej
      by_cases c2 : i = lo + x
      ·rw [c2]; exact O.irr _
      ·exact O.tr _ (at_ (arrOf st3) (lo + x - 1)) _ (O.as _ _ hr') (D3 i (lo + x - 1) a1 (by lia) (by lia))
    by_cases cq : neq > 0
    ·rw [yAK cq]
     refine yAO (m:=reverseSlice' (lo + x - (neq + 1)) (lo + x)) (f:=_) (wpS_reverse (yAX ⟨0,rfl,U3.mirror (by lia) (by lia),step1 _ (zEL O (by lia) q2),by lia,λu b1 b2=>by rw [show u = lo + (x + 1) - 1 by lia]; exact Eqv.refl O _⟩))
    ·rw [yAN cq]
     exact yAX ⟨0,rfl,U3,step1 _ (λk=>Eqv.refl O _),by lia,λu b1 b2=>by rw [show u = lo + (x + 1) - 1 by lia]; exact Eqv.refl O _⟩
   ·have hr : R (at_ (arrOf st3) (lo + x)) (at_ (arrOf st3) (lo + x - 1)) = false:=yEF.mpr hr'
    rw [hr];simp only [yBK,yCb];refine yAO (m:=ltAt' (lo + x - 1) (lo + x)) (f:=_) (zG9 C U3.bs (by lia) (by lia) ?_);dsimp only
    by_cases hl' : R (at_ (arrOf st3) (lo + x - 1)) (at_ (arrOf st3) (lo + x)) = true
    ·rw [hl']
     exact yAX ⟨x,neq,rfl,by lia,by lia,U3,D3,q1,q2⟩
    ·have hl : R (at_ (arrOf st3) (lo + x - 1)) (at_ (arrOf st3) (lo + x)) = false:=yEF.mpr hl'
     rw [hl];have ee : Eqv R (at_ (arrOf st3) (lo + x - 1)) (at_ (arrOf st3) (lo + x)):=⟨hl,hr⟩;refine yAX ⟨neq + 1,rfl,U3,λi j a1 a2 a3 => ?_,by lia,λu b1 b2 => ?_⟩
     ·by_cases c1 : j < lo + x
      ·exact D3 i j a1 a2 c1
      ·have ej : j = lo + x:=by lia
       subst ej
       by_cases c2 : i = lo + x
       ·rw [c2]; exact O.irr _
       ·exact (Eqv.refl O _).le O ee (D3 i (lo + x - 1) a1 (by lia) (by lia))
     ·rw [show lo + (x + 1) - 1 = lo + x by lia]
      by_cases c2 : u = lo + x
      ·rw [c2]; exact Eqv.refl O _
      ·exact (q2 u (by lia) (by lia)).trans O ee
  case dp =>
   rintro c st3 ⟨m,neq,rfl,m1,mn,U3,D3,q1,q2⟩
   have z3:=U3.bs.size;dsimp only;apply zHI
   case use =>
    intro key
    by_cases cq : neq > 0
    case pos =>
     rw [yAK cq];refine yAO (m:=reverseSlice' (lo + m - (neq + 1)) (lo + m)) (f:=_) (wpS_reverse ?_);have U5:=U3.mirror (i:=lo + m - (neq + 1)) (j:=lo + m) (by lia) (by lia);have ev:=zEL O (xs:=arrOf st3) (i:=lo + m - (neq + 1)) (j:=lo + m) (by lia) q2;have D5 : Dec R (arrOf (setArr st3 (mirror (arrOf st3) (lo + m - (neq + 1)) (lo + m) ((lo + m - (lo + m - (neq + 1))) / 2)))) lo (lo + m):=λi j a1 a2 a3=>(ev i).le O (ev j) (D3 i j a1 a2 a3);clear ev;generalize setArr st3 (mirror (arrOf st3) (lo + m - (neq + 1)) (lo + m) ((lo + m - (lo + m - (neq + 1))) / 2)) = st5 at U5 D5 ⊢;revert D5; revert U5; revert st5;exact key.k
    case neg =>
     rw [yAN cq];have U5:=U3;have D5:=D3;exact key.k _ U5 D5
   intro st5 U5 D5;have z5:=U5.bs.size;refine yAO (m:=reverseSlice' lo (lo + m)) (f:=_) (wpS_reverse ?_);have U6:=U5.mirror (yAG lo) (show lo + m <= a₀.size by lia)
   have S6 : SegSrt R (arrOf (setArr st5 (mirror (arrOf st5) lo (lo + m) ((lo + m - lo) / 2)))) lo (lo + m):=λi j a1 a2 a3=>by
    show R (at_ (mirror (arrOf st5) lo (lo + m) ((lo + m - lo) / 2)) j) (at_ (mirror (arrOf st5) lo (lo + m) ((lo + m - lo) / 2)) i) = false;rw [zDU (by lia),zDU (by lia),yAK (by lia),yAK (by lia)];exact D5 _ _ (by lia) (Nat.sub_le_sub_left a2 _) (by lia)
   generalize hs6 : setArr st5 (mirror (arrOf st5) lo (lo + m) ((lo + m - lo) / 2)) = st6 at U6 S6 ⊢
   refine yAO (m:=_) (f:=_) (yCN (yBZ (I:=λx c st7=>st7 = st6/\c = (none,x)/\SegSrt R (arrOf st6) lo (lo + x))
    (Q:=λc st7=>st7 = st6/\∃ n,c = (none,n)/\1 <= n/\n <= nrem/\SegSrt R (arrOf st6) lo (lo + n)) ?es ?ef ⟨rfl,rfl,S6⟩) ?ep)
   case ef =>
    rintro c st7 ⟨rfl,rfl,hs'⟩
    rw [show max m nrem = nrem by lia] at hs' ⊢;exact ⟨rfl,nrem,rfl,h1,yAG _,hs'⟩
   case ep =>
    rintro c st7 ⟨rfl,n',rfl,b1,b2,hs'⟩
    exact yAX (h n' _ U6 b1 b2 hs')
   case es =>
    rintro x c st7 hx1 hx ⟨rfl,rfl,hs'⟩
    have z6:=U6.bs.size;dsimp only;refine yAO (m:=ltAt' (lo + x) (lo + x - 1)) (f:=_) (zG9 C U6.bs (by lia) (by lia) ?_);dsimp only
    cases hr : R (at_ (arrOf st7) (lo + x)) (at_ (arrOf st7) (lo + x - 1)) with
    | true=>exact yAX ⟨rfl,x,rfl,by lia,by lia,hs'⟩
    | false =>
     refine yAX ⟨rfl,rfl,λi j a1 a2 a3 => ?_⟩
     by_cases c1 : j < lo + x
     ·exact hs' i j a1 a2 c1
     ·have ej : j = lo + x:=by lia
      subst ej
      by_cases c2 : i = lo + x
      ·rw [c2]; exact O.irr _
      ·exact O.tr _ (at_ (arrOf st7) (lo + x - 1)) _ (hs' i (lo + x - 1) a1 (by lia) (by lia)) hr
end
end L2T
namespace L2T
open PySem PyProof.Rows
section
variable {prog : Program} {w : World} {A : Around} {E : Value -> Shared -> Prop} {s : Shared} {κ : SortKind} {R : Keyed -> Keyed -> Bool} {a₀ : Array Keyed} {st : SortSt}
set_option maxHeartbeats 1000000 in
theorem zM9 {lo n ok : Nat} {Q : Bool -> SortSt -> Prop} (O : Ord R) (C : Cmp prog w A s κ R (· ∈ a₀.toList)) (hB : Bs κ a₀ st) (hn : lo + n <= a₀.size) (ho1 : 1 <= ok) (hok : ok <= n) (hs : SegSrt R (arrOf st) lo (lo + ok))
  (h : ∀ st',Upd a₀ κ lo st st' -> SegSrt R (arrOf st') lo (lo + n) -> Q true st') : wpS (model prog w) A E s (binarySort' lo n ok) Q st:=by
 refine yAO (m:=_) (f:=_) (yCN (yBZ (I:=λk c st'=>c = (none,())/\Upd a₀ κ lo st st'/\SegSrt R (arrOf st') lo (lo + min k n))
  (Q:=λc st'=>c = (none,())/\Upd a₀ κ lo st st'/\SegSrt R (arrOf st') lo (lo + n)) ?step ?fin ⟨rfl,Upd.refl hB,by rw [show min (max ok 1) n = ok by lia]; exact hs⟩) ?post)
 case post =>
  rintro c st' ⟨rfl,U,hs'⟩
  exact yAX (h st' U hs')
 case fin =>
  rintro c st' ⟨hc,U,hs'⟩
  refine ⟨hc,U,?_⟩
  rwa [show min (max (max ok 1) n) n = n by lia] at hs'
 case step =>
  rintro k c st' hak hkn ⟨rfl,U,hs'⟩
  rw [show min k n = k by lia] at hs';have z1:=U.bs.size;dsimp only
  refine yAO (m:=_) (f:=_) (yCN (yBZ (I:=λx c st''=>st'' = st'/\∃ l r,c = (none,l,r)/\l <= r/\r <= k/\r + x <= k + l /\
    (∀ i,lo <= i -> i < lo + l -> R (at_ (arrOf st') (lo + k)) (at_ (arrOf st') i) = false)/\(∀ i,lo + r <= i -> i < lo + k -> R (at_ (arrOf st') (lo + k)) (at_ (arrOf st') i) = true))
   (Q:=λc st''=>st'' = st'/\∃ l r,c = (none,l,r)/\l <= k /\
    (∀ i,lo <= i -> i < lo + l -> R (at_ (arrOf st') (lo + k)) (at_ (arrOf st') i) = false)/\(∀ i,lo + l <= i -> i < lo + k -> R (at_ (arrOf st') (lo + k)) (at_ (arrOf st') i) = true)) ?istep ?ifin ⟨rfl,0,k,rfl,by lia,by lia,by lia,λi a1 a2=>by lia,λi a1 a2=>by lia⟩) ?ipost)
  case ifin =>
   rintro c st'' ⟨rfl,l,r,rfl,hlr,hrk,hm,hlo,hhi⟩
   have e : l = r:=by lia
   subst e;exact ⟨rfl,l,l,rfl,hrk,hlo,hhi⟩
  case istep =>
   rintro x c st'' _ hxk ⟨rfl,l,r,rfl,hlr,hrk,hm,hlo,hhi⟩
   dsimp only
   by_cases hge : l >= r
   ·rw [yAK hge]
    have e : l = r:=by lia
    subst e;exact yAX ⟨rfl,l,l,rfl,hrk,hlo,hhi⟩
   ·rw [yAN hge]
    refine yAO (m:=ltAt' (lo + k) (lo + (l + r) / 2)) (f:=_) (zG9 C U.bs (by lia) (by lia) ?_);dsimp only
    cases hr : R (at_ (arrOf st'') (lo + k)) (at_ (arrOf st'') (lo + (l + r) / 2)) with
    | true =>
     refine yAX ⟨rfl,l,(l + r) / 2,rfl,by lia,by lia,by lia,hlo,λi b1 b2 => ?_⟩
     cases z : R (at_ (arrOf st'') (lo + k)) (at_ (arrOf st'') i) with
     | true=>rfl
     | false =>
      rw [O.tr _ (at_ (arrOf st'') i) _ (hs' (lo + (l + r) / 2) i (by lia) b1 b2) z] at hr
      cases hr
    | false =>
     refine yAX ⟨rfl,(l + r) / 2 + 1,r,rfl,by lia,by lia,by lia,λi b1 b2 => ?_,hhi⟩;exact O.tr _ (at_ (arrOf st'') (lo + (l + r) / 2)) _ (hs' i (lo + (l + r) / 2) b1 (by lia) (by lia)) hr
  case ipost =>
   rintro c st'' ⟨rfl,l,r,rfl,hlk,hlo,hhi⟩
   dsimp only;refine yAO (m:=moveDown' (lo + k) (lo + l)) (f:=_) ?_;rw [moveDown'_eq]
   have ab : ∀ u,at_ (bubble (arrOf st'') (lo + k) (lo + k - (lo + l))) u = if u = lo + l then at_ (arrOf st'') (lo + k) else if lo + l < u/\u <= lo + k then at_ (arrOf st'') (u - 1) else at_ (arrOf st'') u:=λu=>by
    have q:=zPT (xs:=arrOf st'') (src:=lo + k) (d:=lo + k - (lo + l)) (by lia) (by lia) u
    rwa [yDZ (Nat.add_le_add_left hlk lo)] at q
   refine yDw (yAX ⟨rfl,⟨U.bs.setA (bubble_perm _ _ _),U.pend,λu hu => ?_⟩,?_⟩)
   ·show at_ (bubble (arrOf st'') (lo + k) (lo + k - (lo + l))) u = _
    rw [ab,yAN (by lia),yAN (by lia)];exact U.low u hu
   ·rw [show min (k + 1) n = k + 1 by lia]
    intro i j a1 a2 a3;show R (at_ (bubble (arrOf st'') (lo + k) (lo + k - (lo + l))) j) (at_ (bubble (arrOf st'') (lo + k) (lo + k - (lo + l))) i) = false;rw [ab,ab]
    repeat' split
    all_goals first
     | (exfalso; lia)
     | exact O.irr _
     | exact hlo _ (by lia) (by lia)
     | exact O.as _ _ (hhi _ (by lia) (by lia))
     | exact hs' _ _ (by lia) (by lia) (by lia)
noncomputable def Runs (S : Nat -> Nat -> Prop) : List (Nat × Nat × Nat) -> Nat -> Nat -> Prop
 | [],a,b=>a = b
 | (s,n,_)::r,a,b=>s = a/\1 <= n/\S a (a + n)/\Runs S r (a + n) b
theorem Runs.le {S : Nat -> Nat -> Prop} : ∀ {l : List (Nat × Nat × Nat)} {a b : Nat},Runs S l a b -> a + l.length <= b
 | [],a,b,h=>by have : a = b:=h; subst this; simp
 | (s,n,p)::r,a,b,h=>by
  have:=h.2.2.2.le
  have:=h.2.1
  simp only [yBP]
  lia
theorem Runs.mono {S S' : Nat -> Nat -> Prop} : ∀ {l : List (Nat × Nat × Nat)} {a b : Nat},Runs S l a b -> (∀ u v,a <= u -> v <= b -> S u v -> S' u v) -> Runs S' l a b
 | [],a,b,h,_=>h
 | (s,n,p)::r,a,b,h,f=>by
  have:=h.2.2.2.le
  exact ⟨h.1,h.2.1,f _ _ (yAG _) (by lia) h.2.2.1,h.2.2.2.mono λu v h1 h2=>f u v (by lia) h2⟩
theorem Runs.push {S : Nat -> Nat -> Prop} : ∀ {l : List (Nat × Nat × Nat)} {a b n p : Nat},Runs S l a b -> 1 <= n -> S b (b + n) -> Runs S (l++[(b,n,p)]) a (b + n)
 | [],a,b,n,p,h,hn,hs=>by have : a = b:=h; subst this; exact ⟨rfl,hn,hs,rfl⟩
 | (s,m,p')::r,a,b,n,p,h,hn,hs=>⟨h.1,h.2.1,h.2.2.1,h.2.2.2.push hn hs⟩
theorem Runs.two {S : Nat -> Nat -> Prop} : ∀ {l : List (Nat × Nat × Nat)} {a b i : Nat},Runs S l a b -> i + 1 < l.length -> ∃ s n p m p2,l[i]? = some (s,n,p)/\l[i + 1]? = some (s + n,m,p2)/\1 <= n/\1 <= m/\a <= s/\s + n + m <= b/\S s (s + n)/\S (s + n) (s + n + m) /\
  ∀ S' : Nat -> Nat -> Prop,(∀ u v,(v <= s \/ s + n + m <= u) -> S u v -> S' u v) -> S' s (s + n + m) -> Runs S' ((l.set i (s,n + m,p)).eraseIdx (i + 1)) a b
 | (s,n,p)::(t,m,p2)::r,a,b,0,h,_=>by
  obtain ⟨e1,h1,q1,e2,h2,q2,h3⟩:=h;have l3:=h3.le;subst e1 e2;refine ⟨s,n,p,m,p2,rfl,rfl,h1,h2,yAG _,by lia,q1,q2,λS' f g=>⟨rfl,by lia,by rw [<- Nat.add_assoc]; exact g,?_⟩⟩;rw [<- Nat.add_assoc];exact h3.mono λu v a1 a2=>f u v (.inr a1)
 | [],a,b,i,h,hl=>by simp at hl
 | [x],a,b,i,h,hl=>by simp at hl
 | (s,n,p)::x::r,a,b,i + 1,h,hl=>by
  obtain ⟨e1,h1,q1,h2⟩:=h;obtain ⟨s',n',p',m',q',g1,g2,g3,g4,g5,g6,g7,g8,g9⟩:=h2.two (i:=i) (by simpa using hl);exact ⟨s',n',p',m',q',g1,g2,g3,g4,by lia,g6,g7,g8,λS' f g=>⟨e1,h1,f _ _ (.inl g5) q1,g9 S' f g⟩⟩
theorem Runs.mod {S : Nat -> Nat -> Prop} {f : Nat × Nat × Nat -> Nat × Nat × Nat} (hf : ∀ x,(f x).1 = x.1/\(f x).2.1 = x.2.1) : ∀ {l : List (Nat × Nat × Nat)} {a b : Nat} (k : Nat),Runs S l a b -> Runs S (l.modify k f) a b
 | [],a,b,k,h=>by rw [List.modify_nil]; exact h
 | (s,n,p)::r,a,b,0,h=>by
  show Runs S (f (s,n,p)::r) a b;obtain ⟨e1,e2⟩:=hf (s,n,p);generalize f (s,n,p) = w at e1 e2 ⊢;obtain ⟨x,y,z⟩:=w;have e1 : x = s:=e1;have e2 : y = n:=e2;subst e1 e2;exact h
 | (s,n,p)::r,a,b,k + 1,h=>⟨h.1,h.2.1,h.2.2.1,h.2.2.2.mod hf k⟩
theorem zQA {xs ys : Array Keyed} {lo u v : Nat} (h : ∀ k,k < lo -> at_ ys k = at_ xs k) (hv : v <= lo) (q : SegSrt R xs u v) : SegSrt R ys u v:=λi j a1 a2 a3=>by
 rw [h i (by lia),h j (by lia)]; exact q i j a1 a2 a3
theorem zIK {i lo : Nat} {Q : Bool -> SortSt -> Prop} (O : Ord R) (C : Cmp prog w A s κ R (· ∈ a₀.toList)) (hB : Bs κ a₀ st) (hl : lo <= a₀.size) (hr : Runs (SegSrt R (arrOf st)) (pendingOf st).toList 0 lo) (hi : i + 1 < (pendingOf st).size)
  (h : ∀ st',Bs κ a₀ st' -> Runs (SegSrt R (arrOf st')) (pendingOf st').toList 0 lo -> (pendingOf st').size + 1 = (pendingOf st).size -> (∀ k,lo <= k -> at_ (arrOf st') k = at_ (arrOf st) k) -> Q true st') : wpS (model prog w) A E s (mergeAt' i) Q st:=by
 obtain ⟨sa,na,p,nb,p2,e1,e2,n1,n2,_,le,s1,s2,f⟩:=hr.two (i:=i) (by simpa using hi);have hz:=hB.size;refine zK4 O C hB.kind hB.failed (sa:=sa) (na:=na) (pw:=p) (sb:=sa + na) (nb:=nb) (pw2:=p2) (by simpa using e1) (by simpa using e2) rfl n1 n2 (by lia) s1 s2 (λk hk=>hB.mem hk) λxs g hp same seg => ?_;refine h _ ⟨hB.kind,rfl,hp.trans hB.perm⟩ ?_ ?_ λk hk=>same k (.inr (by lia))
 ·have q:=f (SegSrt R xs) (λu v huv q i j a1 a2 a3=>by
   rcases huv with huv | huv
   ·rw [same i (.inl (by lia)),same j (.inl (by lia))]; exact q i j a1 a2 a3
   ·rw [same i (.inr (by lia)),same j (.inr (by lia))]; exact q i j a1 a2 a3) seg
  have et : (((pendingOf st).setIfInBounds i (sa,na + nb,p)).eraseIdxIfInBounds (i + 1)).toList = ((pendingOf st).toList.set i (sa,na + nb,p)).eraseIdx (i + 1):=by
   simp
  show Runs (SegSrt R xs) (((pendingOf st).setIfInBounds i (sa,na + nb,p)).eraseIdxIfInBounds (i + 1)).toList 0 lo;rw [et];exact q
 ·show (((pendingOf st).setIfInBounds i (sa,na + nb,p)).eraseIdxIfInBounds (i + 1)).size + 1 = _
  rw [<- yAx,show (((pendingOf st).setIfInBounds i (sa,na + nb,p)).eraseIdxIfInBounds (i + 1)).toList = ((pendingOf st).toList.set i (sa,na + nb,p)).eraseIdx (i + 1) by simp,List.length_eraseIdx,List.length_set,yAx,yAK hi]
  lia
set_option maxHeartbeats 2000000 in
theorem wpS_runs {Q : Unit -> SortSt -> Prop} (O : Ord R) (C : Cmp prog w A s κ R (· ∈ a₀.toList)) (hB : Bs κ a₀ st) (hpd : pendingOf st = #[]) (h2 : 2 <= a₀.size)
  (h : ∀ st',Bs κ a₀ st' -> SegSrt R (arrOf st') 0 a₀.size -> Q () st') : wpS (model prog w) A E s sortRuns' Q st:=by
 have hz:=hB.size;refine yAO (m:=_) (f:=_) (yEG ?_);dsimp only;rw [show (arrOf st).size = a₀.size from hz];generalize (sortPriv% PySem.Builtin.minRun) a₀.size a₀.size 0 = minrun
 refine yAO (m:=_) (f:=_) (yCN (yBZ (I:=λx c st'=>∃ lo,c = (none,lo)/\Bs κ a₀ st'/\Runs (SegSrt R (arrOf st')) (pendingOf st').toList 0 lo/\lo <= a₀.size/\x <= lo)
  (Q:=λc st'=>c = (none,a₀.size)/\Bs κ a₀ st'/\Runs (SegSrt R (arrOf st')) (pendingOf st').toList 0 a₀.size) ?step ?fin ⟨0,rfl,hB,by rw [hpd]; exact rfl,yAy _,yAy _⟩) ?post)
 case fin =>
  rintro c st' ⟨lo,rfl,hB',hr,h3,h4⟩
  have e : lo = a₀.size:=by lia
  subst e;exact ⟨rfl,hB',hr⟩
 case post =>
  rintro c st1 ⟨rfl,hB1,hr1⟩
  dsimp only;have len1:=hr1.le
  refine yAO (m:=_) (f:=_) (yCN (yBZ (I:=λx c st'=>c = (none,())/\Bs κ a₀ st'/\Runs (SegSrt R (arrOf st')) (pendingOf st').toList 0 a₀.size/\(pendingOf st').size + x <= a₀.size)
   (Q:=λc st'=>c = (none,())/\Bs κ a₀ st'/\Runs (SegSrt R (arrOf st')) (pendingOf st').toList 0 a₀.size/\(pendingOf st').size <= 1) ?ls ?lf ⟨rfl,hB1,hr1,by simp only [yAx] at len1; lia⟩) ?lp)
  case lf =>
   rintro c st' ⟨rfl,hB',hr,h3⟩
   exact ⟨rfl,hB',hr,by lia⟩
  case lp =>
   rintro c st' ⟨rfl,hB',hr,h3⟩
   refine yAX (h st' hB' ?_)
   match hl : (pendingOf st').toList,hr with
   | [],hr=>have : (0 : Nat) = a₀.size:=hr; lia
   | [(s0,n0,p0)],hr =>
    obtain ⟨e1,_,q,e2⟩:=hr;have e2 : 0 + n0 = a₀.size:=e2;rw [<- e2];exact q
   | _::_::_,_ =>
    have : (pendingOf st').toList.length <= 1:=by rw [yAx]; exact h3
    rw [hl] at this
    simp at this
  case ls =>
   rintro x c st' _ hx ⟨rfl,hB',hr,h3⟩
   refine yAO (m:=_) (f:=_) (yEG ?_);refine zAS (λc1=>yAX ⟨rfl,hB',hr,c1⟩) (λc1 => ?_);have c1 : ¬ (pendingOf st').size <= 1:=c1;have two : ∀ (p : Prop) [Decidable p],(if p then (pendingOf st').size - 2 - 1 else (pendingOf st').size - 2) + 1 < (pendingOf st').size:=λp _=>by split <;> lia
   have go : ∀ i,i + 1 < (pendingOf st').size -> wpS (model prog w) A E s (mergeAt' i) (λb st''=>b = true/\Bs κ a₀ st''/\Runs (SegSrt R (arrOf st'')) (pendingOf st'').toList 0 a₀.size/\(pendingOf st'').size + (x + 1) <= a₀.size) st':=λi hi=>zIK O C hB' (yAG _) hr hi λst'' b1 b2 b3 _=>⟨rfl,b1,b2,by lia⟩
   try dsimp only
   refine yAO (m:=mergeAt' _) (f:=_) (yCN (go _ ?_) ?_)
   ·exact two _
   ·rintro b st'' ⟨rfl,b1,b2,b3⟩
    exact yAX ⟨rfl,b1,b2,b3⟩
 case step =>
  rintro x c st' _ hx ⟨lo,rfl,hB',hr,h3,h4⟩
  dsimp only
  by_cases cg : lo >= a₀.size
  ·rw [yAK cg]
   have e : lo = a₀.size:=by lia
   subst e;exact yAX ⟨rfl,hB',hr⟩
  rw [yAN cg];refine yAO (m:=countRun' lo (a₀.size - lo)) (f:=_) (zQ5 O C hB' (by lia) (by lia) λm st2 U m1 mn sg => ?_);dsimp only
  have r2 : Runs (SegSrt R (arrOf st2)) (pendingOf st2).toList 0 lo:=by
   rw [U.pend];exact hr.mono λu v _ hv q=>zQA U.low hv q
  apply zHI
  case use =>
   intro key
   by_cases cm : m < minrun
   case pos =>
    rw [yAK cm];refine yAO (m:=_) (f:=_) (wpS_lift (yDD ⟨rfl,?_⟩));refine yAO (m:=binarySort' lo (min (a₀.size - lo) minrun) m) (f:=_) (zM9 O C U.bs (by lia) m1 (by lia) sg λst3 U3 sg3 => ?_);simp only [Bool.not_true,yBK,yCb]
    have r3 : Runs (SegSrt R (arrOf st3)) (pendingOf st3).toList 0 lo:=by
     rw [U3.pend];exact r2.mono λu v _ hv q=>zQA U3.low hv q
    have B3:=U3.bs;have n1 : 1 <= min (a₀.size - lo) minrun:=by lia
    have nz : lo + min (a₀.size - lo) minrun <= a₀.size:=by lia
    clear U3;generalize min (a₀.size - lo) minrun = n at sg3 n1 nz ⊢;revert nz; revert n1; revert sg3; revert B3; revert r3; revert n; revert st3;exact key.k
   case neg =>
    rw [yAN cm];exact key.k _ _ r2 U.bs sg m1 (by lia)
  intro st3 n r3 B3 sg3 n1 nz;have last : ∀ st4 : SortSt,Bs κ a₀ st4 -> Runs (SegSrt R (arrOf st4)) (pendingOf st4).toList 0 lo -> SegSrt R (arrOf st4) lo (lo + n) -> Bs κ a₀ (zZD st4 ((pendingOf st4).push (lo,n,0)))/\Runs (SegSrt R (arrOf st4)) ((pendingOf st4).push (lo,n,0)).toList 0 (lo + n):=λst4 b1 b2 b3=>⟨⟨b1.kind,b1.failed,b1.perm⟩,by rw [yAo]; exact b2.push n1 b3⟩;refine yAO (m:=_) (f:=_) (yEG ?_)
  split
  ·refine yAO (m:=_) (f:=_) (yCN (yBZ (I:=λy c st4=>c = (none,())/\Bs κ a₀ st4/\Runs (SegSrt R (arrOf st4)) (pendingOf st4).toList 0 lo/\SegSrt R (arrOf st4) lo (lo + n))
    (Q:=λc st4=>c = (none,())/\Bs κ a₀ st4/\Runs (SegSrt R (arrOf st4)) (pendingOf st4).toList 0 lo/\SegSrt R (arrOf st4) lo (lo + n)) ?ix1 ?ix2 ⟨rfl,B3,r3,sg3⟩) ?ix3)
   case ix2 =>
    rintro c st4 q
    exact q
   case ix1 =>
    rintro y c st4 _ hy ⟨rfl,B4,r4,sg4⟩
    refine yAO (m:=_) (f:=_) (yEG ?_)
    split
    ·rename_i hsome
     split
     ·exact yAX ⟨rfl,B4,r4,sg4⟩
     ·have c2 : (pendingOf st4).size > 1:=by
       rcases yBs 1 (pendingOf st4).size with z | z
       ·exact z
       ·rw [yAN (Nat.not_lt_of_ge z)] at hsome
        cases hsome
      refine yAO (m:=mergeAt' ((pendingOf st4).size - 2)) (f:=_) (zIK O C B4 h3 r4 (by lia) λst5 b1 b2 b3 b4=>yAX ⟨rfl,b1,b2,λi j a1 a2 a3 => ?_⟩);rw [b4 i a1,b4 j (by lia)];exact sg4 i j a1 a2 a3
    ·exact yAX ⟨rfl,B4,r4,sg4⟩
   case ix3 =>
    rintro c st4 ⟨rfl,B4,r4,sg4⟩
    dsimp only;refine yAO (m:=_) (f:=_) (yDw ?_);refine yAO (m:=_) (f:=_) (yDw (yAX ?_));refine ⟨lo + n,rfl,⟨B4.kind,B4.failed,B4.perm⟩,?_,nz,by lia⟩;show Runs (SegSrt R (arrOf st4)) (((pendingOf st4).modify ((pendingOf st4).size - 1) _).push (lo,n,0)).toList 0 (lo + n);rw [yAo,Array.toList_modify];refine Runs.push (Runs.mod ?_ _ r4) n1 sg4;exact λx=>⟨rfl,rfl⟩
  ·refine yAO (m:=_) (f:=_) (yDw (yAX ?_))
   obtain ⟨b1,b2⟩:=last st3 B3 r3 sg3;exact ⟨lo + n,rfl,b1,b2,nz,by lia⟩
end
end L2T
namespace L2
open PySem PySem.Spec PyProof.Rows PySem.W
theorem pw2 {α : Type} {R : α -> α -> Prop} : ∀ {xs : List α},xs.length < 2 -> xs.Pairwise R | [],_ => .nil | [_],_=>yCG _ _
section
variable {X : Cx} {pins : List (Addr × Obj)} {σ : St} {H : Hp} {s : Shared} {k : Nat} {f D : Addr} {fd : FuncData} {pn : Str} {sp : Sp} {kf : V -> Int × List Int} {xs : List V} {its : List Value} {kd : Int × List Int -> PyData} {okk : Int × List Int -> Prop} {KA : Hp -> Shared -> Value -> Int -> List Int -> Prop}
theorem zSL {x : V} {u : Value} {Q : VK} {E : Value -> Shared -> Prop} (F : FnOk X.prog X.w X.K X.mg X.base CX0 k f fd [pn] sp) (hr : Room (k + 2) X.A) (hb : Binds X.K fd [pn] []) (I : Inv X pins σ H s) (r : RelV x u) (h : sp [x] H Q E0) :
  wpAny (model X.prog X.w) X.A.in1.in1 (call (.ref f) [u]) (EP X pins σ Q) E s:=by
 refine yDf (yCZ (F.run X.A.in1.in1 X.stack s H ⟨[u],[]⟩ [u] [x] Q E0 hr.in1.in1 I.env0.in1.in1 (hb s [u] I.kIn rfl) (.cons r .nil) h) λr s' hq => ?_)
 cases r with
 | error e=>exact False.elim hq
 | ok fl =>
  cases fl with
  | ret u=>exact I.after hq
  | next=>exact False.elim hq
  | brk=>exact False.elim hq
  | cont=>exact False.elim hq
structure KForm (X : Cx) (kd : Int × List Int -> PyData) (okk : Int × List Int -> Prop) (KA : Hp -> Shared -> Value -> Int -> List Int -> Prop) : Prop where
 tup : ∀ a,∃ ds,kd a = .tuple ds
 at_ : ∀ {pins : List (Addr × Obj)} {σ : St} {H : Hp} {s : Shared} {v : V} {u : Value} {n : Int} {ms : List Int},Inv X pins σ H s -> DV X.K H v (kd (n,ms)) -> RelV v u -> okk (n,ms) -> KA H s u n ms
 ex : ∀ {H : Hp} {s : Shared} {v : Value} {n : Int} {ms : List Int},KA H s v n ms -> ∃ (a b : Addr) (t : Tok) (o : Obj) (k : Nat),v = .ref a/\s.heap.get? a = some o/\o.cls = .type "tuple"/\o.data = .seq [.int n t,.ref b].toArray k
 cmp : ∀ {H : Hp} {s : Shared} {A : Around} {E : Value -> Shared -> Prop} {u v : Value} {n m : Int} {ms ks : List Int} {C : Bool -> Shared -> Prop},A.units + 10 < cLine -> KA H s u n ms -> KA H s v m ks -> C (zB2 (n,ms) (m,ks)) s -> wpAny (model X.prog X.w) A (keyLt' (tuples' true) u v) C E s
structure KeysTo (kd : Int × List Int -> PyData) (K : PySem.W.Frag) (H : Hp) (kf : V -> Int × List Int) (xs : List V) (ks : List Value) (i : Nat) : Prop where
 len : ks.length = i
 at' : ∀ j,j < i -> ∃ a,ks[j]? = some (.ref a)/\DV K H (.ref a) (kd (kf (xs.getD j .non)))
theorem DV.tup_ref {K : PySem.W.Frag} {v : V} {ds : List PyData} (h : DV K H v (.tuple ds)) : ∃ a,v = .ref a:=by
 generalize hd : PyData.tuple ds = d at h
 cases h with
 | tup _ _=>exact ⟨_,rfl⟩
 | _=>cases hd
noncomputable def zE9 (X : Cx) (pins : List (Addr × Obj)) (σ : St) (H : Hp) (D : Addr) (kf : V -> Int × List Int) (xs : List V) (s' : Shared) : Prop :=
 ∃ H' ys,Inv X pins σ (upd H' D (.lst ys)) s'/\Same H H'/\H' D = none/\ys.Perm xs/\ys.Pairwise λa b=>zB2 (kf b) (kf a) = false
theorem zBT : ∀ {xs : List V} {us : List Value},Vals xs us -> ∀ i,RelV (xs.getD i .non) (us.getD i .none)
 | _,_,.nil,i=>by simp [RelV]
 | _,_,.cons r t,0=>by simpa using r
 | _,_,.cons r t,i + 1=>by simpa using zBT t i
theorem zME {α : Type} (xs : List α) (d : α) : (List.range xs.length).map (λi=>xs.getD i d) = xs:=by
 apply List.ext_getElem
 ·simp
 ·intro i h1 h2
  simp at h1
  simp [h1]
theorem zL0 : ∀ {v v' : V} {u : Value},RelV v u -> RelV v' u -> v = v':=λ{v v' u} h h'=>by
 cases v <;> cases v' <;> simp only [RelV] at h h' <;> (try obtain ⟨t,rfl⟩:=h) <;> (try obtain ⟨t',h'⟩:=h') <;> (try subst h) <;> (try cases h') <;> first | rfl | simp_all
theorem zSP (KF : KForm X kd okk KA) (hkf : ∀ x,okk (kf x)) {E : Value -> Shared -> Prop} {kS : Addr} {e e1 : Nat} {ks : List Value} {H' : Hp} (hr : Room (k + 2) X.A) (rv : Vals xs its) (h64 : xs.length <= 100000)
  (I : Inv X (pins++[(D,seqObj "list" #[] e1),(kS,seqObj "list" ks.toArray e)]) σ H' s) (fD : zF5 X pins H D) (sD : X.s₀.heap.objs.size <= D) (fK : zF5 X pins H kS) (hne : kS≠D) (g : Same H H') (kt : KeysTo kd X.K H' kf xs ks xs.length) :
  wpAny (model X.prog X.w) X.A.in1.in1 (ksk_end D false its.toArray e1 (.ref kS) ks.toArray) (λfin s'=>fin = .done (.ret .none)/\zE9 X pins σ H D kf xs s') E s:=by
 have hlen:=rv.length;have hkl:=kt.len;have pD:=I.pin (D,seqObj "list" #[] e1) (yAM _ (yAM _ (yAQ ..)));have pK:=I.pin (kS,seqObj "list" ks.toArray e) (yAM _ (yAM _ (yAP _ (yAQ ..))));have I0 : Inv X pins σ H' s:=I.pins_of λp hp=>I.pin p (yAM _ (yBa _ hp));have sz : sizeLine = sizeLine:=rfl;have s64 : 100000 <= sizeLine:=by decide
 have fin : ∀ (st : SortSt) (us : List Value) (ys : List V),(arrOf st).map (·.2) = us.toArray -> failedOf st = none -> Vals ys us -> ys.Perm xs -> ys.Pairwise (λa b=>zB2 (kf b) (kf a) = false) ->
   wpAny (model X.prog X.w) X.A.in1.in1 (ksk_tail D false e1 (.ref kS) st) (λfin s'=>fin = .done (.ret .none)/\zE9 X pins σ H D kf xs s') E s:=λst us ys h1 h2 hv h3 h4=>by
  have hyl : ys.length = xs.length:=h3.length_eq;have hul:=hv.length;refine zW9 pK.1 pD.1 hne h1 h2 (by lia) (by lia) ⟨rfl,H',ys,?_,g,pD.2.1,h3,h4⟩;have I1 : Inv X pins σ H' { s with heap:=s.heap.update kS (Obj.mapSeq λ_ => #[]) }:=I0.turned (t':=s.toks) (λb o hb e=>by rw [yBN _ _ _ _ hb]; exact e) pK.2.1 fK.2.1 fK.2.2.2.1 fK.2.2.2.2.1 fK.2.2.2.2.2;have hD1 : (s.heap.update kS (Obj.mapSeq λ_=>(#[] : Array Value))).get? D = some (seqObj "list" #[] e1):=by rw [yBN _ _ _ _ hne.symm]; exact pD.1
  have I2 : Inv X pins σ H' { s with heap:=(s.heap.update kS (Obj.mapSeq λ_ => #[])).update D (Obj.mapSeq λ_=>us.toArray) }:=I1.turned (t':=s.toks) (λb o hb e=>by rw [yBN _ _ _ _ hb]; exact e) pD.2.1 fD.2.1 fD.2.2.2.1 fD.2.2.2.2.1 fD.2.2.2.2.2;exact I2.take ⟨pD.2.1,fD.2⟩ sD ⟨by lia,_,_,hv,yDG hD1 λ_=>us.toArray⟩
 unfold ksk_end
 try dsimp only
 rw [yAN (by simp)]
 by_cases h2 : its.toArray.size < 2
 ·have h2' : xs.length < 2:=by rw [yAF] at h2; lia
  rw [yAK h2,yAK h2];refine yAA (yAH ?_);rw [StateT.run_pure];refine yAA (yAH ?_);simp only [yBK,yCb];refine fin (SortSt.mk' general' (ks.toArray.zip its.toArray) #[] 7 none) its xs ?_ rfl rv (List.Perm.refl _) ?_
  ·show (ks.toArray.zip its.toArray).map (·.2) = its.toArray
   apply yBl.mp;rw [Array.toList_map,ksk_zip];show (ks.zip its).map (·.2) = its
   have hz : ∀ (a b : List Value),a.length = b.length -> (a.zip b).map (·.2) = b:=λa=>by
    induction a with
    | nil=>intro b hb; cases b with
     | nil=>rfl
     | cons _ _=>simp at hb
    | cons x r ih=>intro b hb; cases b with
     | nil=>simp at hb
     | cons y t=>simp at hb; simp [ih t hb]
   exact hz ks its (by lia)
  ·exact pw2 h2'
 ·have h2' : 2 <= xs.length:=by rw [yAF] at h2; lia
  rw [yAN h2,yAN h2]
  have kat : ∀ j,j < xs.length -> KA H' s (ks.getD j .none) (kf (xs.getD j .non)).1 (kf (xs.getD j .non)).2:=λj hj=>by
   obtain ⟨a,e,d⟩:=kt.at' j hj;have eg : ks.getD j .none = .ref a:=by rw [yAc,e]; rfl
   rw [eg];exact KF.at_ I d rfl (hkf _)
  have tups : ∀ l : List Value,(∀ v∈l,∃ n ms,KA H' s v n ms) -> ∃ fs,KatTups s.heap l fs/\fs.length = l.length/\∀ v∈fs,∃ n t,v = Value.int n t:=λl=>by
   induction l with
   | nil=>exact λ_=>⟨[],KatTups.nil,rfl,λ_ h=>nomatch h⟩
   | cons v r ih =>
    intro h;obtain ⟨fs,t1,t2,t3⟩:=ih λu hu=>h u (yAP _ hu);obtain ⟨n,ms,q⟩:=h v (yAQ ..);obtain ⟨a,b,t,o,kk,rfl,e,c,d⟩:=KF.ex q;refine ⟨.int n t::fs,KatTups.cons e c d rfl t1,by simp [t2],λu hu => ?_⟩
    rcases yAd.mp hu with rfl | hu
    ·exact ⟨n,t,rfl⟩
    ·exact t3 u hu
  obtain ⟨fs,t1,t2,t3⟩:=tups ks λv hv=>by
   obtain ⟨j,hj⟩:=yAi hv;have hjl : j < xs.length:=by rw [<- hkl]; exact (yAE.mp hj).1
   have q:=kat j hjl;rw [yAc,hj] at q;exact ⟨_,_,q⟩
  refine yAA (kat_kind (T := .type "int") t1 (by lia) (λv hv => ?_) rfl ?_)
  ·obtain ⟨n,t,rfl⟩:=t3 v hv
   exact Looks.of_pure rfl
  simp only [yBK,yCb]
  have hun : X.A.in1.in1.units + 10 < cLine:=by
   have:=hr.un
   show X.A.units + 1 + 1 + 10 < cLine;lia
  have hz : (ks.toArray.zip its.toArray).size = xs.length:=by simp; lia
  have itemAt : ∀ j,j < xs.length -> (ks.toArray.zip its.toArray)[j]? = some (ks.getD j .none,its.getD j .none):=λj hj=>by
   have h1 : j < ks.length:=by lia
   have h2 : j < its.length:=by lia
   have e : (ks.zip its)[j]? = some (ks[j],its[j]):=by rw [List.getElem?_zip_eq_some]; exact ⟨yAB h1,yAB h2⟩
   rw [<- yAs,ksk_zip];show (ks.zip its)[j]? = _;rw [e]
   simp [h1,h2]
  have spec : ∀ x,x∈(ks.toArray.zip its.toArray).toList -> ∃ j,j < xs.length/\x = (ks.getD j .none,its.getD j .none):=λx hx=>by
   obtain ⟨j,hj⟩:=yAi hx
   have hjl : j < xs.length:=by
    have:=(yAE.mp hj).1
    rw [yAx] at this;lia
   refine ⟨j,hjl,?_⟩;rw [yAs,itemAt j hjl] at hj;exact (Option.some.inj hj).symm
  let idx : Keyed -> Nat:=λx=>by classical exact if h : ∃ j,j < xs.length/\x = (ks.getD j .none,its.getD j .none) then Classical.choose h else 0
  have idxOk : ∀ x,x∈(ks.toArray.zip its.toArray).toList -> idx x < xs.length/\x = (ks.getD (idx x) .none,its.getD (idx x) .none):=λx hx=>by
   have h:=spec x hx;have e : idx x = Classical.choose h:=by show (if h : _ then Classical.choose h else 0) = _; rw [dif_pos h]
   rw [e];exact Classical.choose_spec h
  generalize idx = idx at idxOk
  refine yAA (yBO (L2T.wpS_runs (κ := tuples' true) (R:=λx y=>zB2 (kf (xs.getD (idx x) .non)) (kf (xs.getD (idx y) .non))) (a₀ := ks.toArray.zip its.toArray) (st:=SortSt.mk' (tuples' true) (ks.toArray.zip its.toArray) #[] 7 none)
   (Q:=λ_ st'=>L2T.Bs (tuples' true) (ks.toArray.zip its.toArray) st'/\L2T.SegSrt (λx y=>zB2 (kf (xs.getD (idx x) .non)) (kf (xs.getD (idx y) .non))) (arrOf st') 0 (ks.toArray.zip its.toArray).size)
   ⟨λx y h=>keyLin.asym _ _ h,λx y z h h'=>keyLin.trans _ _ _ h h'⟩ ⟨λx y hx hy C' E' hC => ?_⟩ ⟨rfl,rfl,Array.Perm.refl _⟩ rfl (by lia) λst' b seg=>⟨b,seg⟩) ?_ λ_ _ x=>x)
  ·obtain ⟨l1,e1⟩:=idxOk x hx
   obtain ⟨l2,e2⟩:=idxOk y hy;have a1:=kat _ l1;have a2:=kat _ l2;rw [show ks.getD (idx x) .none = x.1 by rw [e1]; exact congrArg (λj=>ks.getD (idx j) Value.none) e1.symm] at a1;rw [show ks.getD (idx y) .none = y.1 by rw [e2]; exact congrArg (λj=>ks.getD (idx j) Value.none) e2.symm] at a2;exact KF.cmp hun a1 a2 hC
  ·rintro ⟨⟨⟩,st'⟩ s' ⟨rfl,hb',seg⟩
   try dsimp only
   have hperm:=yCv.mp hb'.perm;have ok' : ∀ x∈(arrOf st').toList,idx x < xs.length/\x = (ks.getD (idx x) .none,its.getD (idx x) .none):=λx hx=>idxOk x (hperm.mem_iff.mp hx);refine fin st' ((arrOf st').toList.map (·.2)) ((arrOf st').toList.map λx=>xs.getD (idx x) .non) (by apply yBl.mp; simp) hb'.failed ?_ ?_ ?_
   ·have go : ∀ l : List Keyed,(∀ x∈l,idx x < xs.length/\x = (ks.getD (idx x) .none,its.getD (idx x) .none)) -> Vals (l.map λx=>xs.getD (idx x) .non) (l.map (·.2)):=λl=>by
     induction l with
     | nil=>exact λ_ => .nil
     | cons x r ih =>
      intro hl;obtain ⟨_,e⟩:=hl x (yAQ ..);have q:=zBT rv (idx x);have e2 : its.getD (idx x) .none = x.2:=(congrArg Prod.snd e).symm;rw [e2] at q;exact .cons q (ih λy hy=>hl y (yAP _ hy))
    exact go _ ok'
   ·refine (hperm.map _).trans (yEW ?_)
    apply yCt;intro j;rw [yAb,yAs]
    by_cases hj : j < xs.length
    ·rw [itemAt j hj,yAB hj]
     have m : (ks.getD j Value.none,its.getD j Value.none)∈(ks.toArray.zip its.toArray).toList:=yAn (i:=j) (by rw [yAs,itemAt j hj]);obtain ⟨l1,e1⟩:=idxOk _ m;have q1:=zBT rv (idx (ks.getD j Value.none,its.getD j Value.none));have q2:=zBT rv j;have e3 : its.getD (idx (ks.getD j Value.none,its.getD j Value.none)) Value.none = its.getD j Value.none:=(congrArg Prod.snd e1).symm;rw [e3] at q1;have e:=zL0 q1 q2;show some (xs.getD (idx (ks.getD j Value.none,its.getD j Value.none)) .non) = some xs[j];rw [e]
     simp [hj]
    ·rw [yBU (by lia),Array.getElem?_eq_none (by lia)]
     rfl
   ·rw [yBY,yDv]
    intro i j hi hj hij;have hs' : (arrOf st').size = xs.length:=hb'.size.trans hz;have q:=seg i j (yAy _) (yDq hij) (by rw [hz]; rw [yAx] at hj; lia);have ei:=L2T.at_toList (xs:=arrOf st') (i:=i) (by simpa using hi);have ej:=L2T.at_toList (xs:=arrOf st') (i:=j) (by simpa using hj);rw [yAB hi] at ei;rw [yAB hj] at ej;rw [Option.some.inj ei,Option.some.inj ej];exact q
theorem zPP (KF : KForm X kd okk KA) (hkf : ∀ x,okk (kf x)) {E : Value -> Shared -> Prop} (F : FnOk X.prog X.w X.K X.mg X.base CX0 k f fd [pn] sp) (hr : Room (k + 2) X.A) (hb : Binds X.K fd [pn] []) (I : Inv X pins σ H s) (hD : s.heap.get? D = some (seqObj "list" its.toArray 0)) (fD : zF5 X pins H D)
  (sD : X.s₀.heap.objs.size <= D) (rv : Vals xs its) (h64 : xs.length <= 100000) (hk : ∀ y∈xs,∀ H2,Same H H2 -> sp [y] H2 (λv H3=>Same H2 H3/\DV X.K H3 v (kd (kf y))) E0) :
  wpAny (model X.prog X.w) X.A.in1.in1 (ksk_tree D (.ref f) false) (λfin s'=>fin = .done (.ret .none)/\zE9 X pins σ H D kf xs s') E s:=by
 have hlen:=rv.length;have s64 : 100000 <= sizeLine:=by decide
 unfold ksk_tree;refine yAA (yEO hD rfl ?_);refine yAA (yDF hD rfl ?_ (by rw [yAF]; lia) (yAy _));obtain ⟨e1,hD1⟩ : ∃ e1,(s.heap.update D (Obj.mapSeq λ_=>(#[] : Array Value))).get? D = some (seqObj "list" #[] e1):=⟨_,yDG hD λ_ => #[]⟩;have I1 : Inv X pins σ H { s with heap:=s.heap.update D (Obj.mapSeq λ_ => #[]) }:=I.turned (t':=s.toks) (λb o hb e=>by rw [yBN _ _ _ _ hb]; exact e) fD.1 fD.2.1 fD.2.2.2.1 fD.2.2.2.2.1 fD.2.2.2.2.2;generalize hs1 : ({ s with heap:=s.heap.update D (Obj.mapSeq λ_ => #[]) } : Shared) = s1 at I1;have hD1' : s1.heap.get? D = some (seqObj "list" #[] e1):=by rw [<- hs1]; exact hD1
 refine yAA (seqEpoch_at hD1' rfl ?_);refine yAA (wpAny_newTuple ?_ (by show its.length <= _; lia));have I2 : Inv X pins σ H { s1 with heap:=s1.heap.push { cls := .type "tuple",data := .seq its.toArray } }:=I1.kept (t':=s1.toks) λb o e=>yAD _ e;have hD2:=yAD ({ cls := .type "tuple",data := .seq its.toArray } : Obj) hD1';generalize hs2 : ({ s1 with heap:=s1.heap.push { cls := .type "tuple",data := .seq its.toArray } } : Shared) = s2 at I2;have hD2' : s2.heap.get? D = some (seqObj "list" #[] e1):=by rw [<- hs2]; exact hD2
 refine yAA (yEH ?_ (yAy _));have fK : zF5 X pins H s2.heap.objs.size:=I2.fpOk (yAG _) I2.fresh;have hne : s2.heap.objs.size≠D:=yBi (yAI hD2');generalize hkS : s2.heap.objs.size = kS at fK hne;have I3 : Inv X pins σ H { s2 with heap:=s2.heap.push { cls := .type "list",data := .seq ([] : List Value).toArray } }:=I2.kept (t':=s2.toks) λb o e=>yAD _ e;have hD3 : (s2.heap.push { cls := .type "list",data := .seq ([] : List Value).toArray }).get? D = some (seqObj "list" #[] e1):=yAD _ hD2';have hK3 : (s2.heap.push { cls := .type "list",data := .seq ([] : List Value).toArray }).get? kS = some (seqObj "list" ([] : List Value).toArray 0):=by rw [<- hkS]; exact yAY _ rfl
 generalize hs3 : ({ s2 with heap:=s2.heap.push { cls := .type "list",data := .seq ([] : List Value).toArray } } : Shared) = s3 at I3;have hD3' : s3.heap.get? D = some (seqObj "list" #[] e1):=by rw [<- hs3]; exact hD3
 have hK3' : s3.heap.get? kS = some (seqObj "list" ([] : List Value).toArray 0):=by rw [<- hs3]; exact hK3
 refine yBd ?_
 have pin2 : ∀ {H' : Hp} {ks : List Value} {e : Nat} {s' : Shared} {pl : List (Addr × Obj)},Inv X (pins++pl) σ H' s' -> s'.heap.get? D = some (seqObj "list" #[] e1) -> H' D = none -> s'.heap.get? kS = some (seqObj "list" ks.toArray e) -> H' kS = none ->
   Inv X (pins++[(D,seqObj "list" #[] e1),(kS,seqObj "list" ks.toArray e)]) σ H' s':=λ{H' ks e s' pl} I' h1 h2 h3 h4=>I'.pins_of λp hp=>by
  rcases yAm.mp hp with z | z
  ·exact I'.pin p (yAM _ (yBa _ z))
  ·rcases yAd.mp z with rfl | z
   ·exact ⟨h1,h2,fD.2.1,fD.2.2.1,λv q=>by cases q⟩
   ·rcases yAd.mp z with rfl | z
    ·exact ⟨h3,h4,fK.2.1,fK.2.2.1,λv q=>by cases q⟩
    ·cases z
 have I4 : Inv X (pins++[(D,seqObj "list" #[] e1),(kS,seqObj "list" ([] : List Value).toArray 0)]) σ H s3:=pin2 (pl:=[]) (by simpa using I3) hD3' fD.1 hK3' fK.1
 (try rw [hs3]); (try rw [hkS])
 unfold ksk_rest;refine yAA (yDD ?_)
 first
  | rw [List.forIn_toArray]
  | (rw [<- Array.forIn_toList]; simp only [List.toList_toArray])
 refine yAA (ksk_fold (λi s'=>∃ H' ks e,Inv X (pins++[(D,seqObj "list" #[] e1),(kS,seqObj "list" (List.toArray ks) e)]) σ H' s'/\Same H H'/\KeysTo kd X.K H' kf xs ks i) its 0 s3 ⟨H,[],0,I4,Same.refl _,rfl,λj hj=>absurd hj (Nat.not_lt_zero j)⟩ (λj u s' hu hJ => ?_) λs' hd => ?_)
 ·obtain ⟨H',ks,e,I',g,kt⟩:=hJ
  rw [yDp] at kt ⊢;have hjl : j < xs.length:=by rw [hlen]; exact (yAE.mp hu).1
  have hx : xs[j]? = some xs[j]:=yAB hjl;obtain ⟨u',hu',ru⟩:=rv.get hx;rw [hu] at hu'
  cases hu'
  have hg : xs.getD j .non = xs[j]:=by simp [hjl]
  have hkl:=kt.len;refine yAA (wpAny_attempt (yBO (zSL (E:=λ_ _=>False) F hr hb I' ru (hk xs[j] (yBI hjl) H' g)) (λr s'' q => ?_) λ_ _ z=>z.elim));obtain ⟨v,H3,I3',rv3,g3,dv⟩:=q;obtain ⟨ds,eds⟩:=KF.tup (kf xs[j]);obtain ⟨a,rfl⟩:=DV.tup_ref (eds ▸ dv)
  cases rv3
  have pD:=I3'.pin (D,seqObj "list" #[] e1) (yAM _ (yAM _ (yAQ ..)));have pK:=I3'.pin (kS,seqObj "list" ks.toArray e) (yAM _ (yAM _ (yAP _ (yAQ ..))));refine yAA (yDF pK.1 rfl ?_ (by rw [yAF]; lia) (by rw [Array.size_push,yAF]; lia))
  have I5 : Inv X (pins++[(D,seqObj "list" #[] e1)]) σ H3 s'':=I3'.pins_of λp hp=>I3'.pin p (yAM _ (by
   rcases yAm.mp hp with z | z
   ·exact yBa _ z
   ·exact yAM _ (by
     rcases yAd.mp z with rfl | z
     ·exact yAQ ..
     ·cases z)))
  have I6 : Inv X (pins++[(D,seqObj "list" #[] e1)]) σ H3 { s'' with heap:=s''.heap.update kS (Obj.mapSeq (·.push (.ref a))) }:=I5.turned (t':=s''.toks) (λb o hb' e'=>by rw [yBN _ _ _ _ hb']; exact e') pK.2.1 fK.2.1 fK.2.2.2.1 fK.2.2.2.2.1 (λp hp=>by
   rcases yAm.mp hp with z | z
   ·exact fK.2.2.2.2.2 p (yBa _ z)
   ·rcases yAm.mp z with z | z
    ·exact fK.2.2.2.2.2 p (yAM _ z)
    ·rcases yAd.mp z with rfl | z
     ·exact hne.symm
     ·cases z)
  have ea : ks.toArray.push (.ref a) = (ks++[Value.ref a]).toArray:=by simp
  have hK7:=yDG pK.1 (·.push (Value.ref a));rw [ea] at hK7;refine yAH ⟨rfl,H3,ks++[.ref a],_,pin2 (pl:=[(D,seqObj "list" #[] e1)]) I6 (by rw [yBN _ _ _ _ hne.symm]; exact pD.1) pD.2.1 hK7 pK.2.1,g.trans g3,by rw [yAU,hkl]; rfl,λi hi => ?_⟩
  by_cases hij : i < j
  ·obtain ⟨b,hb1,hb2⟩:=kt.at' i hij
   exact ⟨b,by rw [yBF (by lia)]; exact hb1,hb2.mono g3⟩
  ·have ei : i = j:=by lia
   subst ei;exact ⟨a,by rw [yBC (by lia),hkl]; simp,by rw [hg]; exact dv⟩
 ·rw [yDp] at hd
  obtain ⟨H',ks,e,I',g,kt⟩:=hd;rw [<- hlen] at kt;have pK:=I'.pin (kS,seqObj "list" ks.toArray e) (yAM _ (yAM _ (yAP _ (yAQ ..))));refine yAA (yEO pK.1 rfl ?_);exact zSP KF hkf hr rv h64 I' fD sD fK hne g kt
noncomputable def zTC (kd : Int × List Int -> PyData) (K : PySem.W.Frag) (kf : V -> Int × List Int) (sp : Sp) (te : TE) : TE:=λσ H Q=>te σ H λx H1=>∃ a xs,x = .ref a/\(SqL K H1 a xs \/ SqT K H1 a xs)/\xs.length <= 100000 /\
 (∀ y∈xs,∀ H2,Same H1 H2 -> sp [y] H2 (λv H3=>Same H2 H3/\DV K H3 v (kd (kf y))) E0) /\
 ∀ D H2 ys,H1 D = none -> Same H1 H2 -> H2 D = some (.lst ys) -> ys.Perm xs -> ys.Pairwise (λa b=>zB2 (kf b) (kf a) = false) -> Q (.ref D) H2
theorem zQP (KF : KForm X kd okk KA) (hkf : ∀ x,okk (kf x)) {e : Expr} {te : TE} {fn : Str} {p kp1 kp2 pos : Pos} (F : FnOk X.prog X.w X.K X.mg X.base CX0 k f fd [pn] sp) (hr : Room (k + 2) X.A) (hb : Binds X.K fd [pn] []) (hgs : Gl X "sorted") (hms : X.mg "sorted" = none) (hg : Gl X fn) (hm : X.mg fn = some (.ref f)) (he : PE X e te)
  (hdb : (fn == ("__debug__" : Str)) = false:=by decide) (hs : starEach [e] X.env = [(false,eval e X.env)]:=by rfl) :
  PE X (.Call (.Name "sorted" p) [e] [⟨some "key",.Name fn kp1,kp2⟩] pos) (zTC kd X.K kf sp te):=by
 intro pins s σ H Q I h;refine yBy (zDW I hgs hms boot_sorted ?_)
 refine callWith_kw (thn (zA0 (e:=e) (es:=[]) he zA3 hs pos pins s σ H (λvs H1=>match vs with
  | [x]=>∃ a xs,x = .ref a/\(SqL X.K H1 a xs \/ SqT X.K H1 a xs)/\xs.length <= 100000/\(∀ y∈xs,∀ H2,Same H1 H2 -> sp [y] H2 (λv H3=>Same H2 H3/\DV X.K H3 v (kd (kf y))) E0) /\
    ∀ D H2 ys,H1 D = none -> Same H1 H2 -> H2 D = some (.lst ys) -> ys.Perm xs -> ys.Pairwise (λa b=>zB2 (kf b) (kf a) = false) -> Q (.ref D) H2
  | _=>False) I h) λus s1 ⟨vs,H1,I1,r1,q1⟩ => ?_) (by rw [hs]; rfl) (by rw [hs]; rfl)
 match vs,q1,r1 with
 | [x],q1,r1 =>
  obtain ⟨a,xs,rfl,hq,h64,hkey,q⟩:=q1;obtain ⟨u,rfl,ru⟩:=zDJ r1
  cases ru
  refine kws_cons (zDP I1 hg hm (kws_nil ?_) hdb);show wpAny _ _ (call (.builtin "sorted") [.ref a] [(Str.ofString "key",.ref f)]) _ _ s1;have s64 : 100000 <= sizeLine:=by decide
  obtain ⟨T,o,its,n,hT,ho,hc,hd,rv⟩ : ∃ T o its n,(T = "list" \/ T = "tuple")/\s1.heap.get? a = some o/\o.cls = .type T/\o.data = .seq (List.toArray its) n/\Vals xs its:=by
   rcases hq with hq | hq
   ·obtain ⟨its,r',pl,hz⟩:=I1.list hq
    obtain ⟨o,ho,hc,n,hd⟩:=pl.isList;exact ⟨_,o,its,n,.inl rfl,ho,hc,hd,r'⟩
   ·obtain ⟨its,r',pl,hz⟩:=I1.tuple hq
    obtain ⟨o,ho,hc,n,hd⟩:=pl;exact ⟨_,o,its,n,.inr rfl,ho,hc,hd,r'⟩
  have hlen:=rv.length;refine call_function_entry_kw kind_sorted plain_sorted entry_sorted (ksk_s1 _ _) ?_;unfold Builtin.«sorted»;refine yAA (m:=checkCount "sorted" 1 1 _) (yAH ?_);refine yAA (zF9 hT ho hc hd (λh2 hk2 => ?_) (by lia));have I2 : Inv X pins σ H1 { s1 with heap:=h2 }:=I1.kept (t':=s1.toks) hk2;refine yAA (yEH ?_ (by lia));have I3 : Inv X pins σ H1 { s1 with heap:=h2.push { cls := .type "list",data := .seq its.toArray } }:=I2.kept (h':=h2.push { cls := .type "list",data := .seq its.toArray }) (t':=s1.toks) λb u e=>yAD _ e;have fD : zF5 X pins H1 h2.objs.size:=I2.fpOk (yAG _) I2.fresh;have hD3 : (h2.push { cls := .type "list",data := .seq its.toArray }).get? h2.objs.size = some (seqObj "list" its.toArray 0):=yAY _ rfl;refine yAA (yBd (wpAny_call_entry_kw slot_list_sort ⟨_,hD3,rfl⟩ entry_list_sort ?_ (ksk_l1 _ _)));rw [ksk_t1];refine yBO (zPP KF hkf (E:=X.xe) F hr hb I3 hD3 fD I2.sz rv h64 hkey) (λfin s' hfin => ?_) λ_ _ z=>z;obtain ⟨rfl,H',ys,I',g,hD',hp,hs'⟩:=hfin;refine ⟨_,rfl,yAH ⟨_,rfl,.ref h2.objs.size,_,I',rfl,q _ _ ys I2.fresh (g.trans λb u e => ?_) zA1 hp hs'⟩⟩;rw [zA7 (zA6 e hD')];exact e
noncomputable def zXC (K : PySem.W.Frag) (kf : V -> Int × List Int) (sp : Sp) (te : TE) : TE:=zTC zYQ K kf sp te
theorem zRI {e : Expr} {te : TE} {fn : Str} {p kp1 kp2 pos : Pos} (F : FnOk X.prog X.w X.K X.mg X.base CX0 k f fd [pn] sp) (hr : Room (k + 2) X.A) (hb : Binds X.K fd [pn] []) (hgs : Gl X "sorted") (hms : X.mg "sorted" = none) (hg : Gl X fn) (hm : X.mg fn = some (.ref f)) (he : PE X e te)
  (hdb : (fn == ("__debug__" : Str)) = false:=by decide) (hs : starEach [e] X.env = [(false,eval e X.env)]:=by rfl) :
  PE X (.Call (.Name "sorted" p) [e] [⟨some "key",.Name fn kp1,kp2⟩] pos) (zXC X.K kf sp te) :=
 zQP (KA:=KeyAt X) (okk:=λ_=>True) ⟨λ_=>⟨_,rfl⟩,λI d r _=>zX7 I d r,λq=>let ⟨a,b,t,o,k,_,_,h1,h2,h3,h4,_⟩:=q.ex; ⟨a,b,t,o,k,h1,h2,h3,h4⟩,λh a b c=>zTX h a b c⟩ (λ_=>trivial) F hr hb hgs hms hg hm he hdb hs
end
noncomputable def Its (z : Str) : It:=⟨λi _=>i < z.cps.size,λi H x H'=>H' = H/\∃ c,z.cps[i]? = some c/\x = .str ⟨#[c]⟩,λi _=>z.cps.size <= i⟩
theorem zQL {P : Program} {w : World} {K : PySem.W.Frag} {y : Str} {py : Pos} (z : Str) (it : Addr) (tn : Nat -> Heap -> Prop) (ob : ∀ i h,tn i h -> ∃ o,h.get? it = some o/\∀ v,o.data ≠ .cell v)
  (W : ∀ A' : Around,A'.handled = none -> Walks P w A' it [it] [it] z.cps.size (SignAt z) tn) (sf : ∀ (A : Around) (i : Nat) (s : Shared) (Q : Value -> Shared -> Prop) (E : Value -> Shared -> Prop),tn i s.heap -> Q (.ref it) s -> wpAny (model P w) A (pyIter (.ref it)) Q E s)
  (le : ∀ i h,tn i h -> True) : Turn P w K (.Name y py) (Its z) [it] it (λi h=>tn i h/\i <= z.cps.size) where
 mem:=by simp
 obj:=λi h st b hb=>by
  have e : b = it:=by simpa using hb
  subst e;exact ob i h st.1
 keep:=λi h h' st k=>⟨(W {} rfl).frame i h h' st.1 λb hb o e=>k b hb o e,st.2⟩
 item:=by
  intro X hP hw hK hc i pins s σ H E I hf st hg;subst hP hw hK;obtain ⟨f0,f1,f2,f3,f4,f5⟩:=hf it (by simp);refine (W X.A (I.ok.hd hc)).item i s _ E hg st.1 λv h' tk hv st' hk => ?_;obtain ⟨c,u,hc',rfl⟩:=hv;have I1 : Inv X pins σ H { s with heap:=h',toks:=tk }:=I.turned (t':=tk) (λb o hb e=>hk b o (by simpa using hb) e) f0 f1 f3 f4 f5;exact ⟨_,rfl,yAH ⟨.str ⟨#[c]⟩,H,I1,⟨_,rfl⟩,⟨rfl,c,hc',rfl⟩,⟨st',hg⟩,λb hb=>(hf b hb).1⟩⟩
 done:=by
  intro X hP hw hK hc i pins s σ H E I hf st hg;subst hP hw hK;obtain ⟨f0,f1,f2,f3,f4,f5⟩:=hf it (by simp);have e : i = z.cps.size:=Nat.le_antisymm st.2 hg;have st1:=st.1;rw [e] at st1;exact (W X.A (I.ok.hd hc)).done s _ E st1 λh' tk hk=>⟨rfl,I.turned (t':=tk) (λb o hb e=>hk b o (by simpa using hb) e) f0 f1 f3 f4 f5⟩
 self:=λA i s Q E st h=>sf A i s Q E st.1 h
section
variable {X : Cx}
noncomputable def zaK (tl : TE) : TI:=λσ H R=>tl σ H λx H1=>∃ z,x = .str z/\R (Its z) H1
theorem zYG {l : Expr} {tl : TE} {y : Str} {py : Pos} (hl : PE X l tl) : PI X (.Name y py) l (zaK tl):=by
 intro pins s σ H R I h;refine thn (hl pins s σ H _ I h) λv s1 hM => ?_;obtain ⟨x,H1,I1,r1,q1⟩:=hM;obtain ⟨z,e,q⟩:=q1;subst e;obtain ⟨t,rfl⟩:=r1
 have fin : ∀ (ty : String) (o : Obj),o = { cls := .type ty,data := .fields #[.str z t,rawInt 0] } -> (∀ A' : Around,A'.handled = none -> Walks X.prog X.w A' s1.heap.objs.size [s1.heap.objs.size] [s1.heap.objs.size] z.cps.size (SignAt z) (λi h=>h.IsStrIter s1.heap.objs.size ty z t i)) ->
   (∀ (A : Around) (i : Nat) (s : Shared) (Q : Value -> Shared -> Prop) (E : Value -> Shared -> Prop),s.heap.IsStrIter s1.heap.objs.size ty z t i -> Q (.ref s1.heap.objs.size) s -> wpAny (model X.prog X.w) A (pyIter (.ref s1.heap.objs.size)) Q E s) -> (s1.heap.push o).IsStrIter s1.heap.objs.size ty z t 0 ->
   PIE X pins σ (.Name y py) R (.ref s1.heap.objs.size) { s1 with heap:=s1.heap.push o }:=λty o ho W sf st=>by
  refine ⟨s1.heap.objs.size,[s1.heap.objs.size],_,_,H1,rfl,I1.kept (t':=s1.toks) λb o e=>yAD _ e,zQL z _ _ (λi h hst => ?_) W sf (λ_ _ _=>trivial),⟨st,yAy _⟩,λb hb => ?_,q⟩
  ·obtain ⟨o,e,c,d⟩:=hst
   exact ⟨o,e,λv zz=>by rw [d] at zz; cases zz⟩
  ·have e : b = s1.heap.objs.size:=by simpa using hb
   subst e;exact I1.fpOk (yAG _) (I1.hok.fresh (yAG _))
 cases ha : z.cps.all (· < 128)
 ·exact wpAny_pyIter_wide ha (fin "str_iterator" _ rfl (λA' hA=>Walks.strWide hA _ z t) (λA i s Q E st h=>wpAny_pyIter_striter_wide st h) ⟨_,yAY _ rfl,rfl,rfl⟩)
 ·exact wpAny_pyIter_ascii ha (fin "str_ascii_iterator" _ rfl (λA' hA=>Walks.strAscii hA _ z t) (λA i s Q E st h=>wpAny_pyIter_striter_ascii st h) ⟨_,yAY _ rfl,rfl,rfl⟩)
theorem zSI {bs : List Bool} {us : List Value} (r : Vals (bs.map V.bl) us) (i : Nat) (v : Value) (h : us[i]? = some v) : v = .bool (bs.getD i true):=by
 have hl:=r.length;rw [yAC] at hl;have hi : i < bs.length:=by rw [hl]; exact (yAE.mp h).1
 obtain ⟨u,hu,ru⟩:=r.get (i:=i) (x := .bl bs[i]) (by rw [yAb,yAB hi]; rfl);rw [h] at hu
 cases hu
 have : v = .bool bs[i]:=ru;rw [this]
 simp [hi]
theorem zPC (bs : List Bool) : ((List.range bs.length).all λi=>bs.getD i true) = bs.all id:=by
 have:=zME bs true
 conv=>rhs; rw [<- this]
 rw [List.all_map]; rfl
noncomputable def zaG (K : PySem.W.Frag) : List V -> Hp -> VK -> Prop:=λxs H Q=>∃ (p : Addr) (bs : List Bool),xs = [.ref p]/\SqL K H p (bs.map V.bl)/\Q (.bl (bs.all id)) H
theorem zKG (hc : X.calm = true) : zCZ X (.builtin "all") (zaG X.K):=by
 intro pins s σ H xs us Q I r h;obtain ⟨p,bs,rfl,hq,q⟩:=h;obtain ⟨u,rfl,ru⟩:=zDJ r
 cases ru
 obtain ⟨its,rv,pl,hz⟩:=I.list hq;have hl:=rv.length;rw [yAC] at hl;have hh : X.A.in1.handled = none:=I.ok.hd hc;have hlt : p < s.heap.objs.size:=by obtain ⟨o,n,e,_⟩:=pl; exact yAI e
 refine call_all_walk (yDR pl.isList ?_);refine ⟨s.heap.objs.size,_,_,_,_,_,λi=>bs.getD i true,rfl,Walks.list hh s.heap.objs.size p (yAh hlt) its.toArray,⟨⟨_,yAY _ rfl,rfl,rfl⟩,pl.isList.push _⟩,λi v s' Q' E' hP hq' => ?_,λh' tk hk => ?_⟩
 ·have : v = .bool (bs.getD i true):=zSI rv i v (by simpa using hP)
  subst this;exact yBo hq'
 ·rw [yAF,<- hl,zPC]
  refine ⟨.bl (bs.all id),H,I.kept (t':=tk) λb o e => ?_,rfl,q⟩;exact hk b o (λzz=>by have e2:=yAI e; rw [yAJ.mp zz] at e2; exact yBk _ e2) (yAD _ e)
theorem zWM {n : Nat} (h : n <= 16000000) : Builtin.Str.tooLong n = false:=by
 unfold Builtin.Str.tooLong;exact yAL (Nat.not_lt.mpr (yAz h (by decide)))
theorem zE3 : ∀ (l : List (Str × Tok)),Vals (l.map λp=>V.str p.1) (strValues l)
 | [] => .nil
 | p::r => .cons ⟨p.2,rfl⟩ (zE3 r)
end
theorem zY5 {P : Program} {w : World} {k : Key} {u : Value} (h : (zAM P w).is k u = true) : RelV (kV k) u:=by
 rcases k with i | x
 ·cases u <;> first | (cases h; done) | skip
  rename_i j t
  have : j = i:=by simpa [zAM,zHY,Value.isInt] using h
  subst this;exact ⟨_,rfl⟩
 ·cases u <;> first | (cases h; done) | skip
  rename_i j t
  have : j = x:=by simpa [zAM,zHY,Value.isStrOf] using h
  subst this;exact ⟨_,rfl⟩
theorem zHX {P : Program} {w : World} : ∀ {kvs : List (Key × V)} {vs : List (Key × Value)} {us : List Value},KV kvs vs -> us.length = vs.length -> (∀ (i : Nat) v,us[i]? = some v -> ∃ k x,vs[i]? = some (k,x)/\(zAM P w).is k v = true) -> Vals (kvs.map λkv=>kV kv.1) us
 | _,_,[],.nil,_,_ => .nil
 | _,_,_::_,.nil,h,_=>by cases h
 | _,_,[],.cons _ _,h,_=>by cases h
 | _,_,u::us,.cons r t,h,f=>by
  obtain ⟨k,x,e,hk⟩:=f 0 u rfl
  cases e
  refine .cons ?_ (zHX t (by simpa using h) λi v hv=>f (i + 1) v hv);show RelV (kV _) u;rw [r.1];exact zY5 hk
theorem zMK {X : Cx} (hc : X.calm = true) : zCZ X (.type "list") (λxs H Q=>∃ p kvs,xs = [.ref p]/\H p = some (.dK kvs)/\∀ l,H l = none -> Q (.ref l) (upd H l (.lst (kvs.map λkv=>kV kv.1)))):=by
 intro pins s σ H xs us Q I r h;obtain ⟨p,kvs,rfl,hp,q⟩:=h;obtain ⟨u,rfl,rx⟩:=zDJ r
 cases rx
 obtain ⟨z,hd,vs,rel,dd⟩:=zU3 I.hok hp;obtain ⟨ep,da⟩:=dd.dictAt;have hl:=rel.length;refine PySem.W.kdl_call (PySem.W.kdl_dict (knd:=zAM X.prog X.w) (kvs:=vs) (ep:=ep) hd) (I.ok.hd hc) da (by lia) λh' tk acc c hk hS hacc => ?_;have hv : Vals (kvs.map λkv=>kV kv.1) acc.toList:=zHX rel (by rw [yAx]; exact hacc.1) λi v e=>hacc.2 i v (by rw [<- yAs]; exact e);refine ⟨.ref s.heap.objs.size,_,I.laid (a:=s.heap.objs.size) (o := .lst (kvs.map λkv=>kV kv.1)) (t':=tk) hk (yAG _) ⟨by rw [yAC]; exact z,acc.toList,c,hv,by rw [Array.toArray_toList]; exact hS⟩,rfl,q _ (I.hok.fresh (yAG _))⟩
noncomputable def At1 (a : Addr) (H H' : Hp) : Prop:=∀ o,H a = some o -> H' a = some o
theorem Same.at1 {H H' : Hp} (g : Same H H') (a : Addr) : At1 a H H':=λo h=>g a o h
theorem SqL.at1 {K : PySem.W.Frag} {H H' : Hp} {a : Addr} {xs : List V} (e : At1 a H H') (h : SqL K H a xs) : SqL K H' a xs:=by
 rcases h with (h | ⟨o,h⟩) | h
 ·exact .inl (.inl (e _ h))
 ·exact .inl (.inr ⟨o,e _ h⟩)
 ·exact .inr h
theorem SqT.at1 {K : PySem.W.Frag} {H H' : Hp} {a : Addr} {xs : List V} (e : At1 a H H') (h : SqT K H a xs) : SqT K H' a xs:=by
 rcases h with (h | ⟨o,h⟩) | h
 ·exact .inl (.inl (e _ h))
 ·exact .inl (.inr ⟨o,e _ h⟩)
 ·exact .inr h
noncomputable abbrev Sq (K : PySem.W.Frag) (H : Hp) (a : Addr) (xs : List V) : Prop:=SqL K H a xs \/ SqT K H a xs
theorem Sq.at1 {K : PySem.W.Frag} {H H' : Hp} {a : Addr} {xs : List V} (e : At1 a H H') (h : Sq K H a xs) : Sq K H' a xs:=h.imp (SqL.at1 e) (SqT.at1 e)
theorem zC4 {K : PySem.W.Frag} {g : TG} {tb : TS} {D : Ends} {σ : St} {H1 : Hp} {a : Addr} {ys : List V} (sq : Sq K H1 a ys) (Pv : Nat -> St -> Hp -> Prop) (h0 : Pv 0 σ H1) (hk : ∀ i σ H',Pv i σ H' -> At1 a H1 H')
  (hs : ∀ i σ H' x,i < ys.length -> ys[i]? = some x -> Pv i σ H' -> g x σ H' λσ2 H2=>tb { D with nx:=Pv (i + 1),ct:=Pv (i + 1),bk:=D.nx } σ2 H2) (hd : ∀ σ H',Pv ys.length σ H' -> D.nx σ H') :
  (∃ xs,SqL K H1 a xs)/\(∃ W : Nat -> Nat -> St -> Hp -> Prop,(∃ m,W 0 m σ H1)/\∀ i m σ H,W i m σ H ->
   ((Itl K a).stop i H/\D.nx σ H) \/ ((Itl K a).go i H/\∃ N : St -> Hp -> Prop,(∀ σ' H',N σ' H' -> ∃ m',m' < m/\W (i + 1) m' σ' H')/\∀ x H',(Itl K a).yld i H x H' -> g x σ H' λσ2 H2=>tb { D with nx:=N,ct:=N,bk:=D.nx } σ2 H2)) \/
  (∃ xs,SqT K H1 a xs)/\(∃ W : Nat -> Nat -> St -> Hp -> Prop,(∃ m,W 0 m σ H1)/\∀ i m σ H,W i m σ H ->
   ((Itt K a).stop i H/\D.nx σ H) \/ ((Itt K a).go i H/\∃ N : St -> Hp -> Prop,(∀ σ' H',N σ' H' -> ∃ m',m' < m/\W (i + 1) m' σ' H')/\∀ x H',(Itt K a).yld i H x H' -> g x σ H' λσ2 H2=>tb { D with nx:=N,ct:=N,bk:=D.nx } σ2 H2)):=by
 rcases sq with sq | sq
 ·refine .inl ⟨⟨_,sq⟩,zGJ ys.length Pv h0 (λi σ H' hi hP=>⟨ys,ys[i],SqL.at1 (hk _ _ _ hP) sq,by simp [hi]⟩) (λσ H' hP=>⟨ys,SqL.at1 (hk _ _ _ hP) sq,yAG _⟩) (λi σ H' x H2 hi hP y => ?_) hd⟩
  obtain ⟨rfl,hx⟩:=y;exact hs i σ _ x hi (hx ys (SqL.at1 (hk _ _ _ hP) sq)) hP
 ·refine .inr ⟨⟨_,sq⟩,zGJ ys.length Pv h0 (λi σ H' hi hP=>⟨ys,ys[i],SqT.at1 (hk _ _ _ hP) sq,by simp [hi]⟩) (λσ H' hP=>⟨ys,SqT.at1 (hk _ _ _ hP) sq,yAG _⟩) (λi σ H' x H2 hi hP y => ?_) hd⟩
  obtain ⟨rfl,hx⟩:=y;exact hs i σ _ x hi (hx ys (SqT.at1 (hk _ _ _ hP) sq)) hP
theorem zGU {K : PySem.W.Frag} {o0 : HO} {xs : List Str} {fv : List (Str × Nat)} {g : TG} {tt : TT} {tb : TB} {σ : St} {H1 : Hp} {Q : VK} {a : Addr} {ys : List V} (sq : Sq K H1 a ys) (Pv : Nat -> Addr -> Hp -> Prop) (h0 : ∀ D,H1 D = none -> Pv 0 D (upd H1 D o0))
  (hk : ∀ i D H',H1 D = none -> Pv i D H' -> At1 a H1 H')
  (hs : ∀ i D H' x,H1 D = none -> i < ys.length -> ys[i]? = some x -> Pv i D H' -> g x (ρT xs fv σ) H' λσ2 H2=>zHQ xs (ρT xs fv σ) σ2/\tt σ2 H2 λb H3=>if b = true then tb D σ2 H3 (Pv (i + 1) D) else Pv (i + 1) D H3)
  (hd : ∀ D H',H1 D = none -> Pv ys.length D H' -> Q (.ref D) H') :
  (∃ xs,SqL K H1 a xs)/\zD3 o0 xs fv g tt tb σ (Itl K a) H1 Q \/ (∃ xs,SqT K H1 a xs)/\zD3 o0 xs fv g tt tb σ (Itt K a) H1 Q:=by
 rcases sq with sq | sq
 ·refine .inl ⟨⟨_,sq⟩,zBZ ys.length Pv h0 (λi D H' hD hi hP=>⟨ys,ys[i],SqL.at1 (hk _ _ _ hD hP) sq,by simp [hi]⟩) (λD H' hD hP=>⟨ys,SqL.at1 (hk _ _ _ hD hP) sq,yAG _⟩) (λi D H' x H2 hD hi hP y => ?_) hd⟩
  obtain ⟨rfl,hx⟩:=y;exact hs i D _ x hD hi (hx ys (SqL.at1 (hk _ _ _ hD hP) sq)) hP
 ·refine .inr ⟨⟨_,sq⟩,zBZ ys.length Pv h0 (λi D H' hD hi hP=>⟨ys,ys[i],SqT.at1 (hk _ _ _ hD hP) sq,by simp [hi]⟩) (λD H' hD hP=>⟨ys,SqT.at1 (hk _ _ _ hD hP) sq,yAG _⟩) (λi D H' x H2 hD hi hP y => ?_) hd⟩
  obtain ⟨rfl,hx⟩:=y;exact hs i D _ x hD hi (hx ys (SqT.at1 (hk _ _ _ hD hP) sq)) hP
theorem zFM {K : PySem.W.Frag} {o0 : HO} {xs : List Str} {fv : List (Str × Nat)} {g : TG} {tt : TT} {tb : TB} {σ : St} {H1 : Hp} {Q : VK} {a : Addr} {ys : List V} (sq : Sq K H1 a ys) (Pv : Nat -> Addr -> Hp -> Prop) (h0 : ∀ D,H1 D = none -> Pv 0 D (upd H1 D o0))
  (hk : ∀ i D H',H1 D = none -> Pv i D H' -> At1 a H1 H')
  (hs : ∀ i D H' x r,H1 D = none -> i < ys.length -> ys[i]? = some x -> Pv i D H' -> H' r = none -> g (.ref r) (ρT xs fv σ) (upd H' r (.tup [.int (i : Nat),x])) λσ2 H2=>zHQ xs (ρT xs fv σ) σ2/\tt σ2 H2 λb H3=>if b = true then tb D σ2 H3 (Pv (i + 1) D) else Pv (i + 1) D H3)
  (hd : ∀ D H',H1 D = none -> Pv ys.length D H' -> Q (.ref D) H') :
  (∃ xs,SqL K H1 a xs)/\zD3 o0 xs fv g tt tb σ (Ite K a) H1 Q \/ (∃ xs,SqT K H1 a xs)/\zD3 o0 xs fv g tt tb σ (zUG K a) H1 Q:=by
 rcases sq with sq | sq
 ·refine .inl ⟨⟨_,sq⟩,zBZ ys.length Pv h0 (λi D H' hD hi hP=>⟨ys,ys[i],SqL.at1 (hk _ _ _ hD hP) sq,by simp [hi]⟩) (λD H' hD hP=>⟨ys,SqL.at1 (hk _ _ _ hD hP) sq,rfl⟩) (λi D H' x H2 hD hi hP y => ?_) hd⟩
  obtain ⟨r,x,hr,rfl,hx,rfl⟩:=y;exact hs i D _ x r hD hi (hx ys (SqL.at1 (hk _ _ _ hD hP) sq)) hP hr
 ·refine .inr ⟨⟨_,sq⟩,zBZ ys.length Pv h0 (λi D H' hD hi hP=>⟨ys,ys[i],SqT.at1 (hk _ _ _ hD hP) sq,by simp [hi]⟩) (λD H' hD hP=>⟨ys,SqT.at1 (hk _ _ _ hD hP) sq,rfl⟩) (λi D H' x H2 hD hi hP y => ?_) hd⟩
  obtain ⟨r,x,hr,rfl,hx,rfl⟩:=y;exact hs i D _ x r hD hi (hx ys (SqT.at1 (hk _ _ _ hD hP) sq)) hP hr
theorem zCN {o0 : HO} {xs : List Str} {fv : List (Str × Nat)} {g : TG} {tt : TT} {tb : TB} {σ : St} {H1 : Hp} {Q : VK} {lo : Int} {n : Nat} (Pv : Nat -> Addr -> Hp -> Prop) (h0 : ∀ D,H1 D = none -> Pv 0 D (upd H1 D o0))
  (hs : ∀ i D H',H1 D = none -> i < n -> Pv i D H' -> g (.int (lo + i)) (ρT xs fv σ) H' λσ2 H2=>zHQ xs (ρT xs fv σ) σ2/\tt σ2 H2 λb H3=>if b = true then tb D σ2 H3 (Pv (i + 1) D) else Pv (i + 1) D H3)
  (hd : ∀ D H',H1 D = none -> Pv n D H' -> Q (.ref D) H') : zD3 o0 xs fv g tt tb σ (Itr lo n) H1 Q:=by
 refine zBZ n Pv h0 (λi D H' hD hi hP=>hi) (λD H' hD hP=>yAG _) (λi D H' x H2 hD hi hP y => ?_) hd;obtain ⟨rfl,rfl⟩:=y;exact hs i D _ hD hi hP
noncomputable def zYM : Expr -> Option V
 | .Constant (.int i) _ _=>some (.int i)
 | .Constant (.str x) _ _=>some (.str x)
 | .Constant (.bool b) _ _=>some (.bl b)
 | .Constant .none _ _=>some .non
 | _=>none
noncomputable def zWS (cs : List V) (t : TA) : TA:=λσ H Q=>t σ H λvs H1=>Q (cs++vs) H1
theorem zTP {X : Cx} {e : Expr} {es : List Expr} {c : V} {cs : List V} {t : TA} (h : zYM e = some c) (hr : PA X es (zWS cs t)) : PA X (e::es) (zWS (c::cs) t):=by
 have main : ∀ {te : TE},PE X e te -> (∀ σ H Q,te σ H Q = Q c H) -> starEach (e::es) X.env = (false,eval e X.env)::starEach es X.env -> PA X (e::es) (zWS (c::cs) t):=λ{te} he hte hs=>by
  have q:=zA0 he hr hs;intro pos pins s σ H Q I hw;refine q pos pins s σ H Q I ?_;show te σ H _;rw [hte];exact hw
 unfold zYM at h
 split at h
 ·cases h; exact main zA4 (λ_ _ _=>rfl) rfl
 ·cases h; exact main zDT (λ_ _ _=>rfl) rfl
 ·cases h; exact main zEU (λ_ _ _=>rfl) rfl
 ·cases h; exact main zCK (λ_ _ _=>rfl) rfl
 ·cases h
theorem zOS {X : Cx} {t : TA} : ∀ (n : Nat) {es : List Expr} {cs : List V},(es.take n).map zYM = cs.map some -> PA X (es.drop n) t -> PA X es (zWS cs t)
 | 0,es,cs,h,hr=>by
  cases cs with
  | nil=>exact hr
  | cons _ _=>simp at h
 | n + 1,[],cs,h,hr=>by
  cases cs with
  | nil=>exact hr
  | cons _ _=>simp at h
 | n + 1,e::es,cs,h,hr=>by
  cases cs with
  | nil=>simp at h
  | cons c cs =>
   simp only [List.take_succ_cons,yAp,List.cons.injEq] at h;exact zTP h.1 (zOS n h.2 hr)
noncomputable def zZ1 (cs : List V) : TA:=λ_ H Q=>Q cs H
theorem zUS {X : Cx} (cs : List V) {es : List Expr} (h : es.map zYM = cs.map some:=by rfl) : PA X es (zZ1 cs):=by
 have q : PA X es (zWS cs zV5):=zOS es.length (by rw [yAt (yAG _)]; exact h) (by rw [yCL (yAG _)]; exact zA3);intro pos pins s σ H Q I hw;refine q pos pins s σ H Q I ?_;show Q (cs++[]) H;rw [yBq];exact hw
structure PEH (X : Cx) (e : Expr) (t : TE) : Prop where
 out : PE X e t
structure PAH (X : Cx) (es : List Expr) (t : TA) : Prop where
 out : PA X es t
structure PSH (X : Cx) (st : List Stmt) (t : TS) : Prop where
 out : PSs X st t
section
variable {X : Cx}
end
theorem Fun.okH {P : Program} {w : World} {K : PySem.W.Frag} {mg : Str -> Option Value} {base : Heap} {x qual : Str} {st : Stmt} {f : Addr} {fd : FuncData} {N ps : List Str} {k : Nat} {sp : Sp} (F : Fun K x qual st f fd) (S : FnScope N ps (zA8 st)) (len : ∀ vs H Q E,sp vs H Q E -> vs.length = ps.length)
  (hbody : ∀ (cdv : Value) (A : Around) (outer : List Env) (s : Shared) (H : Hp) (vs : List V) (Q : VK) (E : XK),Room k (A.deeper (envOfC qual (zA8 st) s.heap.objs.size f cdv)) -> sp vs H Q E ->
   ∃ t,PSH (zR8 CX0 P w K mg base N qual (zA8 st) f cdv A outer s H E).nox (zCO st) t/\t { nx:=λ_ H'=>Q .non H',rt:=Q } (zG3 N vs) H) : FnOk P w K mg base CX0 (k + 1) f fd ps sp :=
 F.ok S len λcdv A outer s H vs Q E hr h=>let ⟨t,a,b⟩:=hbody cdv A outer s H vs Q E hr h; ⟨t,a.out,b⟩
structure PS1 (X : Cx) (st : Stmt) (t : TS) : Prop where
 out : PS X st t
structure PIH (X : Cx) (tg e : Expr) (t : TI) : Prop where
 out : PI X tg e t
section
variable {X : Cx}
theorem zL6 {st : Stmt} {rest : List Stmt} {t u : TS} (h1 : PS1 X st t) (h2 : PSH X rest u) : PSH X (st::rest) (zTB t u):=PSH.mk (zA2 h1.out h2.out)
theorem zRT {st : Stmt} {t : TS} (h1 : PS1 X st t) : PSH X [st] t:=PSH.mk (zA5 h1.out)
end
noncomputable abbrev mkS (l : List Nat) : Str:=⟨l.toArray⟩
theorem zV7 {l l' : List Nat} (h : mkS l = mkS l') : l = l':=by
 have : (mkS l).cps.toList = (mkS l').cps.toList:=by rw [h]
 simpa using this
theorem zUV (l : List Nat) : (mkS l).length = l.length:=yAF
theorem zWO (z : Str) : mkS z.cps.toList = z:=by
 cases z
 simp [mkS]
theorem zVC (l l' : List Nat) : mkS l++mkS l' = mkS (l++l'):=by
 apply Str.ext';show l.toArray++l'.toArray = (l++l').toArray
 simp
section
variable {X : Cx}
end
theorem gNs {i : Nat} {v : V} {σ : St} {H : Hp} {k : St -> Hp -> Prop} (h : k (σ.set i (some v)) H) : zH8 i v σ H k:=h
theorem sH {A B : TS} {D : Ends} {σ : St} {H : Hp} (h : ∀ B' : TS,B' = B -> zTB A B' D σ H) : zTB A B D σ H:=h B rfl
theorem sR {B B' : TS} (e : B' = B) {D : Ends} {σ : St} {H : Hp} (h : B D σ H) : B' D σ H:=e ▸ h
theorem dH {B : TS} {D : Ends} {σ : St} {H : Hp} (h : ∀ D' : Ends,D' = D -> B D' σ H) : B D σ H:=h D rfl
theorem sfH {it : TI} {g : TG} {b B : TS} {D : Ends} {σ : St} {H : Hp} (h : ∀ b' : TS,b' = b -> ∀ B' : TS,B' = B -> zTB (zZV it g b') B' D σ H) : zTB (zZV it g b) B D σ H:=h b rfl B rfl
open PySem.SeqAt
open PySem.AutoSeq1 (wpAny_loadPart')
open PySem.MeetsSeq PySem.MeetsSeq2 PySem.MeetsSeq3
theorem zJO : ∀ {vs : List Value} {ns : List Int},IntsAre vs ns -> ∀ (i : Nat) (h : i < ns.length),∃ t,vs[i]? = some (.int ns[i] t)
 | _,_,.cons a t r,0,_=>⟨t,rfl⟩
 | _,_,.cons a t r,i + 1,h=>by
  obtain ⟨u,e⟩:=zJO r i (by simpa using h);exact ⟨u,e⟩
theorem zUK (l b : Addr) (xs ys : Array Value) (c1 c2 : Nat) (sl1 sl2 : Array (Option Value)) (ns ms : List Int) (hx : IntsAre xs.toList ns) (hy : IntsAre ys.toList ms) (hz : ns.length = ms.length) (k : Nat) :
  ∀ i : Nat,ns.length - i = k -> i <= ns.length -> Meets (Builtin.«list.__eq__.loop» ⟨[.ref l,.ref b,rawInt i,rawInt 0],[]⟩)
   (λ_ R s=>s.heap.get? l = some { cls := .type "list",dict:=none,data := .seq xs c1,slots:=sl1 }/\s.heap.get? b = some { cls := .type "list",dict:=none,data := .seq ys c2,slots:=sl2 } /\
    R (.ok (.ret (.bool (HT.lexLt (ns.drop i) (ms.drop i))))) s):=by
 have s1 : xs.size = ns.length:=by
  rw [<- hx.length]
  simp
 have s2 : ys.size = ms.length:=by
  rw [<- hy.length]
  simp
 induction k with
 | zero =>
  intro i hk hi P w A R s ⟨hl,hb,hR⟩;obtain ⟨hp,gs,dr,tk,os⟩:=s
  wp_walk using yBD hl,yBD hb
  have n1 : xs[((i : Nat) : Int).toNat]? = none:=by
   simp
   lia
  rw [n1]
  wp_walk using yBD hl,yBD hb
  have d1 : ns.drop i = []:=yCL (by lia);have d2 : ms.drop i = []:=yCL (by lia);rw [d1,d2] at hR;show R (.ok (.ret (.bool (decide (xs.size < ys.size))))) _;rw [yAL (by lia)];exact hR
 | succ k ih =>
  intro i hk hi P w A R s ⟨hl,hb,hR⟩;obtain ⟨hp,gs,dr,tk,os⟩:=s;have i1 : i < ns.length:=by lia
  have i2 : i < ms.length:=by lia
  obtain ⟨t1,e1⟩:=zJO hx i i1;obtain ⟨t2,e2⟩:=zJO hy i i2
  have f1 : xs[((i : Nat) : Int).toNat]? = some (.int ns[i] t1):=by
   rw [yAS,<- yAs];exact e1
  have f2 : ys[((i : Nat) : Int).toNat]? = some (.int ms[i] t2):=by
   rw [yAS,<- yAs];exact e2
  rw [yBv i1,yBv i2,HT.lexLt_cons] at hR
  wp_walk using yBD hl,yBD hb
  rw [f1,f2];obtain ⟨e,he,hiff⟩:=HT.eqAt_int A.in1 ⟨hp,gs,dr,tk,os⟩ ns[i] t1 ms[i] t2;refine yAA (he P w _ _ ?_)
  cases e with
  | true =>
   rw [yAK (hiff.mp rfl)] at hR
   wp_walk
   have ec : ((i : Int) + 1) = ((i + 1 : Nat) : Int):=by lia
   rw [ec];refine ⟨plainId_quiet plain_eq_loop _,yCJ entry_eq_loop ?_⟩;rw [yDd plain_eq_loop _];exact ih (i + 1) (by lia) (by lia) P w A R _ ⟨hl,hb,hR⟩
  | false =>
   rw [yAN (λq=>absurd (hiff.mpr q) yAW)] at hR
   wp_walk using yBD hl,yBD hb
   rw [f1,f2];have rc:=HT.rcLt_int A.in1 ⟨hp,gs,dr,tk,os⟩ ns[i] t1 ms[i] t2 P w
   wp_walk using rc
   exact hR
theorem zIS (l b : Addr) (xs ys : Array Value) (c1 c2 : Nat) (sl1 sl2 : Array (Option Value)) (ns ms : List Int) (hx : IntsAre xs.toList ns) (hy : IntsAre ys.toList ms) (hz : ns.length = ms.length) :
  Meets (Builtin.«list.__lt__» ⟨[.ref l,.ref b],[]⟩)
   (λ_ R s=>s.heap.get? l = some { cls := .type "list",dict:=none,data := .seq xs c1,slots:=sl1 }/\s.heap.get? b = some { cls := .type "list",dict:=none,data := .seq ys c2,slots:=sl2 } /\
    R (.ok (.ret (.bool (HT.lexLt ns ms)))) s):=by
 intro P w A R s ⟨hl,hb,hR⟩;obtain ⟨hp,gs,dr,tk,os⟩:=s;have sb:=AutoSeq1.sub_list_list
 wp_walk using yBD hl,yBD hb
 refine ⟨plainId_quiet plain_eq_loop _,yCJ entry_eq_loop ?_⟩;rw [yDd plain_eq_loop _];exact zUK l b xs ys c1 c2 sl1 sl2 ns ms hx hy hz _ 0 rfl (yAy _) P w A R _ ⟨hl,hb,hR⟩
theorem zMI {P : Program} {w : World} {A : Around} {E : Value -> Shared -> Prop} {s : Shared} {l b : Addr} {xs ys : Array Value} {ns ms : List Int} {Q : Value -> Shared -> Prop} (hl : PlainL s.heap l xs) (hb : PlainL s.heap b ys) (hx : IntsAre xs.toList ns) (hy : IntsAre ys.toList ms) (hz : ns.length = ms.length)
  (hu : A.units < cLine) (h : Q (.bool (HT.lexLt ns ms)) s) : wpAny (model P w) A (compareOp .Lt (.ref l) (.ref b)) Q E s:=by
 obtain ⟨⟨k1,d1,a1,e1⟩,n1,p1,q1,r1,v1⟩:=hl;obtain ⟨⟨k2,d2,a2,e2⟩,n2,p2,q2,r2,v2⟩:=hb;simp only at q1 r1 v1 q2 r2 v2;subst q1 r1 v1 q2 r2 v2
 exact richCompare_meets_room (op := .Lt) ⟨_,p1,rfl⟩ ⟨_,p2,rfl⟩ PySem.F.slot_list_lt PySem.F.entry_list_lt (PySem.F.args_list_lt_2 _ _) (zIS l b xs ys n1 n2 e1 e2 ns ms hx hy hz)
  ⟨p1,p2,show Value.bool (HT.lexLt ns ms)≠Value.notImplemented/\Q (.bool (HT.lexLt ns ms)) s from ⟨(λx=>nomatch x),h⟩⟩ hu
end L2
namespace L2
open PySem PySem.Spec PyProof.Rows PySem.W
theorem zJT (ms : List Int) : (PyData.list (ms.map PyData.int)).depth <= 2:=by
 have:=zCP ms
 simp only [PyData.depth];lia
section
variable {X : Cx} {pins : List (Addr × Obj)} {σ : St} {H : Hp} {s : Shared}
structure KeyAtL (X : Cx) (H : Hp) (s : Shared) (v : Value) (n : Int) (ms : List Int) : Prop where
 ex : ∃ (a b : Addr) (t : Tok) (o : Obj) (k : Nat) (its : List Value) (bs : List Addr),v = .ref a/\s.heap.get? a = some o/\o.cls = .type "tuple"/\o.data = .seq [.int n t,.ref b].toArray k/\PlainL s.heap b its.toArray/\IntsAre its ms/\Reads s.heap (.ref b) (.list (ms.map PyData.int)) bs/\n = (ms.length : Int)
end
section
variable {X : Cx} {k : Nat} {f : Addr} {fd : FuncData} {pn : Str} {sp : Sp} {kf : V -> Int × List Int}
end
section
variable {X : Cx} {scope : Scope} {xs : List Str} {fv : List (Str × Nat)} {elt tg iter : Expr} {ifs : List Expr} {pos spos py : Pos} {tt : TT} {te : TE} {g : TG} {y : Str} {i : Nat}
theorem zSN {wi : TI} (hN : X.N.Nodup) (hi' : X.N[i]? = some y) (hy : X.env.scope.names.lookup y = some .local) (hc : X.calm = true) (hs : zEA scope xs fv = true) (hv : FvOk X scope fv) (hi : PI X tg iter wi) (hg : ∀ C s₀ H₀ ex pn,PG (cxT X scope xs fv C s₀ H₀ ex pn) tg g)
  (ht : ∀ C s₀ H₀ ex pn,PTl (cxT X scope xs fv C s₀ H₀ ex pn) ifs tt) (he : ∀ C s₀ H₀ ex pn,PE (cxT X scope xs fv C s₀ H₀ ex pn) elt te)
  (hsw : swapsWith (.ListComp elt [⟨tg,iter,ifs,0⟩] scope pos) (some (.Name y py)) spos.line X.env = pure true:=by rfl) (hf : ∀ x,foldedSetIterable iter X.env x = pure x:=by intro _; rfl) :
  PS X (.Assign [.Name y py] (.ListComp elt [⟨tg,iter,ifs,0⟩] scope pos) spos) (za3 (zL2 (.lst []) wi xs fv g tt (tbL te)) (zH8 i)):=by
 intro pins s σ H D I h;have S:=zD8 hs;rw [exec_Assign_Name_used _ _ _ _ hsw]; refine yAA (yCO (yAA ?_));show wpAny _ X.A (do let _ <- comprehension (.ListComp elt [⟨tg,iter,ifs,0⟩] scope pos) scope X.env _ (newList []) false (eval iter X.env) (some (assign (.Name y py) X.env))) _ _ s;refine yAA (yBO (yDz (use:=some (assign (.Name y py) X.env)) (Q:=λ_ s'=>SP X pins D .next s') rfl hf (zYR I S hv) S.kind S.names (thn (hi pins s σ H _ I h) λv s1 h1=>thn h1 λitv s2 h2 => ?_)) (λ_ s' h'=>yAH (yAH h')) λ_ _ z=>z);obtain ⟨it,fp,tn,J,H2,e,I2,T,st2,f2,hw⟩:=h2;subst e;refine zDH (e := .ListComp elt [⟨tg,iter,ifs,0⟩] scope pos) (iter:=iter) (RR:=λacc C=>compPost (model X.prog X.w) X.A X.xe (some (assign (.Name y py) X.env)) (λ_ s'=>SP X pins D .next s') acc C) hc S hv ht hg (λC s₀ H₀ ex pn=>zN9 (he C s₀ H₀ ex pn)) zKM (λ_ _ _=>rfl) (λ_ _ _=>rfl) (λit D env=>compTurn_list ..) (λ_ _ _ _ _ a b=>codeAny_compStart_list a b) I2 T st2 f2 hw ?_;intro L C s' H' m I' q hn fC;show wpAny _ X.A (assign (.Name y py) X.env (.ref L)) _ _ s';refine wpAny_assign_Name (zIQ I' hN hi' (.inl hy) (v := .ref L) rfl (λs'' I'' hb => ?_) (.inr hy));obtain ⟨a,sb,ha⟩:=hb
 have na : C≠a:=by
  rcases ha with z | z
  ·rw [z]; exact fC.2.1
  ·exact λw=>fC.2.2.2.2.1 y a z w.symm
 have hn2 : s''.heap.Ns C m:=hn.sameBut sb na;refine ⟨m,hn2,λh' hs'=>⟨_,H',I''.turned (t':=s''.toks) (λb o hb e=>(hs'.2 b hb).trans e) fC.1 fC.2.1 fC.2.2.2.1 fC.2.2.2.2.1 fC.2.2.2.2.2,q⟩⟩
end
end L2
namespace HT
open PySem PySem.Spec PyProof.Rows
section
variable {prog : Program} {w : World} {A : Around} {E : Value -> Shared -> Prop} {s : Shared}
theorem getItem_tuple_whole {t sl : Addr} {items : Array Value} {vl vu : Value} {lo hi : Option Int} {Q : Value -> Shared -> Prop} (ht : IsTup s.heap t items) (hs : s.heap.IsSliceOf sl vl vu .none) (pl : IsPart vl lo) (pu : IsPart vu hi)
  (h1 : sIx items.size 0 lo = 0) (h2 : sIx items.size items.size hi = items.size)
  (h : Q (.ref t) s) : wpAny (model prog w) A (getItem (.ref t) (.ref sl)) Q E s:=by
 obtain ⟨os,hos,hcs,hds⟩:=id hs;have hTs : s.TypeIs (.ref sl) "slice":=⟨os,hos,hcs⟩;unfold getItem
 try with_reducible refine yBd ?_
 first | refine yAA (yAH ?_) | skip
 refine yAA (wpAny_sequenceKey ht.typeIs (by decide) ?_)
 refine yAA (yCa (name:=Str.ofString "__getitem__") ht.typeIs yBe
  (yDY yBe ht.typeIs entry_tuple_getitem ?_ (args_tuple_getitem _ _)))
 show wpAny _ _ (Builtin.Tuple.tupleItemsOf (.ref t) >>= _) _ _ s;refine yAA (tupleItemsOf_ ht ?_);refine yAA (yDm hTs ?_);rw [yAK (by decide)];refine yAA (zCX hs pl pu ?_);rw [h1,h2];show wpAny _ _ (if (((0 : Nat) : Int) == 0&&(1 : Int) == 1&&(items.size - 0) == items.size) = true then _ else _) _ _ s;rw [yAK (by simp)];refine yAA (yAA (yDm ht.typeIs (yAH ?_)));rw [yAK (by decide)]
 first
  | exact yAA (yDD (yAH ⟨_,rfl,yAH h⟩))
  | exact yDD (yAH ⟨_,rfl,yAH h⟩)
  | exact yAA (yAH (yAH ⟨_,rfl,yAH h⟩))
end
end HT
namespace L2
open PySem PySem.Spec PyProof.Rows
noncomputable def zYF (K : PySem.W.Frag) : V -> Option Int -> Option Int -> Hp -> VK -> Prop:=λx lo hi H Q=>∃ a xs,x = .ref a/\SqT K H a xs /\
 ((HT.sIx xs.length 0 lo = 0/\HT.sIx xs.length xs.length hi = xs.length) -> Q (.ref a) H)/\(¬ (HT.sIx xs.length 0 lo = 0/\HT.sIx xs.length xs.length hi = xs.length) -> ∀ p,H p = none -> Q (.ref p) (upd H p (.tup (zFZ xs lo hi))))
theorem zW3 {X : Cx} : SlR X (zYF X.K):=by
 intro pins s σ H x v vl vu lo hi sl Q I rx hs pl pu h;obtain ⟨a,xs,rfl,hx,q1,q2⟩:=h
 by_cases c : HT.sIx xs.length 0 lo = 0/\HT.sIx xs.length xs.length hi = xs.length
 ·cases rx
  obtain ⟨its,r,ht,hz⟩:=I.tuple hx;have hlen : its.toArray.size = xs.length:=by rw [yAF]; exact r.length.symm
  refine ⟨"tuple",_,PyProof.Rows.slot_tuple_getitem.lookup,ht.typeIs,?_⟩;exact HT.getItem_tuple_whole ht hs pl pu (by rw [hlen]; exact c.1) (by rw [hlen]; exact c.2) ⟨.ref a,_,I,rfl,q1 c⟩
 ·exact zY8 pins s σ H _ v vl vu lo hi sl Q I rx hs pl pu ⟨a,xs,rfl,hx,c,q2 c⟩
theorem zIL {xs : List V} {i : Nat} (h : i <= xs.length) : zFZ xs (some (i : Int)) none = xs.drop i:=by
 have e1 : HT.sIx xs.length 0 (some (i : Int)) = i:=by
  unfold HT.sIx
  simp
  rw [yAN (by lia)];lia
 have e2 : HT.sIx xs.length xs.length none = xs.length:=rfl;unfold zFZ;rw [e1,e2];exact yAt (by rw [yCg]; lia)
theorem zQT {K : PySem.W.Frag} {g : TG} {tb : TS} {D : Ends} {σ : St} {H1 : Hp} {a : Addr} {ys : List V} (sq : Sq K H1 a ys) (Pv : Nat -> St -> Hp -> Prop) (h0 : Pv 0 σ H1) (hk : ∀ i σ H',Pv i σ H' -> At1 a H1 H')
  (hs : ∀ i σ H' x r,i < ys.length -> ys[i]? = some x -> Pv i σ H' -> H' r = none -> g (.ref r) σ (upd H' r (.tup [.int (i : Nat),x])) λσ2 H2=>tb { D with nx:=Pv (i + 1),ct:=Pv (i + 1),bk:=D.nx } σ2 H2) (hd : ∀ σ H',Pv ys.length σ H' -> D.nx σ H') :
  (∃ xs,SqL K H1 a xs)/\(∃ W : Nat -> Nat -> St -> Hp -> Prop,(∃ m,W 0 m σ H1)/\∀ i m σ H,W i m σ H ->
   ((Ite K a).stop i H/\D.nx σ H) \/ ((Ite K a).go i H/\∃ N : St -> Hp -> Prop,(∀ σ' H',N σ' H' -> ∃ m',m' < m/\W (i + 1) m' σ' H')/\∀ x H',(Ite K a).yld i H x H' -> g x σ H' λσ2 H2=>tb { D with nx:=N,ct:=N,bk:=D.nx } σ2 H2)) \/
  (∃ xs,SqT K H1 a xs)/\(∃ W : Nat -> Nat -> St -> Hp -> Prop,(∃ m,W 0 m σ H1)/\∀ i m σ H,W i m σ H ->
   ((zUG K a).stop i H/\D.nx σ H) \/ ((zUG K a).go i H/\∃ N : St -> Hp -> Prop,(∀ σ' H',N σ' H' -> ∃ m',m' < m/\W (i + 1) m' σ' H')/\∀ x H',(zUG K a).yld i H x H' -> g x σ H' λσ2 H2=>tb { D with nx:=N,ct:=N,bk:=D.nx } σ2 H2)):=by
 rcases sq with sq | sq
 ·refine .inl ⟨⟨_,sq⟩,zGJ ys.length Pv h0 (λi σ H' hi hP=>⟨ys,ys[i],SqL.at1 (hk _ _ _ hP) sq,by simp [hi]⟩) (λσ H' hP=>⟨ys,SqL.at1 (hk _ _ _ hP) sq,rfl⟩) (λi σ H' x H2 hi hP y => ?_) hd⟩
  obtain ⟨r,x,hr,rfl,hx,rfl⟩:=y;exact hs i σ _ x r hi (hx ys (SqL.at1 (hk _ _ _ hP) sq)) hP hr
 ·refine .inr ⟨⟨_,sq⟩,zGJ ys.length Pv h0 (λi σ H' hi hP=>⟨ys,ys[i],SqT.at1 (hk _ _ _ hP) sq,by simp [hi]⟩) (λσ H' hP=>⟨ys,SqT.at1 (hk _ _ _ hP) sq,rfl⟩) (λi σ H' x H2 hi hP y => ?_) hd⟩
  obtain ⟨r,x,hr,rfl,hx,rfl⟩:=y;exact hs i σ _ x r hi (hx ys (SqT.at1 (hk _ _ _ hP) sq)) hP hr
section
variable {X : Cx}
end
section
variable {X : Cx}
noncomputable def zVB : V -> List V -> Hp -> VK -> Prop:=λx vs H Q=>∃ z y,x = .str z/\vs = [.str y]/\(y.length == 0) = false/\z.length <= 100000/\∀ D,H D = none -> Q (.ref D) (upd H D (.lst ((Txt.split z y).map V.str)))
theorem zNH : MtR X "str.split" zVB:=by
 intro pins s σ H x vs v us Q I rx rv h;obtain ⟨z,y,rfl,rfl,hy,hz,q⟩:=h;obtain ⟨t,rfl⟩:=rx;obtain ⟨u,rfl,⟨t',rfl⟩⟩:=rv.one;have sl : 1000000 <= sizeLine:=by decide
 have hn : (Builtin.Str.partsBetween z (Builtin.Str.occurrences z y 0 z.length (z.length + 1)) y.length).length <= 100002:=by
  have e1:=StrLaws.occ_length_le z y 0 z.length (z.length + 1);rw [length_partsBetween]; lia
 have fin : ∀ (l : List (Str × Tok)) (k : Nat),l.map (·.1) = Txt.split z y -> l.length <= 100002 -> EP X pins σ Q (.ref s.heap.objs.size) { s with toks:=k,heap:=s.heap.push { cls := .type "list",data := .seq (strValues l).toArray } }:=λl k e hl=>by
  have hv:=zE3 l;have e' : (l.map λp=>V.str p.1) = (Txt.split z y).map V.str:=by rw [<- e,yBp]; rfl
  rw [e'] at hv;have hl' : ((Txt.split z y).map V.str).length <= sizeLine:=by rw [<- e',yAC]; lia
  exact ⟨.ref _,_,I.lnew (t':=k) hv hl',rfl,q _ I.fresh⟩
 cases h1 : (decide (z.length < y.length)||decide (Builtin.Str.strKind z < Builtin.Str.strKind y))
 ·cases hf : (Builtin.Str.occurrences z y 0 z.length (z.length + 1)).isEmpty
  ·refine yDg F.slot_str_split (typeIs_str _ _ _) F.entry_str_split (F.args_str_split_2 _ _) (meets_str_split_sep z y t t' h1 hy hf (by lia) (by lia)) ?_
   rw [strsFrom_eq]
   exact fin (numbered s.toks _) _ ((numbered_texts _ _).trans ((yAN (ne_true_of_eq_false h1)).trans (yAN (ne_true_of_eq_false hf))).symm) (by
    have:=congrArg List.length (numbered_texts s.toks (Builtin.Str.partsBetween z (Builtin.Str.occurrences z y 0 z.length (z.length + 1)) y.length))
    rw [yAC] at this;lia)
  ·exact yDg F.slot_str_split (typeIs_str _ _ _) F.entry_str_split (F.args_str_split_2 _ _) (meets_str_split_not_found z y t t' h1 hy hf) (fin [(z,t)] s.toks ((yAN (ne_true_of_eq_false h1)).trans (yAK hf)).symm (show 1 <= 100002 by decide))
 ·exact yDg F.slot_str_split (typeIs_str _ _ _) F.entry_str_split (F.args_str_split_2 _ _) (meets_str_split_cannot_occur z y t t' h1) (fin [(z,t)] s.toks (yAK h1).symm (show 1 <= 100002 by decide))
end
end L2
namespace L2
open PySem PySem.Spec PyProof.Rows PySem.W
noncomputable def zF1 (a : Addr) (before : Nat) (s : SortSt) : Sem PySem.Fin:=do
 let now <- seqEpoch a
 let touched : Bool:=now != before
 Builtin.List.listUpdate (Value.ref a) λ_=>Array.map (λx=>x.snd) (arrOf s)
 have __do_jp : Unit -> Sem PySem.Fin:=λ__r =>
  have __do_jp:=λ(__r : Unit)=>ret Value.none
  if touched = true then do
   rule "list.sort.modified"
   let __r <- raiseErrorWords "ValueError" "list modified during sort"
   __do_jp __r
  else __do_jp ()
 match failedOf s with
  | some e=>do
   rule "list.sort.comparison-raised"
   let __r <- throw e
   __do_jp __r
  | x=>__do_jp ()
noncomputable def zJ9 (a : Addr) (items : Array Value) (before : Nat) : Sem PySem.Fin :=
 have pairs:=items.zip items
 have __do_jp:=λkind=>do
   let __x <-
    (if items.size < 2 then pure () else sortRuns').run
      (SortSt.mk' kind pairs #[] 7 none)
   match __x with
    | (PUnit.unit,s)=>zF1 a before s
 if items.size < 2 then do
   let kind <- pure general'
   __do_jp kind
  else do
   let kind <- keyKind' items
   __do_jp kind
noncomputable def zH4 (a : Addr) : Sem PySem.Fin:=do
 let items <- Builtin.List.listItems (Value.ref a)
 Builtin.List.listUpdate (Value.ref a) λx => #[]
 let before <- seqEpoch a
 let held <- newTuple items.toList
 let keyStore <- newList []
 holding [held,keyStore] (do let keys <- pure items; zJ9 a keys before)
theorem zX6 (a : Addr) : Builtin.«list.sort» { pos:=[.ref a],kw:=[] } = zH4 a:=by
 rfl
section
variable {X : Cx} {pins : List (Addr × Obj)} {σ : St} {H : Hp} {s : Shared} {D : Addr} {kf : V -> Int × List Int} {xs : List V} {its : List Value}
theorem zRR {prog : Program} {w : World} {A : Around} {E : Value -> Shared -> Prop} {st : SortSt} {out : List Value} {D : Addr} {e1 : Nat} {P : PySem.Fin -> Shared -> Prop} (hD : s.heap.get? D = some (seqObj "list" #[] e1))
  (hout : (arrOf st).map (·.2) = out.toArray) (hf : failedOf st = none) (hz2 : out.length <= sizeLine)
  (h : P (.done (.ret .none)) { s with heap:=s.heap.update D (Obj.mapSeq λ_=>out.toArray) }) : wpAny (model prog w) A (zF1 D e1 st) P E s:=by
 unfold zF1
 try dsimp only
 rw [hout];refine yAA (seqEpoch_at hD rfl ?_);refine yAA (yDF hD rfl ?_ (yAy _) (by rw [yAF]; lia));rw [hf];simp only [bne_self_eq_false,yBK,yCb];exact yAH h
structure NForm (X : Cx) (G : Hp -> V -> Prop) (kf : V -> Int × List Int) (KA : Hp -> Shared -> Value -> Int × List Int -> Prop) : Prop where
 at_ : ∀ {pins : List (Addr × Obj)} {σ : St} {H : Hp} {s : Shared} {v : V} {u : Value},Inv X pins σ H s -> G H v -> RelV v u -> KA H s u (kf v)
 ex : ∀ {H : Hp} {s : Shared} {v : Value} {k : Int × List Int},KA H s v k -> ∃ (a : Addr) (n : Int) (t : Tok) (o : Obj) (r : Array Value) (i : Nat),v = .ref a/\s.heap.get? a = some o/\o.cls = .type "tuple"/\o.data = .seq r i/\r[0]? = some (.int n t)
 cmp : ∀ {H : Hp} {s : Shared} {A : Around} {E : Value -> Shared -> Prop} {u v : Value} {a b : Int × List Int} {C : Bool -> Shared -> Prop},A.units + 10 < cLine -> KA H s u a -> KA H s v b -> C (zB2 a b) s -> wpAny (model X.prog X.w) A (keyLt' (tuples' true) u v) C E s
theorem zPA {G : Hp -> V -> Prop} {KA : Hp -> Shared -> Value -> Int × List Int -> Prop} (KF : NForm X G kf KA) {E : Value -> Shared -> Prop} {e1 : Nat} {A : Around} (hun : A.units + 10 < cLine) (rv : Vals xs its) (h64 : xs.length <= 100000)
  (I : Inv X (pins++[(D,seqObj "list" #[] e1)]) σ H s) (fD : zF5 X pins H D) (sD : X.s₀.heap.objs.size <= D) (kt : ∀ y∈xs,G H y) :
  wpAny (model X.prog X.w) A (zJ9 D its.toArray e1) (λfin s'=>fin = .done (.ret .none)/\zE9 X pins σ H D kf xs s') E s:=by
 have hlen:=rv.length;have pD:=I.pin (D,seqObj "list" #[] e1) (yAM _ (yAM _ (yAQ ..)));have I0 : Inv X pins σ H s:=I.pins_of λp hp=>I.pin p (yAM _ (yBa _ hp));have s64 : 100000 <= sizeLine:=by decide
 have fin : ∀ (st : SortSt) (us : List Value) (ys : List V),(arrOf st).map (·.2) = us.toArray -> failedOf st = none -> Vals ys us -> ys.Perm xs -> ys.Pairwise (λa b=>zB2 (kf b) (kf a) = false) ->
   wpAny (model X.prog X.w) A (zF1 D e1 st) (λfin s'=>fin = .done (.ret .none)/\zE9 X pins σ H D kf xs s') E s:=λst us ys h1 h2 hv h3 h4=>by
  have hyl : ys.length = xs.length:=h3.length_eq;have hul:=hv.length;refine zRR pD.1 h1 h2 (by lia) ⟨rfl,H,ys,?_,Same.refl _,pD.2.1,h3,h4⟩;have I2 : Inv X pins σ H { s with heap:=s.heap.update D (Obj.mapSeq λ_=>us.toArray) }:=I0.turned (t':=s.toks) (λb o hb e=>by rw [yBN _ _ _ _ hb]; exact e) pD.2.1 fD.2.1 fD.2.2.2.1 fD.2.2.2.2.1 fD.2.2.2.2.2;exact I2.take ⟨pD.2.1,fD.2⟩ sD ⟨by lia,_,_,hv,yDG pD.1 λ_=>us.toArray⟩
 have hz0 : ∀ (b : List Value),(b.zip b).map (·.2) = b:=λb=>by
  induction b with
  | nil=>rfl
  | cons x r ih=>simp [ih]
 unfold zJ9
 try dsimp only
 by_cases h2 : its.toArray.size < 2
 ·have h2' : xs.length < 2:=by rw [yAF] at h2; lia
  rw [yAK h2,yAK h2];refine yAA (yAH ?_);rw [StateT.run_pure];refine yAA (yAH ?_);refine fin (SortSt.mk' general' (its.toArray.zip its.toArray) #[] 7 none) its xs ?_ rfl rv (List.Perm.refl _) ?_
  ·show (its.toArray.zip its.toArray).map (·.2) = its.toArray
   apply yBl.mp;rw [Array.toList_map,ksk_zip];exact hz0 its
  ·match xs,h2' with
   | [],_=>exact .nil
   | [_],_=>exact yCG _ _
 ·have h2' : 2 <= xs.length:=by rw [yAF] at h2; lia
  rw [yAN h2,yAN h2]
  have kat : ∀ j,j < xs.length -> KA H s (its.getD j .none) (kf (xs.getD j .non)):=λj hj=>by
   refine KF.at_ I0 (kt _ ?_) (zBT rv j);rw [yAc,yAB hj];exact yBI hj
  have tups : ∀ l : List Value,(∀ v∈l,∃ k,KA H s v k) -> ∃ fs,KatTups s.heap l fs/\fs.length = l.length/\∀ v∈fs,∃ n t,v = Value.int n t:=λl=>by
   induction l with
   | nil=>exact λ_=>⟨[],KatTups.nil,rfl,λ_ h=>nomatch h⟩
   | cons v r ih =>
    intro h;obtain ⟨fs,t1,t2,t3⟩:=ih λu hu=>h u (yAP _ hu);obtain ⟨k,q⟩:=h v (yAQ ..);obtain ⟨a,n,t,o,r',i,rfl,e,c,d,f0⟩:=KF.ex q;refine ⟨.int n t::fs,KatTups.cons e c d f0 t1,by simp [t2],λu hu => ?_⟩
    rcases yAd.mp hu with rfl | hu
    ·exact ⟨n,t,rfl⟩
    ·exact t3 u hu
  obtain ⟨fs,t1,t2,t3⟩:=tups its λv hv=>by
   obtain ⟨j,hj⟩:=yAi hv;have hjl : j < xs.length:=by rw [hlen]; exact (yAE.mp hj).1
   have q:=kat j hjl;rw [yAc,hj] at q;exact ⟨_,q⟩
  refine yAA (kat_kind (T := .type "int") t1 (by lia) (λv hv => ?_) rfl ?_)
  ·obtain ⟨n,t,rfl⟩:=t3 v hv
   exact Looks.of_pure rfl
  have hz : (its.toArray.zip its.toArray).size = xs.length:=by simp; lia
  have itemAt : ∀ j,j < xs.length -> (its.toArray.zip its.toArray)[j]? = some (its.getD j .none,its.getD j .none):=λj hj=>by
   have h2 : j < its.length:=by lia
   have e : (its.zip its)[j]? = some (its[j],its[j]):=by rw [List.getElem?_zip_eq_some]; exact ⟨yAB h2,yAB h2⟩
   rw [<- yAs,ksk_zip];show (its.zip its)[j]? = _;rw [e]
   simp [h2]
  have spec : ∀ x,x∈(its.toArray.zip its.toArray).toList -> ∃ j,j < xs.length/\x = (its.getD j .none,its.getD j .none):=λx hx=>by
   obtain ⟨j,hj⟩:=yAi hx
   have hjl : j < xs.length:=by
    have:=(yAE.mp hj).1
    rw [yAx] at this;lia
   refine ⟨j,hjl,?_⟩;rw [yAs,itemAt j hjl] at hj;exact (Option.some.inj hj).symm
  let idx : Keyed -> Nat:=λx=>by classical exact if h : ∃ j,j < xs.length/\x = (its.getD j .none,its.getD j .none) then Classical.choose h else 0
  have idxOk : ∀ x,x∈(its.toArray.zip its.toArray).toList -> idx x < xs.length/\x = (its.getD (idx x) .none,its.getD (idx x) .none):=λx hx=>by
   have h:=spec x hx;have e : idx x = Classical.choose h:=by show (if h : _ then Classical.choose h else 0) = _; rw [dif_pos h]
   rw [e];exact Classical.choose_spec h
  generalize idx = idx at idxOk
  refine yAA (yBO (L2T.wpS_runs (κ := tuples' true) (R:=λx y=>zB2 (kf (xs.getD (idx x) .non)) (kf (xs.getD (idx y) .non))) (a₀ := its.toArray.zip its.toArray) (st:=SortSt.mk' (tuples' true) (its.toArray.zip its.toArray) #[] 7 none)
   (Q:=λ_ st'=>L2T.Bs (tuples' true) (its.toArray.zip its.toArray) st'/\L2T.SegSrt (λx y=>zB2 (kf (xs.getD (idx x) .non)) (kf (xs.getD (idx y) .non))) (arrOf st') 0 (its.toArray.zip its.toArray).size)
   ⟨λx y h=>keyLin.asym _ _ h,λx y z h h'=>keyLin.trans _ _ _ h h'⟩ ⟨λx y hx hy C' E' hC => ?_⟩ ⟨rfl,rfl,Array.Perm.refl _⟩ rfl (by lia) λst' b seg=>⟨b,seg⟩) ?_ λ_ _ x=>x)
  ·obtain ⟨l1,e1⟩:=idxOk x hx
   obtain ⟨l2,e2⟩:=idxOk y hy;have a1:=kat _ l1;have a2:=kat _ l2;rw [show its.getD (idx x) .none = x.1 by rw [e1]; exact congrArg (λj=>its.getD (idx j) Value.none) e1.symm] at a1;rw [show its.getD (idx y) .none = y.1 by rw [e2]; exact congrArg (λj=>its.getD (idx j) Value.none) e2.symm] at a2;exact KF.cmp hun a1 a2 hC
  ·rintro ⟨⟨⟩,st'⟩ s' ⟨rfl,hb',seg⟩
   try dsimp only
   have hperm:=yCv.mp hb'.perm;have ok' : ∀ x∈(arrOf st').toList,idx x < xs.length/\x = (its.getD (idx x) .none,its.getD (idx x) .none):=λx hx=>idxOk x (hperm.mem_iff.mp hx);refine fin st' ((arrOf st').toList.map (·.2)) ((arrOf st').toList.map λx=>xs.getD (idx x) .non) (by apply yBl.mp; simp) hb'.failed ?_ ?_ ?_
   ·have go : ∀ l : List Keyed,(∀ x∈l,idx x < xs.length/\x = (its.getD (idx x) .none,its.getD (idx x) .none)) -> Vals (l.map λx=>xs.getD (idx x) .non) (l.map (·.2)):=λl=>by
     induction l with
     | nil=>exact λ_ => .nil
     | cons x r ih =>
      intro hl;obtain ⟨_,e⟩:=hl x (yAQ ..);have q:=zBT rv (idx x);have e2 : its.getD (idx x) .none = x.2:=(congrArg Prod.snd e).symm;rw [e2] at q;exact .cons q (ih λy hy=>hl y (yAP _ hy))
    exact go _ ok'
   ·refine (hperm.map _).trans (yEW ?_)
    apply yCt;intro j;rw [yAb,yAs]
    by_cases hj : j < xs.length
    ·rw [itemAt j hj,yAB hj]
     have m : (its.getD j Value.none,its.getD j Value.none)∈(its.toArray.zip its.toArray).toList:=yAn (i:=j) (by rw [yAs,itemAt j hj]);obtain ⟨l1,e1⟩:=idxOk _ m;have q1:=zBT rv (idx (its.getD j Value.none,its.getD j Value.none));have q2:=zBT rv j;have e3 : its.getD (idx (its.getD j Value.none,its.getD j Value.none)) Value.none = its.getD j Value.none:=(congrArg Prod.snd e1).symm;rw [e3] at q1;have e:=zL0 q1 q2;show some (xs.getD (idx (its.getD j Value.none,its.getD j Value.none)) .non) = some xs[j];rw [e]
     simp [hj]
    ·rw [yBU (by lia),Array.getElem?_eq_none (by lia)]
     rfl
   ·rw [yBY,yDv]
    intro i j hi hj hij;have hs' : (arrOf st').size = xs.length:=hb'.size.trans hz;have q:=seg i j (yAy _) (yDq hij) (by rw [hz]; rw [yAx] at hj; lia);have ei:=L2T.at_toList (xs:=arrOf st') (i:=i) (by simpa using hi);have ej:=L2T.at_toList (xs:=arrOf st') (i:=j) (by simpa using hj);rw [yAB hi] at ei;rw [yAB hj] at ej;rw [Option.some.inj ei,Option.some.inj ej];exact q
theorem zLY {G : Hp -> V -> Prop} {KA : Hp -> Shared -> Value -> Int × List Int -> Prop} (KF : NForm X G kf KA) {E : Value -> Shared -> Prop} {A : Around} (hun : A.units + 10 < cLine) (I : Inv X pins σ H s) (hD : s.heap.get? D = some (seqObj "list" its.toArray 0)) (fD : zF5 X pins H D)
  (sD : X.s₀.heap.objs.size <= D) (rv : Vals xs its) (h64 : xs.length <= 100000) (kt : ∀ y∈xs,G H y) :
  wpAny (model X.prog X.w) A (zH4 D) (λfin s'=>fin = .done (.ret .none)/\zE9 X pins σ H D kf xs s') E s:=by
 have hlen:=rv.length;have s64 : 100000 <= sizeLine:=by decide
 unfold zH4;refine yAA (yEO hD rfl ?_);refine yAA (yDF hD rfl ?_ (by rw [yAF]; lia) (yAy _));obtain ⟨e1,hD1⟩ : ∃ e1,(s.heap.update D (Obj.mapSeq λ_=>(#[] : Array Value))).get? D = some (seqObj "list" #[] e1):=⟨_,yDG hD λ_ => #[]⟩;have I1 : Inv X pins σ H { s with heap:=s.heap.update D (Obj.mapSeq λ_ => #[]) }:=I.turned (t':=s.toks) (λb o hb e=>by rw [yBN _ _ _ _ hb]; exact e) fD.1 fD.2.1 fD.2.2.2.1 fD.2.2.2.2.1 fD.2.2.2.2.2;generalize hs1 : ({ s with heap:=s.heap.update D (Obj.mapSeq λ_ => #[]) } : Shared) = s1 at I1;have hD1' : s1.heap.get? D = some (seqObj "list" #[] e1):=by rw [<- hs1]; exact hD1
 refine yAA (seqEpoch_at hD1' rfl ?_);refine yAA (wpAny_newTuple ?_ (by show its.length <= _; lia));have I2 : Inv X pins σ H { s1 with heap:=s1.heap.push { cls := .type "tuple",data := .seq its.toArray } }:=I1.kept (t':=s1.toks) λb o e=>yAD _ e;have hD2:=yAD ({ cls := .type "tuple",data := .seq its.toArray } : Obj) hD1';generalize hs2 : ({ s1 with heap:=s1.heap.push { cls := .type "tuple",data := .seq its.toArray } } : Shared) = s2 at I2;have hD2' : s2.heap.get? D = some (seqObj "list" #[] e1):=by rw [<- hs2]; exact hD2
 refine yAA (yEH ?_ (yAy _));have I3 : Inv X pins σ H { s2 with heap:=s2.heap.push { cls := .type "list",data := .seq ([] : List Value).toArray } }:=I2.kept (t':=s2.toks) λb o e=>yAD _ e;have hD3 : (s2.heap.push { cls := .type "list",data := .seq ([] : List Value).toArray }).get? D = some (seqObj "list" #[] e1):=yAD _ hD2';generalize hs3 : ({ s2 with heap:=s2.heap.push { cls := .type "list",data := .seq ([] : List Value).toArray } } : Shared) = s3 at I3;have hD3' : s3.heap.get? D = some (seqObj "list" #[] e1):=by rw [<- hs3]; exact hD3
 refine yBd ?_
 have I4 : Inv X (pins++[(D,seqObj "list" #[] e1)]) σ H s3:=I3.pins_of λp hp=>by
  rcases yAm.mp hp with z | z
  ·exact I3.pin p (yAM _ z)
  ·rcases yAd.mp z with rfl | z
   ·exact ⟨hD3',fD.1,fD.2.1,fD.2.2.1,λv q=>by cases q⟩
   ·cases z
 (try rw [hs3])
 refine yAA (yAH ?_);exact zPA KF hun rv h64 I4 fD sD kt
noncomputable def zTJ (K : PySem.W.Frag) (G : Hp -> V -> Prop) (kf : V -> Int × List Int) : List V -> Hp -> VK -> Prop:=λus H1 Q=>∃ a xs,us = [.ref a]/\(SqL K H1 a xs \/ SqT K H1 a xs)/\xs.length <= 100000/\(∀ y∈xs,G H1 y) /\
 ∀ D H2 ys,H1 D = none -> Same H1 H2 -> H2 D = some (.lst ys) -> ys.Perm xs -> ys.Pairwise (λa b=>zB2 (kf b) (kf a) = false) -> Q (.ref D) H2
theorem zMR {k : Nat} {G : Hp -> V -> Prop} {KA : Hp -> Shared -> Value -> Int × List Int -> Prop} (KF : NForm X G kf KA) (hr : Room (k + 2) X.A) : zCZ X (.builtin "sorted") (zTJ X.K G kf):=by
 intro pins s σ H us vs Q I r h;obtain ⟨a,xs,rfl,hq,h64,kt,q⟩:=h;obtain ⟨u,rfl,ru⟩:=zDJ r
 cases ru
 have s64 : 100000 <= sizeLine:=by decide
 obtain ⟨T,o,its,n,hT,ho,hc,hd,rv⟩ : ∃ T o its n,(T = "list" \/ T = "tuple")/\s.heap.get? a = some o/\o.cls = .type T/\o.data = .seq (List.toArray its) n/\Vals xs its:=by
  rcases hq with hq | hq
  ·obtain ⟨its,r',pl,hz⟩:=I.list hq
   obtain ⟨o,ho,hc,n,hd⟩:=pl.isList;exact ⟨_,o,its,n,.inl rfl,ho,hc,hd,r'⟩
  ·obtain ⟨its,r',pl,hz⟩:=I.tuple hq
   obtain ⟨o,ho,hc,n,hd⟩:=pl;exact ⟨_,o,its,n,.inr rfl,ho,hc,hd,r'⟩
 have hlen:=rv.length;refine call_function_entry_kw kind_sorted plain_sorted entry_sorted (by rfl) ?_;unfold Builtin.«sorted»;refine yAA (m:=checkCount "sorted" 1 1 _) (yAH ?_);refine yAA (zF9 hT ho hc hd (λh2 hk2 => ?_) (by lia));have I2 : Inv X pins σ H { s with heap:=h2 }:=I.kept (t':=s.toks) hk2;refine yAA (yEH ?_ (by lia));have I3 : Inv X pins σ H { s with heap:=h2.push { cls := .type "list",data := .seq its.toArray } }:=I2.kept (h':=h2.push { cls := .type "list",data := .seq its.toArray }) (t':=s.toks) λb u e=>yAD _ e;have fD : zF5 X pins H h2.objs.size:=I2.fpOk (yAG _) I2.fresh;have hD3 : (h2.push { cls := .type "list",data := .seq its.toArray }).get? h2.objs.size = some (seqObj "list" its.toArray 0):=yAY _ rfl;refine yAA (yBd (wpAny_call_entry_kw slot_list_sort ⟨_,hD3,rfl⟩ entry_list_sort ?_ (by rfl)))
 have hun : X.A.in1.in1.units + 10 < cLine:=by
  have:=hr.un
  show X.A.units + 1 + 1 + 10 < cLine;lia
 show wpAny _ _ (Builtin.«list.sort» { pos:=[.ref h2.objs.size],kw:=[] }) _ _ _;rw [zX6];refine yBO (zLY KF hun (E:=X.xe) I3 hD3 fD I2.sz rv h64 kt) (λfin s' hfin => ?_) λ_ _ z=>z;obtain ⟨rfl,H',ys,I',g,hD',hp,hs'⟩:=hfin;refine ⟨_,rfl,yAH ⟨_,rfl,.ref h2.objs.size,_,I',rfl,q _ _ ys I2.fresh (g.trans λb u e => ?_) zA1 hp hs'⟩⟩;rw [zA7 (zA6 e hD')];exact e
end
end L2
namespace L2
open PySem PySem.Spec PyProof.Rows PySem.W
section
variable {X : Cx} {pins : List (Addr × Obj)} {σ : St} {H : Hp} {s : Shared} {kf : V -> Int × List Int}
noncomputable def zQ4 (a : Int × List Int) : PyData := .tuple [.int a.1,.list (a.2.dropLast.map PyData.int),.int (a.2.getLastD 0)]
structure KeyAt3 (X : Cx) (H : Hp) (s : Shared) (v : Value) (n : Int) (ms : List Int) (m : Int) : Prop where
 ex : ∃ (a b : Addr) (t t3 : Tok) (o : Obj) (k : Nat) (its : List Value) (bs : List Addr),v = .ref a/\s.heap.get? a = some o/\o.cls = .type "tuple"/\o.data = .seq [.int n t,.ref b,.int m t3].toArray k/\PlainL s.heap b its.toArray/\IntsAre its ms/\Reads s.heap (.ref b) (.list (ms.map PyData.int)) bs/\n = (ms.length : Int)
theorem zVG {v : V} {u : Value} {n : Int} {ms : List Int} {m : Int} (I : Inv X pins σ H s) (h : DV X.K H v (.tuple [.int n,.list (ms.map PyData.int),.int m])) (r : RelV v u) (hn : n = (ms.length : Int)) : KeyAt3 X H s u n ms m:=by
 generalize hd : PyData.tuple [.int n,.list (ms.map PyData.int),.int m] = d at h
 cases h with
 | @tup a xs ds hq hs =>
  cases hd
  cases r
  obtain ⟨its,rv,⟨o,e,c,k,d⟩,_⟩:=I.tuple hq
  cases hs with
  | cons h1 t =>
   cases t with
   | cons h2 t2 =>
    cases t2 with
    | cons h3 t3 =>
     cases t3
     generalize hd1 : PyData.int n = d1 at h1
     cases h1 with
     | int i =>
      cases hd1
      generalize hd3 : PyData.int m = d3 at h3
      cases h3 with
      | int j =>
       cases hd3
       generalize hd2 : PyData.list (ms.map PyData.int) = d2 at h2;have h2':=h2
       cases h2 with
       | @lst b ys es hq2 hs2 =>
        cases hd2
        have ey:=DVs.ints_inv hs2;subst ey
        cases rv with
        | cons r1 rr =>
         cases rr with
         | cons r2 rr2 =>
          cases rr2 with
          | cons r3 rr3 =>
           cases rr3
           obtain ⟨t,rfl⟩:=r1;obtain ⟨t',rfl⟩:=r3
           cases r2
           obtain ⟨its2,rv2,p2,_⟩:=I.list hq2;obtain ⟨bs,q⟩:=DV.reads I h2' (u := .ref b) rfl;exact ⟨a,b,t,t',o,k,its2,bs,rfl,e,c,d,p2,zGP rv2,q,hn⟩
       | _=>cases hd2
      | _=>cases hd3
     | _=>cases hd1
 | _=>cases hd
theorem zK6 : ∀ {ms ks : List Int} {m k : Int},ms.length = ks.length -> HT.lexLt (ms++[m]) (ks++[k]) = if ms = ks then decide (m < k) else HT.lexLt ms ks
 | [],[],m,k,_=>by
  rw [yAK rfl,yET,yET,HT.lexLt_cons]
  by_cases h : m = k
  ·rw [yAK h,zH2]
   exact (yAL (by lia)).symm
  ·rw [yAN h]
 | a::ms,b::ks,m,k,h=>by
  rw [yEK,yEK,HT.lexLt_cons,HT.lexLt_cons]
  by_cases e : a = b
  ·rw [yAK e,yAK e,zK6 (by simpa using h)]
   by_cases e2 : ms = ks
   ·rw [yAK e2,yAK (by rw [e,e2])]
   ·rw [yAN e2,yAN (λz=>e2 (List.cons.inj z).2)]
  ·rw [yAN e,yAN e,yAN (λz=>e (List.cons.inj z).1)]
theorem zSG {A : Around} {E : Value -> Shared -> Prop} {u v : Value} {n n' m m' : Int} {ms ks : List Int} {C : Bool -> Shared -> Prop} (hu : A.units + 10 < cLine) (h1 : KeyAt3 X H s u n ms m) (h2 : KeyAt3 X H s v n' ks m') (h : C (zB2 (n,ms++[m]) (n',ks++[m'])) s) :
  wpAny (model X.prog X.w) A (keyLt' (tuples' true) u v) C E s:=by
 obtain ⟨a,b,t,t3,o,k,its,bs,rfl,e,c,d,p,ia,rd,l1⟩:=h1.ex;obtain ⟨a',b',t',t3',o',k',its',bs',rfl,e',c',d',p',ia',rd',l2⟩:=h2.ex;refine kat_lt e d e' d' (kat_cons (yDH n t n' t' _ _ _ _ ?_));refine kat_go (λz => ?_) (λz => ?_)
 ·have en : n = n':=by simpa using z
  subst en;have hl : ms.length = ks.length:=by lia
  have hk : zB2 (n,ms++[m]) (n,ks++[m']) = if ms = ks then decide (m < m') else HT.lexLt ms ks:=by unfold zB2; rw [yAK rfl]; exact zK6 hl
  rw [hk] at h;refine kat_yes (kat_cons (SeqAt.eqAt_reads _ _ A s _ _ _ _ rd rd' ?_ ?_ ?_ _ _ _ _ ?_))
  ·show PyData.canLayAll0 (ms.map PyData.int) = true
   exact zC5 ms
  ·show PyData.canLayAll0 (ks.map PyData.int) = true
   exact zC5 ks
  ·have q : (PyData.list (ms.map PyData.int)).depth <= 2:=zJT ms
   have:=yES (PyData.list (ms.map PyData.int)).depth (PyData.list (ks.map PyData.int)).depth
   lia
  ·have eq1 : PyData.eqv (.list (ms.map PyData.int)) (.list (ks.map PyData.int)) = decide (ms = ks):=by
    rw [PyData.eqv]; exact ked_eqvAll ms ks
   refine kat_go (λy => ?_) (λy => ?_)
   ·rw [eq1] at y
    have em:=yAl y;rw [yAK em] at h;refine kat_yes (kat_cons (yDH m t3 m' t3' _ _ _ _ ?_));refine kat_go (λx => ?_) (λx => ?_)
    ·have e3 : m = m':=by simpa using x
     rw [yAL (by lia)] at h;exact kat_yes (kat_nil h)
    ·refine kat_no (kat_one _ _ ?_)
     exact lt_int h
   ·rw [eq1] at y
    rw [yAN (λz=>by rw [yAZ z] at y; cases y)] at h;refine kat_no (kat_one _ _ ?_);exact zMI (xs:=its.toArray) (ys:=its'.toArray) p p' ia ia' (by lia) (by lia) h
 ·have en : ¬ n = n':=by simpa using z
  have hk : zB2 (n,ms++[m]) (n',ks++[m']) = decide (n < n'):=by unfold zB2; rw [yAN en]
  rw [hk] at h;exact kat_no (oneLt_int h)
noncomputable def zZ9 (a : Int × List Int) : Prop:=∃ ms m,a.2 = ms++[m]/\a.1 = (ms.length : Int)
theorem zY0 : NForm X (λH v=>DV X.K H v (zQ4 (kf v))/\zZ9 (kf v)) kf (λH s u k=>∃ ms m,k.2 = ms++[m]/\KeyAt3 X H s u k.1 ms m) where
 at_:=λ{_ _ _ _ v _} I g r=>by
  obtain ⟨d,ms,m,e,hn⟩:=g;refine ⟨ms,m,e,zVG I ?_ r hn⟩;unfold zQ4 at d;rw [e,List.dropLast_concat,List.getLastD_concat] at d;exact d
 ex:=λ⟨_,_,_,q⟩=>let ⟨a,b,t,_,o,k,_,_,h1,h2,h3,h4,_⟩:=q.ex; ⟨a,_,t,o,_,k,h1,h2,h3,h4,rfl⟩
 cmp:=λ{_ _ _ _ _ _ a b _} hu ⟨ms,m,e,q⟩ ⟨ks,k,e',q'⟩ c=>by
  obtain ⟨a1,a2⟩:=a;obtain ⟨b1,b2⟩:=b
  cases e
  cases e'
  exact zSG hu q q' c
end
end L2
namespace L2E
open PySem
section
variable {h : Heap} {g : Array GenState} {d : Drawn} {t : Nat} {os : OsState} {prog : Program} {w : World} {A : Around} {E : Value -> Shared -> Prop}
variable {nm q : Str} {C N : Addr} {bs bm bmN : List Value} {hdct : Bool} {sn : List Str} {sub : List Value} {ab : Bool} {col : Option Bool} {dd : Option Addr} {k0 k1 k2 k3 k5 : Option Value} {Bn newId inN : String}
structure Tail (bm : List Value) (Bn : String) : Prop where
 base : bm.contains (.type Bn) = true
 attr : bm.contains (.type "AttributeError") = false
 name : bm.contains (.type "NameError") = false
theorem Tail.has {bm : List Value} {Bn : String} (T : Tail bm Bn) (C : Addr) : (Value.ref C::bm).contains (.type Bn) = true:=by rw [yAq,T.base,yDE]
theorem Tail.noA {bm : List Value} {Bn : String} (T : Tail bm Bn) (C : Addr) : (Value.ref C::bm).contains (.type "AttributeError") = false:=by rw [yAq,T.attr]; rfl
theorem Tail.noN {bm : List Value} {Bn : String} (T : Tail bm Bn) (C : Addr) : (Value.ref C::bm).contains (.type "NameError") = false:=by rw [yAq,T.name]; rfl
theorem zLZ (Fn : ExcBaseFacts Bn newId inN bmN) (T : Tail bm Bn) {M : Model} {us : List Value} {Q : Unit -> Shared -> Prop} (at_ : h.get? C = some (excClassObj nm q C N bs bm hdct sn sub ab col dd k0 k1 k2 k3 k5 newId))
  (z : Q () ⟨h,g,d,t,os⟩) : wpAny M A (checkBuiltinCall newId ⟨.ref C::us,[]⟩) Q E ⟨h,g,d,t,os⟩:=by
 have c1:=T.has C;have c2:=Fn.noStar;simp only [Fn.newKind,Fn.newSplit,Fn.newRow,checkBuiltinCall]
 repeat (first | refine yAR at_ ?_ | (refine yBt at_ ?_; rw [c1]) | refine wpAny_staticBase_exc at_ ?_ | refine wpAny_madeBy_exc at_ ?_ | simp only [bne_self_eq_false,yBK,yCb] | wp_step)
 exact z
theorem zX5 (Fn : ExcBaseFacts Bn newId inN bmN) (T : Tail bm Bn) {R : Result -> Shared -> Prop} {us : List Value} (at_ : h.get? C = some (excClassObj nm q C N bs bm hdct sn sub ab col dd k0 k1 k2 k3 k5 newId))
  (z : R (.ok (.ret (.ref (h.objs.size + 1)))) ⟨(h.push { cls := .type "tuple",data := .seq us.toArray }).push { cls := .ref C,data := .fields #[.ref h.objs.size,.none,.none,.none,.bool false,.none] },g,d,t,os⟩) (few : us.length <= sizeLine) :
  codeAny (model prog w) A (.builtin newId ⟨.ref C::us,[]⟩) R ⟨h,g,d,t,os⟩:=by
 have c0:=Fn.ends;have c1:=T.has C;have c2:=T.noA C;have c3:=T.noN C;refine codeAny_builtinAt Fn.entry ?_; unfold Builtin.«BaseException.__new__»;refine wpAt_bind ?_; show wpAt _ _ _ (stack >>= _) _ _ _;refine wpAt_bind (wpAt_stack λ_ _=>wpAt_of_wpAny ?_)
 wp_walk
 refine wpAt_of_wpAny ?_;rw [Fn.owner]
 repeat (first | with_reducible refine wpAny_madeHere_exc Fn.canon at_ ?_ | with_reducible refine yAR at_ ?_ | (with_reducible refine yBt at_ ?_; first | rw [c1] | rw [c2] | rw [c3]) | wp_step)
 show R _ _;rw [yCi];exact z
noncomputable def Finds (h : Heap) (C : Addr) (x : Str) (v : Option Value) : Prop:=∀ (M : Model) (A : Around) (E : Value -> Shared -> Prop) (Q : Option Value -> Shared -> Prop) (g : Array GenState) (d : Drawn) (t : Nat) (os : OsState),Q v ⟨h,g,d,t,os⟩ -> wpAny M A (typeLookup (.ref C) x) Q E ⟨h,g,d,t,os⟩
noncomputable def laid (h : Heap) (C : Addr) (us : List Value) : Heap:=(h.push { cls := .type "tuple",data := .seq us.toArray }).push { cls := .ref C,data := .fields #[.ref h.objs.size,.none,.none,.none,.bool false,.none] }
theorem laid_old {h : Heap} {C : Addr} {us : List Value} {b : Addr} {o : Obj} (e : h.get? b = some o) : (laid h C us).get? b = some o:=yAD _ (yAD _ e)
theorem laid_new {h : Heap} {C : Addr} {us : List Value} : (laid h C us).get? (h.objs.size + 1) = some { cls := .ref C,data := .fields #[.ref h.objs.size,.none,.none,.none,.bool false,.none] }:=by unfold laid; heap_get
theorem zRJ (Fn : ExcBaseFacts Bn newId inN bmN) (T : Tail bm Bn) {us : List Value} {f : Addr} {of : Obj} {Q : Fin -> Shared -> Prop} (at_ : h.get? C = some (excClassObj nm q C N bs bm hdct sn sub ab col dd k0 k1 k2 k3 k5 newId))
  (hi : Finds (laid h C us) C "__init__" (some (.ref f))) (hf : h.get? f = some of) (hc : of.cls = .type "function") (few : us.length <= sizeLine)
  (z : wpAny (model prog w) A (call (.ref f) (.ref (h.objs.size + 1)::us)) (λr s'=>r = .none/\Q (.done (.ret (.ref (h.objs.size + 1)))) s') E ⟨laid h C us,g,d,t,os⟩) :
  wpAny (model prog w) A (Builtin.«type.__call__» ⟨.ref C::us,[]⟩) Q E ⟨h,g,d,t,os⟩:=by
 repeat (first | with_reducible refine yAR at_ ?_ | with_reducible refine wpAny_madeBy_exc at_ ?_ | wp_step)
 refine codeAny_call_builtin_code (yCo _ Fn.quiet) (zLZ Fn T at_ ?_);refine zX5 Fn T at_ ?_ few;show wpAny _ _ _ _ _ ⟨laid h C us,g,d,t,os⟩;have a1:=laid_old (C:=C) (us:=us) at_;have a2:=laid_new (h:=h) (C:=C) (us:=us);have self : (Value.ref C::bm).contains (.ref C) = true:=by simp
 unfold isInstance
 repeat (first | with_reducible refine yAR a2 ?_ | (with_reducible refine yBt a1 ?_; rw [self]) | wp_step)
 refine (show wpAny _ _ (typeLookup (.ref C) _) _ _ _ from hi _ _ _ _ _ _ _ _ ?_);refine yBd (yAA ?_); unfold bindSpecial;refine yAA (yDm (T:="function") ⟨_,laid_old hf,hc⟩ ?_);rw [yAK (by decide)];refine yAH (yAA (yBO z (λr s' hr => ?_) λ_ _ x=>x));obtain ⟨rfl,y⟩:=hr
 wp_walk
 exact y
theorem callErr (Fn : ExcBaseFacts Bn newId inN bmN) (T : Tail bm Bn) {us : List Value} {f : Addr} {of : Obj} {Q : Value -> Shared -> Prop} (at_ : h.get? C = some (excClassObj nm q C N bs bm hdct sn sub ab col dd k0 k1 k2 k3 k5 newId))
  (hi : Finds (laid h C us) C "__init__" (some (.ref f))) (hf : h.get? f = some of) (hc : of.cls = .type "function") (few : us.length <= sizeLine)
  (z : wpAny (model prog w) (A.under (.builtin "type.__call__" ⟨.ref C::us,[]⟩)) (call (.ref f) (.ref (h.objs.size + 1)::us)) (λr s'=>r = .none/\Q (.ref (h.objs.size + 1)) s') E ⟨laid h C us,g,d,t,os⟩) :
  wpAny (model prog w) A (call (.ref C) us) Q E ⟨h,g,d,t,os⟩:=by
 have b1:=tc_lookup;have b2:=tc_bind (.ref C);have b3 : (⟨h,g,d,t,os⟩ : Shared).TypeIs (.ref C) "type":=⟨_,at_,rfl⟩;refine yDf (codeAny_of_tree ?_); show wpAny _ _ (callAny (.ref C) _) _ _ _
 repeat (any_goals (first | assumption | with_reducible refine yAR at_ ?_ | wp_step))
 refine ⟨rfl,?_⟩;exact codeAny_call_builtin_at (yCo _ (by decide +kernel)) entry_typeCall (wpAny_check_type_call_sub at_ (zRJ Fn T at_ hi hf hc few z))
end
end L2E
namespace L2E
open PySem
section
variable {h : Heap} {g : Array GenState} {d : Drawn} {t : Nat} {os : OsState} {prog : Program} {w : World} {A : Around} {E : Value -> Shared -> Prop}
variable {nm q : Str} {C N : Addr} {bs bm bmB : List Value} {hdct : Bool} {sn : List Str} {sub : List Value} {ab : Bool} {col : Option Bool} {dd : Option Addr} {k0 k1 k2 k3 k5 : Option Value} {B nid newId initId : String}
theorem zJD (F : ExcBaseFacts B nid initId bmB) (hB : bm.contains (.type B) = true) {M : Model} {e : Addr} {oe : Obj} {us : List Value} {Q : Unit -> Shared -> Prop}
  (at_ : h.get? C = some (excClassObj nm q C N bs bm hdct sn sub ab col dd k0 k1 k2 k3 k5 newId)) (he : h.get? e = some oe) (hc : oe.cls = .ref C) (z : Q () ⟨h,g,d,t,os⟩) :
  wpAny M A (checkBuiltinCall initId ⟨.ref e::us,[]⟩) Q E ⟨h,g,d,t,os⟩:=by
 have c1 : (Value.ref C::bm).contains (.type B) = true:=by rw [yAq,hB,yDE]
 have c2:=F.noStar;simp only [F.initKind,F.initSplit,F.initRow,checkBuiltinCall]
 repeat (first | (with_reducible refine yAR he ?_; rw [hc]) | with_reducible refine yAR at_ ?_ | (with_reducible refine yBt at_ ?_; rw [c1]) | wp_step)
 refine wpAny_onRaise ?_;have same : ∀ (a b : String) (n : Nat),Bind.check ⟨.positional,"*",B,.self,[⟨"args",.varPos,false⟩]⟩ a b n (List.map (λx=>x.fst) ({ pos:=Value.ref e::us } : Args).kw) = pure ():=λa b n=>check_star_args _ _ _ _ _ _;rw [same];exact yAH z
theorem initErr (F : ExcBaseFacts B nid initId bmB) (hB : bm.contains (.type B) = true) {e t0 : Addr} {de : Option Addr} {us : List Value} {Q : Value -> Shared -> Prop}
  (at_ : h.get? C = some (excClassObj nm q C N bs bm hdct sn sub ab col dd k0 k1 k2 k3 k5 newId)) (he : h.get? e = some { cls := .ref C,dict:=de,data := .fields #[.ref t0,.none,.none,.none,.bool false,.none] }) (few : us.length <= sizeLine)
  (z : ∀ h',(∀ b o,b≠e -> h.get? b = some o -> h'.get? b = some o) -> h'.get? e = some { cls := .ref C,dict:=de,data := .fields #[.ref h.objs.size,.none,.none,.none,.bool false,.none] } -> h'.get? h.objs.size = some { cls := .type "tuple",data := .seq us.toArray } -> Q .none ⟨h',g,d,t,os⟩) :
  wpAny (model prog w) A (call (.builtin initId) (.ref e::us)) Q E ⟨h,g,d,t,os⟩:=by
 refine yDf (yCE F.init.plain F.initEntry (zJD F hB at_ he rfl ?_))
 wp_walk
 have le : e < h.objs.size:=yAI he;have he2:=yAD { cls := .type "tuple",data := .seq us.toArray } he;refine z _ (λb o n hb => ?_) ?_ ?_
 ·rw [yBG _ _ n.symm]
  exact yAD _ hb
 ·rw [yCR _ he2 rfl]
  rfl
 ·rw [yBG _ _ (yAh le)]
  exact Heap.get?_push_at rfl rfl
end
end L2E
namespace L2E
open PySem PySem.Builtin.ObjectAttr
section
variable {h : Heap} {g : Array GenState} {d : Drawn} {t : Nat} {os : OsState} {prog : Program} {w : World} {A : Around} {E : Value -> Shared -> Prop}
variable {nm q : Str} {C N x : Addr} {bs bm bmB : List Value} {sn : List Str} {sub : List Value} {ab : Bool} {col : Option Bool} {dd : Option Addr} {k0 k1 k2 k3 k5 : Option Value} {B newId sa owner : String} {name : Str} {v : Value}
theorem zNV {M : Model} {o : Obj} {nameV : Value} {Q : Unit -> Shared -> Prop} (SF : StoreFacts B bmB sa owner) (own : bm.contains (.type owner) = true)
  (at_ : h.get? C = some (excClassObj nm q C N bs bm true sn sub ab col dd k0 k1 k2 k3 k5 newId)) (hx : h.get? x = some o) (hc : o.cls = .ref C) (z : Q () ⟨h,g,d,t,os⟩) : wpAny M A (checkBuiltinCall sa ⟨[.ref x,nameV,v],[]⟩) Q E ⟨h,g,d,t,os⟩:=by
 have c1 : (Value.ref C::bm).contains (.type owner) = true:=by rw [yAq,own,yDE]
 have c2:=SF.args (.ref x) nameV v;simp only [SF.kind,SF.split,checkBuiltinCall];refine yAA ?_;unfold isInstance
 repeat (first | (with_reducible refine yAR hx ?_; rw [hc]) | (with_reducible refine yBt at_ ?_; rw [c1]) | wp_step)
 cases sg : Manifest.signature? sa with
 | none=>exact yAH z
 | some s0 =>
  simp only [argsOk,sg] at c2;have c3 : Bind.checkArgs sa s0 ⟨[.ref x,nameV,v],[]⟩ = pure ():=c2;refine (show wpAny M A (Bind.checkArgs sa s0 ⟨[.ref x,nameV,v],[]⟩) Q E _ from ?_);rw [c3]; exact yAH z
noncomputable def zIU (o : Obj) (a : Addr) : Obj:={ cls:=o.cls,dict:=some a,data:=o.data,slots:=o.slots }
theorem zR4 {tk : Tok} {Q : Fin -> Shared -> Prop} {o : Obj} (at_ : h.get? C = some (excClassObj nm q C N bs bm true sn sub ab col dd k0 k1 k2 k3 k5 newId)) (pass : refuseLoop (.ref x) "__setattr__" bm = pure ()) (fn : Finds h C name none)
  (hx : h.get? x = some o) (hc : o.cls = .ref C) (hd : o.dict = none) (hnc : ∀ c,o.data ≠ .cls c)
  (z : ∀ h' tk',h'.get? x = some (zIU o h.objs.size) -> h'.Ns1 h.objs.size (λy=>if y = name then some v else none) -> (∀ b o,b≠x -> h.get? b = some o -> h'.get? b = some o) -> Q (.done (.ret .none)) ⟨h',g,d,tk',os⟩) :
  wpAny (model prog w) A (Builtin.«object.__setattr__» ⟨[.ref x,.str name tk,v],[]⟩) Q E ⟨h,g,d,t,os⟩:=by
 unfold Builtin.«object.__setattr__»
 repeat (first | rw [refuse_eq] | (rw [refuseLoop_ref,pass]) | (with_reducible refine yAR hx ?_; rw [hc]) | with_reducible refine wpAny_mroOf_exc at_ ?_ | wp_step)
 refine fn _ _ _ _ _ _ _ _ ?_
 repeat (first | (with_reducible refine yAR hx ?_; rw [hc]) | with_reducible refine yAR hx ?_ | wp_step)
 rw [hd,yAN (by simp [typeHasDict])]
 split
 ·rename_i y; cases y
 split
 ·rename_i c y; exact absurd y (hnc c)
 have x1 : (h.push { cls := .type "dict",data := .dict #[] }).get? x = some o:=yAD _ hx;have ne : x≠h.objs.size:=yAh (yAI hx);refine yAA (wpAny_alloc' (yAA (wpAny_update' x1 (yAH ?_))));have y1 : ((h.push { cls := .type "dict",data := .dict #[] }).update x λo=>zIU o h.objs.size).get? h.objs.size = some { cls := .type "dict",data := .dict #[] }:=(yBN _ _ _ _ ne.symm).trans (Heap.get?_push_at rfl rfl);have y2 : ((h.push { cls := .type "dict",data := .dict #[] }).update x λo=>zIU o h.objs.size).Ns h.objs.size (λ_=>none):=⟨_,#[],_,y1,rfl,λe he=>absurd he (by simp),λ_=>rfl⟩;refine (show wpAny _ _ (storeInDict h.objs.size (.str name tk) name v) _ _ ⟨(h.push { cls := .type "dict",data := .dict #[] }).update x λo=>zIU o h.objs.size,_,_,_,_⟩ from ?_);unfold storeInDict newKeyGuard;refine yAA (yAH (yAA (wpAny_nsSet1 (Heap.Ns1.of_empty y2) λh2 n2 s2 => ?_)));obtain ⟨o3,e3,p3,a3,b3,c3⟩:=n2.count (Within.cons name v Within.nil);refine yAA (wpAny_lookBehind a3 (by rw [b3]; exact pastItsLine_dict (yAz c3 (by rw [yBP,yCs,sizeLine_eq]; lia))) ?_)
 wp_walk
 refine z h2 _ ?_ n2 λb ob n hb => ?_
 ·refine (s2.2 x ne).trans (yCR _ x1 ?_)
  have fr:=(Heap.get?_some_iff.mp hx).2;obtain ⟨oc,od,odt,osl⟩:=o
  cases odt <;> first | rfl | exact fr
 ·exact (s2.2 b (yAh (yAI hb))).trans ((yBN _ _ _ _ n).trans (yAD _ hb))
theorem setErr {Q : Unit -> Shared -> Prop} {o : Obj} (SF : StoreFacts B bmB sa owner) (own : bm.contains (.type owner) = true) (at_ : h.get? C = some (excClassObj nm q C N bs bm true sn sub ab col dd k0 k1 k2 k3 k5 newId)) (pass : refuseLoop (.ref x) "__setattr__" bm = pure ())
  (fs : Finds h C "__setattr__" (some (.builtin sa))) (fn : Finds h C name none) (hx : h.get? x = some o) (hc : o.cls = .ref C) (hd : o.dict = none) (hnc : ∀ c,o.data ≠ .cls c)
  (z : ∀ h' tk',h'.get? x = some (zIU o h.objs.size) -> h'.Ns1 h.objs.size (λy=>if y = name then some v else none) -> (∀ b o,b≠x -> h.get? b = some o -> h'.get? b = some o) -> Q () ⟨h',g,d,tk',os⟩) :
  wpAny (model prog w) A (setAttr (.ref x) name v) Q E ⟨h,g,d,t,os⟩:=by
 have b1:=SF.slot.bind (.ref x);unfold setAttr callSpecial? specialOf
 repeat (any_goals (first | assumption | (with_reducible refine yAR hx ?_; rw [hc]) | wp_step))
 refine fs _ _ _ _ _ _ _ _ ?_
 repeat (any_goals (first | assumption | (with_reducible refine yAR hx ?_; rw [hc]) | wp_step))
 refine yCE SF.slot.plain SF.entry (zNV SF own at_ hx hc (zR4 at_ pass fn hx hc hd hnc λh' tk' y1 y2 y3 => ?_))
 repeat (any_goals (first | assumption | wp_step))
 exact z h' tk' y1 y2 y3
end
end L2E
namespace L2E
open PySem
section
variable {A : Around} {E : Value -> Shared -> Prop} {env : Env} {M : Model}
variable {nm q : Str} {C N : Addr} {bs bm : List Value} {hdct : Bool} {sn : List Str} {sub : List Value} {ab : Bool} {col : Option Bool} {dd : Option Addr} {k0 k1 k2 k3 k5 : Option Value} {newId : String}
theorem raiseErr {s : Shared} {x : Sem Value} {Q : Flow -> Shared -> Prop} (base : bm.contains (.type "BaseException") = true) (calm : A.handled = none)
  (h : wpAny M A x (λv s1=>∃ e dx ta sl,v = .ref e/\s1.heap.get? C = some (excClassObj nm q C N bs bm hdct sn sub ab col dd k0 k1 k2 k3 k5 newId)/\s1.heap.get? e = some { cls := .ref C,dict:=dx,data := .fields #[.ref ta,.none,.none,.none,.bool false,.none],slots:=sl }/\E (.ref e) s1) E s) :
  wpAny M A (raiseStmt env (some x) none) Q E s:=by
 have c1 : (Value.ref C::bm).contains (.type "BaseException") = true:=by rw [yAq,base,yDE]
 unfold raiseStmt;refine yAA (yBO h (λv s1 h1 => ?_) λ_ _ y=>y);obtain ⟨e,dx,ta,sl,rfl,at_,he,z⟩:=h1;obtain ⟨hp,g,d,tk,os⟩:=s1
 repeat (first | with_reducible refine yAR he ?_ | with_reducible refine yAR at_ ?_ | (with_reducible refine yBt at_ ?_; rw [c1]) | wp_step)
 exact wpAny_raiseNew_none calm z
end
end L2E
namespace L2E
open PySem
section
variable {M : Model} {A : Around} {E : Value -> Shared -> Prop} {s : Shared}
structure Off (h h' : Heap) (e : Addr) (oe : Obj) (vs : Array Value) (l : List Env) (T : Addr) : Prop where
 fresh : h.objs.size <= T
 err : h'.get? e = some { oe with data := .fields (vs.setIfInBounds 1 (.ref T)) }
 tb : ∃ oT ts,h'.get? T = some oT/\oT.data = .fields ts/\ts[3]? = some .none
 keep : ∀ b o,b≠e -> vs[1]? ≠ some (.ref b) -> b∉L2.frs l -> h.get? b = some o -> h'.get? b = some o
 slot : ∀ b o,b∈L2.frs l -> h.get? b = some o -> ∃ sl,h'.get? b = some { o with slots:=sl }
theorem zIB {o : Obj} {vs : Array Value} (hd : o.data = .fields vs) (f : Array Value -> Array Value) : o.mapFields f = { o with data := .fields (f vs) }:=by
 obtain ⟨c,d,dt,sl⟩:=o;simp only at hd;subst hd;rfl
theorem zLJ {base : Heap} {env : Env} {outer : List Env} {L e : Addr} {oe : Obj} {vs : Array Value} {head : Value} {hadNext : Bool} {Q : Unit -> Shared -> Prop}
  (hfr : A.frames = some (env::outer)) (hl : s.heap.FunFrames base (env::outer)) (hf : env.frame = some L)
  (he : s.heap.get? e = some oe) (hd : oe.data = .fields vs) (hsz : 1 < vs.size)
  (h : ∀ h' T,s.heap.objs.size <= T -> h'.get? e = some { oe with data := .fields (vs.setIfInBounds 1 (.ref T)) } -> (∃ oT ts,h'.get? T = some oT/\oT.data = .fields ts/\ts[3]? = some .none) ->
   (∀ b o,b≠e -> b∉L2.frs (env::outer) -> s.heap.get? b = some o -> h'.get? b = some o) -> (∀ b o,b∈L2.frs (env::outer) -> s.heap.get? b = some o -> ∃ sl,h'.get? b = some { o with slots:=sl }) -> Q () { s with heap:=h' }) :
  wpAny M A (do let a <- frameOf env; let pl <- entryPlaceOf L hadNext; let b <- EntryCells.newEntry head a .none (rawInt L) .none pl; setField (.ref e) 1 b) (λ_ s'=>wpAny M A (setFlight (.ref e) none) Q E s') E s:=by
 have hene : e∉(env::outer).filterMap (·.frame):=λhm=>by
  obtain ⟨_,o,ho,hnf⟩:=hl.mem hm;rw [he] at ho; injection ho with ho; subst ho; exact hnf vs hd
 refine yAA (wpAny_frameOf_fun hfr hl hf λh₁ hs₁ => ?_);refine yAA (wpAny_entryPlaceOf λpl hpl => ?_);unfold EntryCells.newEntry newFields;refine yAA (yBQ ?_ (hpl.sizeOk5 _ _ _ _ _));have he₁ : h₁.get? e = some oe:=(hs₁.2.1 e hene).trans he;have he₂ := yAD (h:=h₁) { cls := .type "traceback",dict:=none,data := .fields ([head,.ref L,.none,rawInt L,.none]++(if pl.isEmpty then List.replicate 6 Value.none else pl)).toArray } he₁;refine yDt he₂ hd hsz ?_;have hTe : h₁.objs.size≠e:=yBi (yAI he₁);have hd₃ := yDJ hd (·.setIfInBounds 1 (Value.ref h₁.objs.size));have he₃ := yCR (Obj.mapFields (·.setIfInBounds 1 (Value.ref h₁.objs.size))) he₂ (yEQ hd₃)
 have hT₃ := (yBG (h₁.push { cls := .type "traceback",dict:=none,data := .fields ([head,.ref L,.none,rawInt L,.none]++(if pl.isEmpty then List.replicate 6 Value.none else pl)).toArray })
  (Obj.mapFields (·.setIfInBounds 1 (Value.ref h₁.objs.size))) (Ne.symm hTe)).trans (yAY h₁ rfl)
 unfold setFlight;refine yAA (yCA he₃ hd₃ (x := .ref h₁.objs.size) (by simp [hsz]) ?_);rw [yAK (show (Value.ref h₁.objs.size != Value.none) = true from by simp)];have hsz1 : s.heap.objs.size <= h₁.objs.size:=Nat.le_of_eq hs₁.1.symm
 have keep : ∀ b o,b≠e -> h₁.get? b = some o ->
   (((h₁.push { cls := .type "traceback",dict:=none,data := .fields ([head,.ref L,.none,rawInt L,.none]++(if pl.isEmpty then List.replicate 6 Value.none else pl)).toArray }).update e (Obj.mapFields (·.setIfInBounds 1 (Value.ref h₁.objs.size)))).update h₁.objs.size
    (Obj.mapFields (·.setIfInBounds 3 ((none : Option Addr).elim Value.none λf=>rawInt f)))).get? b = some o:=λb o hbe hb=>by
  have hbT : h₁.objs.size≠b:=yBi (yAI hb);rw [yBG _ _ hbT,yBG _ _ (Ne.symm hbe)];exact yAD _ hb
 refine yDt hT₃ rfl (by simp only [yAF,yAU,yBP,yCs] <;> lia) (h _ h₁.objs.size hsz1 ?_ ?_ (λb o hb hn q => ?_) λb o hb q => ?_)
 ·rw [yBG _ _ hTe,he₃,zIB hd]
 ·exact ⟨_,_,yCR _ hT₃ (yEQ (yDJ rfl _)),yDJ rfl _,by first | (simp; done) | (rcases hpl with rfl | ⟨_,_,_,_,_,_,_,rfl⟩ <;> simp)⟩
 ·exact keep b o hb ((hs₁.2.1 b hn).trans q)
 ·obtain ⟨sl,hs⟩:=hs₁.2.2 b o q
  exact ⟨sl,keep b _ (λz=>hene (z ▸ hb)) hs⟩
theorem noteOff {base : Heap} {env : Env} {outer : List Env} {L e : Addr} {oe : Obj} {vs : Array Value} {Q : Unit -> Shared -> Prop}
  (hfr : A.frames = some (env::outer)) (hl : s.heap.FunFrames base (env::outer)) (hf : env.frame = some L)
  (he : s.heap.get? e = some oe) (hd : oe.data = .fields vs)
  (hv : vs[1]? = some .none \/ ∃ T oT ts,vs[1]? = some (.ref T)/\T≠e/\s.heap.get? T = some oT/\oT.data = .fields ts/\ts[3]? = some .none)
  (h : ∀ h' T,Off s.heap h' e oe vs (env::outer) T -> Q () { s with heap:=h' }) :
  wpAny M A (noteFrame (.ref e) env) (λ_ s'=>wpAny M A (setFlight (.ref e) none) Q E s') E s:=by
 unfold noteFrame;simp only [hf]
 rcases hv with h1 | ⟨T,oT,ts,h1,hTe,hT,hdT,h3⟩
 ·refine yAA (yCA he hd h1 ?_)
  rw [yAN (by decide)];exact zLJ hfr hl hf he hd (yBV.mp h1).1 λh' T a1 a2 a3 a4 a5=>h h' T ⟨a1,a2,a3,λb o hb _ hn q=>a4 b o hb hn q,a5⟩
 ·refine yAA (yCA he hd h1 ?_)
  rw [yAK (show (Value.ref T != Value.none) = true from by simp)];refine yAA (yCA hT hdT h3 ?_);rw [yAN (show ¬ ((Value.none == rawInt L) = true) from by simp [rawInt])];refine yAA (yDt hT hdT (yBV.mp h3).1 ?_);have other : ∀ b,b≠T -> (s.heap.update T (Obj.mapFields (·.setIfInBounds 3 Value.none))).get? b = s.heap.get? b:=λb hb=>yBG _ _ (Ne.symm hb)
  have noRecord : ∀ b o,s.heap.get? b = some o -> (∀ vs,o.data ≠ .fields vs) -> b≠T:=λb o hb hnf q=>by
   rw [q,hT] at hb; injection hb with hb; subst hb; exact hnf ts hdT
  have frT : ∀ b,b∈L2.frs (env::outer) -> b≠T:=λb hb=>by
   obtain ⟨_,o,ho,hnf⟩:=hl.mem hb;exact noRecord b o ho hnf
  refine zLJ (s:={ s with heap:=s.heap.update T (Obj.mapFields (·.setIfInBounds 3 Value.none)) }) hfr (hl.of_keeps λb o hb hnf=>⟨o,(other b (noRecord b o hb hnf)).trans hb,rfl⟩) hf ((other e (Ne.symm hTe)).trans he) hd (yBV.mp h1).1
   λh' T' a1 a2 a3 a4 a5=>h h' T' ⟨by rw [Heap.size_update] at a1; exact a1,a2,a3,λb o hb hbT hn q=>a4 b o hb hn ((other b λz=>hbT (by rw [h1,z])).trans q),λb o hb q=>a5 b o hb ((other b (frT b hb)).trans q)⟩
theorem leaveOff {base : Heap} {env : Env} {outer : List Env} {L e : Addr} {oe : Obj} {vs : Array Value} {Q : Unit -> Shared -> Prop}
  (hfr : A.frames = some (env::outer)) (hl : s.heap.FunFrames base (env::outer)) (hf : env.frame = some L)
  (he : s.heap.get? e = some oe) (hd : oe.data = .fields vs)
  (hv : vs[1]? = some .none \/ ∃ T oT ts,vs[1]? = some (.ref T)/\T≠e/\s.heap.get? T = some oT/\oT.data = .fields ts/\ts[3]? = some .none)
  (h : ∀ h' T,Off s.heap h' e oe vs (env::outer) T -> Q () { s with heap:=h' }) : wpAny M A (leaving env (.ref e)) Q E s:=by
 unfold leaving;exact yAA (noteOff hfr hl hf he hd hv h)
end
end L2E
namespace L2
open PySem PySem.Spec PyProof.Rows
structure Fly (h : Heap) (e C dx T : Addr) : Prop where
 ex : ∃ vs sl,h.get? e = some { cls := .ref C,dict:=some dx,data := .fields vs,slots:=sl }/\vs[1]? = some (.ref T)
 ne : T≠e
 tb : ∃ oT ts,h.get? T = some oT/\oT.data = .fields ts/\ts[3]? = some .none
noncomputable def CXE (P : Program) (w : World) : CXT:=λouter H s E ev s'=>∃ (e C dx T : Addr) (H' : Hp),ev = .ref e/\s'.os = s.os/\AllBare s'.gens/\Un (frs outer) [] H H' s.heap s'.heap/\HOk P w H' s'.heap /\
 Fly s'.heap e C dx T/\s.heap.objs.size <= e/\s.heap.objs.size <= T/\H' e = none/\H' T = none/\E (.ref C) (some dx) H'
section
variable {X : Cx} {pins : List (Addr × Obj)} {σ : St} {H : Hp} {s : Shared} {h' : Heap}
structure Own (X : Cx) (pins : List (Addr × Obj)) (H : Hp) (h : Heap) (b : Addr) : Prop where
 new : X.s₀.heap.objs.size <= b
 free : H b = none
 recd : ∃ o vs,h.get? b = some o/\o.data = .fields vs
 pin : ∀ p∈X.pn++pins,p.1≠b
theorem Inv.off {e T' : Addr} {oe : Obj} {vs : Array Value} (I : Inv X pins σ H s) (hst : X.stack = X.env::X.outer) (hfr : X.env.frame = some X.env.locals)
  (O : L2E.Off s.heap h' e oe vs X.stack T') (oe' : Own X pins H s.heap e) (oT : ∀ T,vs[1]? = some (.ref T) -> Own X pins H s.heap T) : Inv X pins σ H { s with heap:=h' }:=by
 let ch : List Addr:=e::(match (vs[1]? : Option Value) with | some (Value.ref T)=>[T] | _=>[])
 have hch : ∀ b∈ch,Own X pins H s.heap b:=λb hb=>by
  rcases yAd.mp hb with rfl | hb
  ·exact oe'
  ·split at hb
   ·rename_i T hT
    rw [yAJ.mp hb];exact oT T hT
   ·cases hb
 have nch : ∀ b,b∉ch -> b≠e/\vs[1]? ≠ some (.ref b):=λb hb=>⟨λz=>hb (z ▸ yAQ ..),λz=>hb (by
  refine yAP _ ?_;rw [z]; exact yAJ.mpr rfl)⟩
 have frL : frs X.stack = X.env.locals::X.fs:=by
  rw [hst];unfold frs;rw [yBu,hfr]; rfl
 have neL : ∀ b,Own X pins H s.heap b -> b≠X.env.locals:=λb ob z=>by
  obtain ⟨m,⟨o,es,ep,ho,hd,_⟩,_⟩:=I.loc;obtain ⟨o',vs',ho',hd'⟩:=ob.recd;rw [z,ho] at ho'; cases ho'; rw [hd] at hd'; cases hd'
 have neC : ∀ b,Own X pins H s.heap b -> ∀ x c,X.env.cells.lookup x = some c -> c≠b:=λb ob x c hc z=>by
  obtain ⟨v,o,ho,hd⟩:=I.cell x c hc;obtain ⟨o',vs',ho',hd'⟩:=ob.recd;rw [z,ho'] at ho; cases ho; rw [hd'] at hd; cases hd
 refine I.step (g':=s.gens) (d':=s.drawn) (t':=s.toks) (ch:=ch) (λb hb=>⟨.inr (hch b hb).new,neL b (hch b hb),neC b (hch b hb),(hch b hb).pin⟩)
  (λb o hL hb hc q _=>O.keep b o (nch b hc).1 (nch b hc).2 (by rw [frL]; exact λz=>(yAd.mp z).elim hL hb) q)
  (λb o hL hb hc q _=>O.slot b o (by rw [frL]; exact yAP _ hb) q) (λ_ _ _ _ n=>n) (λb o hc q => ?_) (λ_ _ q=>q) (λ_ _ _ q=>q) (λb ps q=>⟨#[],by rw [q]; simp⟩) (λm hm => ?_) (λb u q => ?_) I.bare
 ·by_cases hb : b∈frs X.stack
  ·obtain ⟨sl,z⟩:=O.slot b o hb q
   exact ⟨_,z⟩
  ·exact ⟨o,O.keep b o (nch b hc).1 (nch b hc).2 hb q⟩
 ·obtain ⟨o,es,ep,ho,r⟩:=hm
  obtain ⟨sl,z⟩:=O.slot _ o (by rw [frL]; exact yAQ ..) ho;exact ⟨_,es,ep,z,r⟩
 ·refine (I.hok b u q).stay (λc v hc z => ?_) (λ_ z=>z) λ_ _ z=>z
  have hcn : H c≠none:=by
   rcases hc with rfl | hc
   ·rw [q]; simp
   ·rw [hc]; simp
  refine O.keep c v (λy=>hcn (y ▸ oe'.free)) (λy=>hcn (oT c y).free) (λy=>hcn (I.stkFree c y)) z
end
end L2
namespace L2E
open PySem PySem.Builtin.ObjectAttr
section
variable {prog : Program} {w : World} {A : Around} {E : Value -> Shared -> Prop} {h : Heap} {g : Array GenState} {d : Drawn} {t : Nat} {os : OsState} {a dx : Addr} {o : Obj} {name : Str} {v : Value} {m : Str -> Option Value}
 {nm q : Str} {C N : Addr} {bs bm : List Value} {hdct : Bool} {sn : List Str} {sub : List Value} {ab : Bool} {col : Option Bool} {dd : Option Addr} {k0 k1 k2 k3 k5 : Option Value} {newId : String}
theorem zI4 {M : Model} {nameV : Value} {Q : Unit -> Shared -> Prop} (base : bm.contains (.type "BaseException") = true) (at_ : h.get? C = some (excClassObj nm q C N bs bm hdct sn sub ab col dd k0 k1 k2 k3 k5 newId))
  (hx : h.get? a = some o) (hc : o.cls = .ref C) (hq : Q () ⟨h,g,d,t,os⟩) : wpAny M A (checkBuiltinCall "BaseException.__getattribute__" ⟨[.ref a,nameV],[]⟩) Q E ⟨h,g,d,t,os⟩:=by
 have hk : builtinKind "BaseException.__getattribute__" = some .slot:=by decide +kernel
 have hsplit : splitId "BaseException.__getattribute__" = some ("BaseException","__getattribute__"):=by decide +kernel
 have hcB : (Value.ref C::bm).contains (.type "BaseException") = true:=by rw [yAq,base,yDE]
 have ha:=F.args_bexc_ga (.ref a) nameV;simp only [checkBuiltinCall,hk,hsplit];refine yAA ?_
 ·unfold isInstance
  repeat (first | (with_reducible refine yAR hx ?_; rw [hc]) | (with_reducible refine yBt at_ ?_; rw [hcB]) | wp_step)
  exact hq
theorem zN0 {tk : Tok} {Q : Fin -> Shared -> Prop} (at_ : h.get? C = some (excClassObj nm q C N bs bm true sn sub ab col dd k0 k1 k2 k3 k5 newId)) (fn : Finds h C name none)
  (hx : h.get? a = some o) (hc : o.cls = .ref C) (hnc : ∀ c,o.data ≠ .cls c) (hd : o.dict = some dx) (hns : h.Ns dx m) (hv : m name = some v) (hq : Q (.done (.ret v)) ⟨h,g,d,t,os⟩) :
  wpAny (model prog w) A (Builtin.«object.__getattribute__» ⟨[.ref a,.str name tk],[]⟩) Q E ⟨h,g,d,t,os⟩:=by
 unfold Builtin.«object.__getattribute__»
 repeat (any_goals (first | assumption | (with_reducible refine yAR hx ?_; rw [hc]) | wp_step))
 refine fn _ _ _ _ _ _ _ _ ?_
 repeat (any_goals (first | assumption | (with_reducible refine yAR hx ?_; rw [hc]) | with_reducible refine yAR at_ ?_ | wp_step))
 split
 ·rename_i c hcd
  exact absurd hcd (hnc c)
 unfold instanceDict
 repeat (first | (with_reducible refine yAR hx ?_; rw [hc]) | (with_reducible refine yAR hx ?_; rw [hd]) | with_reducible refine yAR hx ?_ | with_reducible refine yAR at_ ?_ | wp_step)
 rw [hd]
 repeat (first | (with_reducible refine wpAny_nsGet hns ?_; rw [hv]) | wp_step)
 exact hq
theorem zUA {tk : Tok} {fill expr : Bool} {Q : Value -> Shared -> Prop} (base : bm.contains (.type "BaseException") = true) (at_ : h.get? C = some (excClassObj nm q C N bs bm true sn sub ab col dd k0 k1 k2 k3 k5 newId)) (fn : Finds h C name none)
  (fg : Finds h C "__getattribute__" (some (.builtin "BaseException.__getattribute__"))) (fh : Finds h C "__getattr__" none) (bind : ∀ x : Value,bindSpecial (.builtin "BaseException.__getattribute__") x = pure (.builtin "BaseException.__getattribute__",[x]))
  (hx : h.get? a = some o) (hc : o.cls = .ref C) (hnc : ∀ c,o.data ≠ .cls c) (hd : o.dict = some dx) (hns : h.Ns dx m) (hv : m name = some v) (hh : handedOut v = pure v) (hq : Q v ⟨h,g,d,t,os⟩) :
  wpAny (model prog w) A (getAttrBy (.ref a) (.str name tk) fill expr) Q E ⟨h,g,d,t,os⟩:=by
 have f3:=bind (.ref a);have hx0 : (expr&&onTheHeap (Value.builtin "BaseException.__getattribute__")) = false:=by cases expr <;> rfl
 have hx2 : (Value.builtin "BaseException.__getattribute__" == Value.builtin "object.__getattribute__") = false:=by decide +kernel
 have hx1 : (onTheHeap (Value.ref C)&&Value.builtin "BaseException.__getattribute__" == Value.builtin "object.__getattribute__") = false:=by rw [hx2]; rfl
 unfold getAttrBy
 repeat (any_goals (first | assumption | (with_reducible refine yAR hx ?_; rw [hc]) | wp_step))
 refine fg _ _ _ _ _ _ _ _ ?_
 repeat (any_goals (first | assumption | (with_reducible refine yAR hx ?_; rw [hc]) | wp_step))
 refine fh _ _ _ _ _ _ _ _ ?_
 repeat (any_goals (first | assumption | (with_reducible refine yAR hx ?_; rw [hc]) | wp_step))
 refine yCE (by decide +kernel) F.entry_bexc_ga (zI4 base at_ hx hc (zN0 at_ fn hx hc hnc hd hns hv ?_))
 repeat (any_goals (first | assumption | wp_step))
theorem zLB (x : Value) : bindSpecial (.builtin "BaseException.__getattribute__") x = pure (.builtin "BaseException.__getattribute__",[x]):=by kernel_rfl
theorem getErr {expr : Bool} {Q : Value -> Shared -> Prop} (base : bm.contains (.type "BaseException") = true) (at_ : h.get? C = some (excClassObj nm q C N bs bm true sn sub ab col dd k0 k1 k2 k3 k5 newId)) (fn : Finds h C name none)
  (fg : Finds h C "__getattribute__" (some (.builtin "BaseException.__getattribute__"))) (fh : Finds h C "__getattr__" none)
  (hx : h.get? a = some o) (hc : o.cls = .ref C) (hnc : ∀ c,o.data ≠ .cls c) (hd : o.dict = some dx) (hns : h.Ns dx m) (hv : m name = some v) (hh : handedOut v = pure v) (hq : Q v ⟨h,g,d,t + 1,os⟩) :
  wpAny (model prog w) A (getAttr (.ref a) name expr) Q E ⟨h,g,d,t,os⟩:=by
 unfold getAttr
 repeat (any_goals (first | assumption | with_reducible apply zUA base at_ fn fg fh zLB hx hc hnc hd hns hv hh | wp_step))
end
end L2E
namespace L2
open PySem PySem.Spec PyProof.Rows
structure ErrC (K : PySem.W.Frag) (C f : Addr) (bm : List Value) : Prop where
 obj : ∃ nm q N bs sn sub ab col dd k0 k1 k2 k3 k5,K.lookup C = some (excClassObj nm q C N bs bm true sn sub ab col dd k0 k1 k2 k3 k5 "ValueError.__new__")
 init : PySem.W.findIn K (.ref C) "__init__" = some (some (.ref f))
 fn : PySem.W.isFn K (.ref f) = true
 kp : PySem.W.keepIn K (.ref C) = true
 sa : PySem.W.findIn K (.ref C) "__setattr__" = some (some (.builtin "object.__setattr__"))
 ga : PySem.W.findIn K (.ref C) "__getattribute__" = some (some (.builtin "BaseException.__getattribute__"))
 gh : PySem.W.findIn K (.ref C) "__getattr__" = some none
 tail : L2E.Tail bm "ValueError"
 base : bm.contains (.type "BaseException") = true
 own : bm.contains (.type "object") = true
 pass : ∀ x,refuseLoop x "__setattr__" bm = pure ()
theorem zCS {K : PySem.W.Frag} {h : Heap} {C : Addr} {x : Str} {v : Option Value} (X : K.In h) (e : PySem.W.findIn K (.ref C) x = some v) : L2E.Finds h C x v:=λ_ _ _ _ _ _ _ _ z=>(PySem.W.looks_findIn X e).here z
theorem zU8 {K : PySem.W.Frag} {h : Heap} {f : Addr} (X : K.In h) (e : PySem.W.isFn K (.ref f) = true) : ∃ o,h.get? f = some o/\o.cls = .type "function":=by
 have e : (K.lookup f).map (·.cls) = some (.type "function"):=yAe.mp e
 cases q : K.lookup f with
 | none=>rw [q] at e; cases e
 | some o=>rw [q] at e; exact ⟨o,X _ _ q,by injection e⟩
noncomputable def zGI (e C : Addr) (dx : Option Addr) : HO := .ext λh=>∃ t0,h.get? e = some { cls := .ref C,dict:=dx,data := .fields #[.ref t0,.none,.none,.none,.bool false,.none] }
theorem zJX {P : Program} {w : World} {H : Hp} {h : Heap} {e C t0 : Addr} {dx : Option Addr} (he : h.get? e = some { cls := .ref C,dict:=dx,data := .fields #[.ref t0,.none,.none,.none,.bool false,.none] }) : ObjOk P w H h e (zGI e C dx) :=
 ⟨⟨t0,he⟩,⟨_,he⟩,λ_ _ ⟨t,q⟩ k=>⟨t,k _ q⟩⟩
theorem zJ5 {P : Program} {w : World} {H : Hp} {h : Heap} {e C : Addr} {dx : Option Addr} (ok : HOk P w H h) (he : H e = some (zGI e C dx)) : ∃ t0,h.get? e = some { cls := .ref C,dict:=dx,data := .fields #[.ref t0,.none,.none,.none,.bool false,.none] }:=(ok e _ he).1
theorem zRN {H : Hp} {a : Addr} {o : HO} (h : H a = some o) : upd H a o = H:=funext λb=>by
 by_cases e : b = a
 ·subst e; rw [zA1,h]
 ·rw [zA7 e]
section
variable {X : Cx} {p ap pos : Pos} {a b : Expr} {ta : TA}
theorem zVE {K : PySem.W.Frag} : PySem.W.findCls K (.type "ValueError") (.type "type") "__init__" = some (.val (.builtin "ValueError.__init__")):=by
 kernel_rfl
noncomputable def zXE (K : PySem.W.Frag) (ta : TA) : TE:=λσ H Q=>ta σ H λvs H1=>∃ e C u f bm,vs = [.ref e,u]/\ErrC K C f bm/\H1 e = some (zGI e C none)/\Q .non H1
theorem zSE {pl : Sem Bool} (hg : Gl X "ValueError") (hm : X.mg "ValueError" = none) (ha : PA X [a,b] ta)
  (ht : eval (.Call (.Attribute (.Name "ValueError" p) "__init__" ap) [a,b] [] pos) X.env = (do
   let ov <- eval (.Name "ValueError" p) X.env
   standAt ap.atName
   let (f,first) <- holding [ov] (getMethod ov "__init__" pl)
   callWith pos f first (backTo pos (starEach [a,b] X.env)) (backToKw pos (keywordEach [] X.env))):=by rfl)
  (he : starEach [a,b] X.env = (false,eval a X.env)::starEach [b] X.env:=by rfl) (hpl : (backTo pos (starEach [b] X.env)).any (·.1) = false:=by rfl) :
  PE X (.Call (.Attribute (.Name "ValueError" p) "__init__" ap) [a,b] [] pos) (zXE X.K ta):=by
 intro pins s σ H Q I h;refine yDU (pl:=pl) (zDW I hg hm (by decide +kernel : bootBuiltins "ValueError" = some (.type "ValueError")) ?_) ht;have L0 : ∀ {M : Model} {h : Heap},PySem.W.Looks M h (typeOf (.type "ValueError")) (.type "type"):=PySem.W.Looks.of_pure (PySem.W.kitMeta_of (by decide +kernel));have hg0 : PySem.W.findIn X.K (.type "type") "__getattribute__" = some (some (.builtin "type.__getattribute__")):=PySem.W.type_tga;have L1 : PySem.W.Looks (model X.prog X.w) s.heap (specialOf (.type "ValueError") "__getattribute__") (some (.builtin "type.__getattribute__")):=L0.andThen (PySem.W.looks_findIn I.kIn hg0);unfold getMethod;refine yAA (L1.here ?_);dsimp only;rw [yAK PySem.W.canon_tga];refine yAA (PySem.W.cls_open I.kIn (PySem.W.Looks.of_pure (by kernel_rfl)) L0 hg0 (PySem.W.looks_hook I.kIn (r:=none) (by rfl)) (by show PySem.W.subIn X.K _ _ = _; rfl) zVE (yAH ?_));show wpAny _ _ (handedOut _) _ _ _;rw [PySem.W.handedOut_of (by decide +kernel)];refine yAH (yAH ?_);have I0:=I.tok (s.toks + 1);refine yDV (thn (ha pos pins _ σ H _ I0 h) λus s1 hM => ?_) he hpl;obtain ⟨vs,H1,I1,r1,q1⟩:=hM;obtain ⟨e,C,u,f,bm,rfl,ec,hH,q⟩:=q1
 cases r1 with
 | cons ra rb =>
  cases rb with
  | cons rc rd =>
   cases rd
   cases ra
   rename_i u'
   obtain ⟨nm,q0,N,bs,sn,sub,ab,col,dd,k0,k1,k2,k3,k5,lk⟩:=ec.obj;have at_:=I1.kIn _ _ lk;obtain ⟨t0,hx⟩:=zJ5 I1.hok hH;obtain ⟨hh,g,d,t,os⟩:=s1;refine L2E.initErr PySem.F.excBase_ValueError ec.tail.base at_ hx (by show 1 <= sizeLine; decide) λh' z1 z2 z3 => ?_;have J:=I1.write (h':=h') (x:=e) (e:=e) (o:=zGI e C none) (t':=t) (by rw [hH]; exact True.intro) (.inl rfl) z1 ⟨_,z2⟩ (zJX z2);rw [zRN hH] at J;exact ⟨.non,H1,J,rfl,q⟩
structure ClsFn (K : PySem.W.Frag) (C f : Addr) : Prop where
 sp : PySem.W.specialIn K (.ref C) "__getattribute__" = some (some (.builtin "type.__getattribute__"))
 rd : PySem.W.readsIn K C (.type "type") = true
 fc : PySem.W.findCls K (.ref C) (.type "type") "__init__" = some (.val (.ref f))
 kp : PySem.W.keepIn K (.ref f) = true
theorem zSB {pl : Sem Bool} {CX : CXT} {E : XK} {k : Nat} {C f : Addr} {fd : FuncData} {ps : List Str} {sp : Sp} {x : Str} {es : List Expr} (cf : ClsFn X.K C f) (F : FnOk X.prog X.w X.K X.mg X.base CX k f fd ps sp) (hr : Room k X.A) (hb : Binds X.K fd ps []) (hx : zDD CX X E)
  (hg : Gl X x) (hm : X.mg x = some (.ref C)) (ha : PA X (a::es) ta)
  (ht : eval (.Call (.Attribute (.Name x p) "__init__" ap) (a::es) [] pos) X.env = (do
   let ov <- eval (.Name x p) X.env
   standAt ap.atName
   let (f,first) <- holding [ov] (getMethod ov "__init__" pl)
   callWith pos f first (backTo pos (starEach (a::es) X.env)) (backToKw pos (keywordEach [] X.env))):=by rfl)
  (hdb : (x == ("__debug__" : Str)) = false:=by decide) (he : starEach (a::es) X.env = (false,eval a X.env)::starEach es X.env:=by rfl) (hpl : (backTo pos (starEach es X.env)).any (·.1) = false:=by rfl) :
  PE X (.Call (.Attribute (.Name x p) "__init__" ap) (a::es) [] pos) (zVL sp [] E ta):=by
 intro pins s σ H Q I h;refine yDU (pl:=pl) (zDP I hg hm ?_ hdb) ht;refine PySem.W.method_cls I.kIn cf.sp (PySem.W.cls_value I.kIn cf.rd cf.fc rfl ?_);have I0:=I.tok (s.toks + 1);refine yDI (h₀ := X.base) I.ok.mod.kin cf.kp (thn (ha pos pins _ σ H _ I0 h) λus s1 hM => ?_) he hpl;obtain ⟨vs,H1,I1,r,q⟩:=hM;refine ⟨I1.kIn,?_⟩;exact zKX F hr hb .nil hx I1 r q
end
section
variable {X : Cx} {pins : List (Addr × Obj)} {σ : St} {H : Hp} {s : Shared} {pos pos' : Pos} {o value : Expr} {fld : Str} {ta tv : TE}
noncomputable def zZJ (K : PySem.W.Frag) (ta tv : TE) (fld : Str) : TS:=λD σ H=>tv σ H λy H1=>ta σ H1 λx H2=>∃ e C f bm,x = .ref e/\ErrC K C f bm/\PySem.W.findIn K (.ref C) fld = some none/\H2 e = some (zGI e C none) /\
 ∀ dx,H2 dx = none -> dx≠e -> D.nx σ (upd (upd H2 e (zGI e C (some dx))) dx (.xd [(fld,y)]))
theorem zU7 (ha : PE X o ta) (hv : PE X value tv) (hs : swapsWith value (some (.Attribute o fld pos')) pos.line X.env = pure false) : PS X (.Assign [.Attribute o fld pos'] value pos) (zZJ X.K ta tv fld):=by
 intro pins s σ H D I h;refine plainObj_wpAny_Assign_Attribute (thn (hv pins s σ H _ I h) λu s1 hM => ?_) hs;obtain ⟨y,H1,I1,ry,q⟩:=hM;refine thn (ha pins s1 σ H1 _ I1 q) λov s2 hM => ?_;obtain ⟨x,H2,I2,rx,e,C,f,bm,ex,ec,nf,hH,q2⟩:=hM;subst ex;obtain rfl : ov = Value.ref e:=rx;obtain ⟨nm,q0,N,bs,sn,sub,ab,col,dd,k0,k1,k2,k3,k5,lk⟩:=ec.obj;have at_:=I2.kIn _ _ lk;obtain ⟨t0,hx⟩:=zJ5 I2.hok hH;obtain ⟨hh,g,d,t,os⟩:=s2;refine L2E.setErr PySem.F.store_ValueError ec.own at_ (ec.pass _) (zCS I2.kIn ec.sa) (zCS I2.kIn nf) hx rfl rfl (λc z=>nomatch z) λh' tk' z1 z2 z3 => ?_;have lt:=yAI hx;have hn : H2 hh.objs.size = none:=I2.hok.fresh (yAG _);have J:=I2.write (h':=h') (x:=e) (e:=e) (o:=zGI e C (some hh.objs.size)) (t':=tk') (by rw [hH]; exact True.intro) (.inl rfl) z3 ⟨_,z1⟩ (zJX z1);have ne : hh.objs.size≠e:=yBi lt;have hn' : upd H2 e (zGI e C (some hh.objs.size)) hh.objs.size = none:=by rw [zA7 ne]; exact hn
 have J2:=J.take (D:=hh.objs.size) (o := .xd [(fld,y)]) (I2.fpOk (yAG _) hn') I2.sz ⟨_,z2,λn => ?_⟩
 ·exact ⟨σ,_,J2,q2 _ hn ne⟩
 ·show RelO (List.lookup n [(fld,y)]) _
  rw [yCB]
  by_cases c : n = fld
  ·subst c
   simp only [beq_self_eq_true,yDu];exact ry
  ·have : (n == fld) = false:=by simpa using c
   rw [this,yAN c];exact True.intro
noncomputable def del (H : Hp) (e : Addr) : Hp:=λb=>if b = e then none else H b
theorem zCT {H : Hp} {e : Addr} : del H e e = none:=yAK rfl
theorem zER {H : Hp} {e b : Addr} (n : b≠e) : del H e b = H b:=yAN n
theorem zQ3 {H : Hp} {e : Addr} {o : HO} : del (upd H e o) e = del H e:=funext λb=>by
 by_cases c : b = e
 ·subst c; rw [zCT,zCT]
 ·rw [zER c,zER c,zA7 c]
theorem zS1 {H : Hp} {e a : Addr} {o : HO} (n : a≠e) : del (upd H a o) e = upd (del H e) a o:=funext λb=>by
 by_cases c : b = e
 ·subst c; rw [zCT,zA7 n.symm,zCT]
 ·rw [zER c]
  by_cases d : b = a
  ·subst d; rw [zA1,zA1]
  ·rw [zA7 d,zA7 d,zER c]
theorem zRV {H : Hp} {e : Addr} (h : H e = none) : del H e = H:=funext λb=>by
 by_cases c : b = e
 ·subst c; rw [zCT,h]
 ·rw [zER c]
theorem Inv.drop {e C : Addr} {dx : Option Addr} (I : Inv X pins σ H s) (he : H e = some (zGI e C dx)) : Inv X pins σ (del H e) s:=by
 have nt : ∀ b u,H b = some u -> (∀ φ,u ≠ .ext φ) -> del H e b = some u:=λb u q n=>by
  rw [zER]
  ·exact q
  ·rintro rfl
   rw [he] at q; cases q;exact n _ rfl
 have nn : ∀ b,H b = none -> del H e b = none:=λb q=>by
  by_cases c : b = e
  ·subst c; exact zCT
  ·rw [zER c]; exact q
 refine ⟨I.ok,I.os,I.bare,⟨I.base.keep,I.base.slot,λb o q n hx=>nn b (I.base.free b o q n hx),I.base.there,λb xs q=>nt b _ (I.base.tups b xs q) (λ_ z=>nomatch z),λb o u q=>nt b _ (I.base.frzs b o u q) (λ_ z=>nomatch z),λb ps q => ?_⟩,I.loc,I.cell,nn _ I.free,λx c q=>nn c (I.freeC x c q),λp hp => ?_,λb u q => ?_,I.len⟩
 ·obtain ⟨m,z⟩:=I.base.tbls b ps q
  exact ⟨m,nt b _ z (λ_ y=>nomatch y)⟩
 ·obtain ⟨z1,z2,z3⟩:=I.pin p hp
  exact ⟨z1,nn _ z2,z3⟩
 ·have c : b≠e:=by rintro rfl; rw [zCT] at q; cases q
  rw [zER c] at q;exact (I.hok b u q).stay (λ_ _ _ z=>z) (λa z=>nt a _ z (λ_ y=>nomatch y)) λa xs z=>nt a _ z (λ_ y=>nomatch y)
theorem zVU {CX : CXT} {E : XK} {k : Nat} {C f : Addr} {bm : List Value} {fd : FuncData} {ps : List Str} {sp : Sp} {Q : Value -> Shared -> Prop} {us : List Value} {vs : List V} (M : ErrC X.K C f bm) (F : FnOk X.prog X.w X.K X.mg X.base CX k f fd ps sp) (hr : Room (k + 1) X.A) (hb : Binds X.K fd ps [])
  (hx : zDD CX X E) (I : Inv X pins σ H s) (r : Vals vs us) (few : us.length <= sizeLine)
  (h : ∀ e,s.heap.objs.size <= e -> H e = none -> sp (.ref e::vs) (upd H e (zGI e C none)) (λv H2=>v = .non/\∀ s',Inv X pins σ H2 s' -> Q (.ref e) s') E) :
  wpAny (model X.prog X.w) X.A (call (.ref C) us) Q X.xe s:=by
 obtain ⟨nm,q0,N,bs,sn,sub,ab,col,dd,k0,k1,k2,k3,k5,lk⟩:=M.obj;have at_:=I.kIn _ _ lk;obtain ⟨of,hf,hc⟩:=zU8 I.kIn M.fn;obtain ⟨hh,g,d,t,os⟩:=s;have hq:=h (hh.objs.size + 1) (yDi _) (I.hok.fresh (yDi _));have kl : PySem.W.Frag.In X.K (L2E.laid hh C us):=I.kIn.keeps λ_ _ z=>L2E.laid_old z;have I2 : Inv X pins σ (upd H (hh.objs.size + 1) (zGI (hh.objs.size + 1) C none)) ⟨L2E.laid hh C us,g,d,t,os⟩:=I.laid (h':=L2E.laid hh C us) (a:=hh.objs.size + 1) (o:=zGI (hh.objs.size + 1) C none) (t':=t) (λ_ _ z=>L2E.laid_old z) (yDi _) (zJX L2E.laid_new);have r2 : Vals (V.ref (hh.objs.size + 1)::vs) (Value.ref (hh.objs.size + 1)::us) := .cons rfl r
 have hl : (Value.ref (hh.objs.size + 1)::us++[]).length = ps.length:=by
  rw [yBq,<- r2.length];exact F.len _ _ _ _ hq
 refine L2E.callErr PySem.F.excBase_ValueError M.tail at_ (zCS kl M.init) hf hc few ?_;refine yDf (yCZ (F.run _ X.stack _ _ ⟨Value.ref (hh.objs.size + 1)::us,[]⟩ (Value.ref (hh.objs.size + 1)::us) _ _ E (hr.make C us []) (I2.env0.make C us []) (by have:=hb _ (Value.ref (hh.objs.size + 1)::us) I2.kIn hl; rw [yBq] at this; exact this) r2 hq) λr s' hq' => ?_)
 cases r with
 | error e=>exact hx pins σ _ _ e s' I2 hq'
 | ok fl =>
  cases fl with
  | ret u =>
   obtain ⟨v,H',I3,rv,ev,q3⟩:=I2.after hq';subst ev;exact ⟨rv,q3 _ I3⟩
  | next=>exact False.elim hq'
  | brk=>exact False.elim hq'
  | cont=>exact False.elim hq'
noncomputable def zSX (X : Cx) (E : XK) : Prop:=∀ (pins : List (Addr × Obj)) (σ : St) (H : Hp) (s : Shared) (e C dx : Addr) (vs : Array Value),Inv X pins σ H s -> s.heap.get? e = some { cls := .ref C,dict:=some dx,data := .fields vs } -> vs[1]? = some .none -> Own X pins H s.heap e -> E (.ref C) (some dx) H -> X.xe (.ref e) s
end
theorem zYA {P : Program} {w : World} {K : PySem.W.Frag} {mg : Str -> Option Value} {base : Heap} {N : List Str} {qual : Str} {scope : Scope} {f : Addr} {cd : Value} {A : Around} {outer : List Env} {s0 : Shared} {H0 : Hp} {E : XK} :
  zSX (zR8 (CXE P w) P w K mg base N qual scope f cd A outer s0 H0 E) E:=by
 intro pins σ H s e C dx vs I hx h1 ow hE;have le:=yAI hx;show wpAny _ _ (leaving _ (.ref e)) _ _ _;refine L2E.leaveOff (base:=base) I.ok.frames I.stack rfl hx rfl (.inl h1) λh' T' O => ?_;have J:=I.off (h':=h') rfl rfl O ow λT2 hT2'=>by rw [h1] at hT2'; cases hT2'
 have hv1 : 1 < vs.size:=(yBV.mp h1).1;exact ⟨e,C,dx,T',H,rfl,J.os,J.bare,J.base,J.hok,⟨⟨_,#[],O.err,by simp [hv1]⟩,yBi (yAg le O.fresh),O.tb⟩,ow.new,yAz I.sz O.fresh,ow.free,I.hok.fresh O.fresh,hE⟩
noncomputable def zSZ (K : PySem.W.Frag) : Sp:=λvs H Q _=>∃ e C u f bm,vs = [.ref e,u]/\ErrC K C f bm/\H e = some (zGI e C none)/\Q .non H
noncomputable def zND (C : Addr) (fld : Str) : Sp:=λvs H Q _=>∃ e v,vs = [.ref e,v]/\H e = some (zGI e C none)/\∀ dx,H dx = none -> dx≠e -> Q .non (upd (upd H e (zGI e C (some dx))) dx (.xd [(fld,v)]))
section
variable {X : Cx} {a : Expr} {t : TA} {E : XK} {k : Nat} {C f : Addr} {bm : List Value} {fd : FuncData} {ps : List Str} {x fld : Str} {p cpos pos : Pos}
noncomputable def zWQ (C : Addr) (fld : Str) (E : XK) (t : TA) : TS:=λ_ σ H=>t σ H λvs H1=>∃ v,vs = [v]/\∀ dx,H1 dx = none -> E (.ref C) (some dx) (upd H1 dx (.xd [(fld,v)]))
theorem zP1 (hc : X.calm = true) (M : ErrC X.K C f bm) (F : FnOk X.prog X.w X.K X.mg X.base CX0 k f fd ps (zND C fld)) (hr : Room (k + 1) X.A) (hb : Binds X.K fd ps []) (hg : Gl X x) (hm : X.mg x = some (.ref C)) (ht : zSX X E) (ha : PA X [a] t)
  (hdb : (x == ("__debug__" : Str)) = false:=by decide) (he : starEach [a] X.env = (false,eval a X.env)::starEach [] X.env:=by rfl) (hpl : (backTo cpos (starEach [] X.env)).any (·.1) = false:=by rfl) :
  PS X (.Raise (some (.Call (.Name x p) [a] [] cpos)) none pos) (zWQ C fld E t):=by
 intro pins s σ H D I h;obtain ⟨nm,q0,N,bs,sn,sub,ab,col,dd,k0,k1,k2,k3,k5,lk⟩:=M.obj
 have go : wpAny (model X.prog X.w) X.A (eval (.Call (.Name x p) [a] [] cpos) X.env) (λv s1=>∃ e dx ta sl,v = .ref e/\s1.heap.get? C = some (excClassObj nm q0 C N bs bm true sn sub ab col dd k0 k1 k2 k3 k5 "ValueError.__new__")/\s1.heap.get? e = some { cls := .ref C,dict:=dx,data := .fields #[.ref ta,.none,.none,.none,.bool false,.none],slots:=sl }/\X.xe (.ref e) s1) X.xe s:=by
  refine yBy (zDP I hg hm ?_ hdb);refine yDI (h₀ := X.base) I.ok.mod.kin M.kp (thn (ha cpos pins s σ H _ I h) λus s1 hM => ?_) he hpl;obtain ⟨vs,H1,I1,r,q⟩:=hM;refine ⟨I1.kIn,?_⟩;obtain ⟨v,rfl,q⟩:=q;obtain ⟨u,rfl,ru⟩:=zDJ r;refine zVU M F hr hb zAF I1 r (by show 1 <= sizeLine; decide) λe le hn=>⟨e,v,rfl,zA1,λdx hdx ne=>⟨rfl,λs' I' => ?_⟩⟩;rw [zA7 ne] at hdx;have hE:=q dx hdx;have heq : (upd (upd (upd H1 e (zGI e C none)) e (zGI e C (some dx))) dx (.xd [(fld,v)])) e = some (zGI e C (some dx)):=by rw [zA7 ne.symm,zA1]
  obtain ⟨t0,hx⟩:=zJ5 I'.hok heq;have I'':=I'.drop heq;rw [zS1 ne,zQ3,zQ3,zRV hn] at I'';refine ⟨e,some dx,t0,#[],rfl,I'.kIn _ _ lk,hx,ht pins σ _ s' e C dx _ I'' hx rfl ⟨yAz I1.sz le,by rw [zA7 ne.symm]; exact hn,⟨_,_,hx,rfl⟩,λp hp z => ?_⟩ hE⟩
  have:=yAI (I1.pin p hp).1
  rw [z] at this;exact absurd (yAg this le) (yBk _)
 rw [arm_exec_Raise]
 first
  | exact yAA (yCO (L2E.raiseErr M.base (I.ok.hd hc) (yAA (yBO go (λv s₁ h₁ => yAA (yCO (yAH h₁))) λ_ _ x=>x))))
  | (simp only [evalOpt,Option.map]; exact yAA (yCO (L2E.raiseErr M.base (I.ok.hd hc) (yAA (yBO go (λv s₁ h₁ => yAA (yCO (yAH h₁))) λ_ _ x=>x)))))
  | (show wpAny _ _ (do standAt pos; raiseStmt X.env (some (do let v <- eval (.Call (.Name x p) [a] [] cpos) X.env; standAt pos; pure v)) none) _ _ s; exact yAA (yCO (L2E.raiseErr M.base (I.ok.hd hc) (yAA (yBO go (λv s₁ h₁ => yAA (yCO (yAH h₁))) λ_ _ x=>x)))))
end
theorem Fun.okE {P : Program} {w : World} {K : PySem.W.Frag} {mg : Str -> Option Value} {base : Heap} {x qual : Str} {st : Stmt} {f : Addr} {fd : FuncData} {N ps : List Str} {k : Nat} {sp : Sp} (F : Fun K x qual st f fd) (S : FnScope N ps (zA8 st)) (len : ∀ vs H Q E,sp vs H Q E -> vs.length = ps.length)
  (hbody : ∀ (cdv : Value) (A : Around) (outer : List Env) (s : Shared) (H : Hp) (vs : List V) (Q : VK) (E : XK),Room k (A.deeper (envOfC qual (zA8 st) s.heap.objs.size f cdv)) -> sp vs H Q E ->
   ∃ t,PSs (zR8 (CXE P w) P w K mg base N qual (zA8 st) f cdv A outer s H E) (zCO st) t/\t { nx:=λ_ H'=>Q .non H',rt:=Q } (zG3 N vs) H) : FnOk P w K mg base (CXE P w) (k + 1) f fd ps sp:=by
 obtain ⟨oc,od,kV,doc,pm,an,cdv,ct,osl,rfl,lk,hcd⟩:=F.ex;exact zX0 lk hcd S len λA outer s H vs Q E hr hsp=>hbody cdv A outer s H vs Q E hr hsp
noncomputable abbrev Cx.pinned (X : Cx) (pn : List (Addr × Obj)) : Cx:={ X with pn:=pn }
noncomputable abbrev Cx.suite (X : Cx) (e : Value) : Cx:={ X with A:=X.A.mark (some e),calm:=false,xe:=λ_ _=>False }
section
variable {X : Cx} {pins : List (Addr × Obj)} {σ : St} {H : Hp} {s : Shared} {E : XK} {xe : Value -> Shared -> Prop} {ev : Value}
theorem Inv.pinT (I : Inv X pins σ H s) : Inv (X.pinned (X.pn++pins)) [] σ H s :=
 ⟨⟨I.ok.mod,I.ok.kind,I.ok.glob,I.ok.blt,I.ok.above,I.ok.inj,I.ok.has,I.ok.cab,I.ok.hd,I.ok.frames,I.ok.stk,I.ok.exf,I.ok.bs,I.ok.bsz,I.ok.noex,I.ok.exfs,I.ok.funs,I.ok.frf⟩,I.os,I.bare,I.base,I.loc,I.cell,I.free,I.freeC,λp hp=>I.pin p (by simpa using hp),I.hok,I.len⟩
theorem Inv.unpinT {ps : List (Addr × Obj)} (I : Inv (X.pinned (X.pn++pins)) ps σ H s) : Inv X pins σ H s :=
 ⟨⟨I.ok.mod,I.ok.kind,I.ok.glob,I.ok.blt,I.ok.above,I.ok.inj,I.ok.has,I.ok.cab,I.ok.hd,I.ok.frames,I.ok.stk,I.ok.exf,I.ok.bs,I.ok.bsz,I.ok.noex,I.ok.exfs,I.ok.funs,I.ok.frf⟩,I.os,I.bare,I.base,I.loc,I.cell,I.free,I.freeC,λp hp=>I.pin p (yBa _ hp),I.hok,I.len⟩
theorem Inv.suite (I : Inv X pins σ H s) (e : Value) : Inv (X.suite e) pins σ H s :=
 ⟨⟨I.ok.mod,I.ok.kind,I.ok.glob,I.ok.blt,I.ok.above,I.ok.inj,I.ok.has,I.ok.cab,(λz=>absurd z (by simp)),I.ok.frames,I.ok.stk,I.ok.exf,I.ok.bs,I.ok.bsz,I.ok.noex,I.ok.exfs,I.ok.funs,I.ok.frf⟩,I.os,I.bare,I.base,I.loc,I.cell,I.free,I.freeC,I.pin,I.hok,I.len⟩
theorem Inv.unsuite (ok : X.Ok) (I : Inv (X.suite ev) pins σ H s) : Inv X pins σ H s:=⟨ok,I.os,I.bare,I.base,I.loc,I.cell,I.free,I.freeC,I.pin,I.hok,I.len⟩
theorem SP.unpinned {D : Ends} {f : Flow} (h : SP ((X.pinned (X.pn++pins)).wish xe) [] D f s) : SP X pins D f s:=by
 cases f with
 | next=>obtain ⟨σ',H',I,q⟩:=h; exact ⟨σ',H',I.unwish.unpinT,q⟩
 | brk=>obtain ⟨σ',H',I,q⟩:=h; exact ⟨σ',H',I.unwish.unpinT,q⟩
 | cont=>obtain ⟨σ',H',I,q⟩:=h; exact ⟨σ',H',I.unwish.unpinT,q⟩
 | ret u=>obtain ⟨v,σ',H',I,r,q⟩:=h; exact ⟨v,σ',H',I.unwish.unpinT,r,q⟩
end
noncomputable def XE (X : Cx) (E : XK) : Value -> Shared -> Prop:=λev s'=>∃ (e C dx : Addr) (vs : Array Value) (sl : Array (Option Value)) (σ' : St) (H' : Hp),ev = .ref e/\Inv X [] σ' H' s'/\s'.heap.get? e = some { cls := .ref C,dict:=some dx,data := .fields vs,slots:=sl }/\Own X [] H' s'.heap e /\
 (vs[1]? = some .none \/ ∃ T oT ts,vs[1]? = some (.ref T)/\T≠e/\s'.heap.get? T = some oT/\oT.data = .fields ts/\ts[3]? = some .none/\Own X [] H' s'.heap T)/\E (.ref C) (some dx) H'
theorem Inv.nopins {X : Cx} {pins : List (Addr × Obj)} {σ : St} {H : Hp} {s : Shared} (I : Inv X pins σ H s) : Inv X [] σ H s:=I.pins_of λp hp=>nomatch hp
theorem zZT {Y : Cx} {E : XK} : zDD (CXE Y.prog Y.w) (Y.wish (XE Y E)) E:=by
 intro pins σ H s ev s' I hc;obtain ⟨e,C,dx,T,H',rfl,os,bare,un,hok,fly,e1,t1,he,hT,hE⟩:=hc;obtain ⟨hh,g,d,t,os'⟩:=s';obtain rfl : os' = s.os:=os;have I':=I.call (h':=hh) (g':=g) (d':=d) (t':=t) (ch:=[]) un hok bare (λb z=>absurd z (by simp));obtain ⟨vs,sl,hx,h1⟩:=fly.ex;obtain ⟨oT,ts,hT1,hT2,hT3⟩:=fly.tb
 have pl : ∀ b,s.heap.objs.size <= b -> ∀ p∈(Y.wish (XE Y E)).pn++pins,p.1≠b:=λb hb p hp z=>by
  have:=yAI (I.pin p hp).1
  rw [z] at this;exact absurd (yAg this hb) (yBk _)
 have own : ∀ b,s.heap.objs.size <= b -> H' b = none -> (∃ o vs,hh.get? b = some o/\o.data = .fields vs) -> Own Y [] H' hh b:=λb hb hn hr=>⟨yAz I.sz hb,hn,hr,λp hp=>pl b hb p (yBa _ (by simpa using hp))⟩;exact ⟨e,C,dx,vs,sl,σ,H',rfl,I'.unwish.nopins,hx,own e e1 he ⟨_,vs,hx,rfl⟩,.inr ⟨T,oT,ts,h1,fly.ne,hT1,hT2,hT3,own T t1 hT ⟨oT,ts,hT1,hT2⟩⟩,hE⟩
noncomputable def PH (X : Cx) (hs : List ExceptHandler) (t : Addr -> Addr -> TS) : Prop:=∀ (pins : List (Addr × Obj)) (s : Shared) (σ : St) (H : Hp) (D : Ends) (e C dx T : Addr),Inv X pins σ H s -> Fly s.heap e C dx T -> Own X pins H s.heap e -> Own X pins H s.heap T -> t C dx D σ H ->
 wpAny (model X.prog X.w) X.A (handleBy (.ref e) X.env hs) (SP X pins D) X.xe s
noncomputable def zb6 (tb : XK -> TS) (th : Addr -> Addr -> TS) : TS:=λD σ H=>∃ E : XK,tb E D σ H/\∀ C dx σ' H',E (.ref C) (some dx) H' -> σ'.length = σ.length -> th C dx D σ' H'
theorem zTG {X : Cx} {body : List Stmt} {h₀ : ExceptHandler} {hs : List ExceptHandler} {pos : Pos} {tb : XK -> TS} {th : Addr -> Addr -> TS} (hst : X.stack = X.env::X.outer) (hfr : X.env.frame = some X.env.locals)
  (hb : ∀ (pn : List (Addr × Obj)) (E : XK),PSs ((X.pinned pn).wish (XE (X.pinned pn) E)) body (tb E)) (hh : PH X (h₀ :: hs) th) : PS X (.Try body (h₀ :: hs) [] [] pos) (zb6 tb th):=by
 intro pins s σ H D I ⟨E,ht,hx⟩;refine wpAny_Try_except (yBO (hb (X.pn++pins) E [] s σ H D (I.pinT.wish _) ht) (λf s1 hs => ?_) (λev s1 hx1 => ?_))
 ·have q:=SP.unpinned hs
  cases f with
  | next=>exact yDh q
  | brk=>exact q
  | cont=>exact q
  | ret u=>exact q
 ·obtain ⟨e,C,dx,vs,sl,σ',H',rfl,I',hx',oe,fl,hE⟩:=hx1
  have le:=yAI hx';refine L2E.noteOff (base:=X.base) (env:=X.env) (outer:=X.outer) (L:=X.env.locals) (by rw [<- hst]; exact I'.ok.frames) (by rw [<- hst]; exact I'.stack) hfr hx' rfl (fl.elim .inl λ⟨T,oT,ts,a1,a2,a3,a4,a5,_⟩ => .inr ⟨T,oT,ts,a1,a2,a3,a4,a5⟩) λh' T' O => ?_;rw [<- hst] at O
  have J:=I'.off (h':=h') hst hfr O oe λT hT=>by
   rcases fl with fl | ⟨T2,oT,ts,a1,a2,a3,a4,a5,a6⟩
   ·rw [fl] at hT; cases hT
   ·rw [a1] at hT; cases hT; exact a6
  have hv1 : 1 < vs.size:=by
   rcases fl with fl | ⟨T2,oT,ts,a1,_⟩
   ·exact (yBV.mp fl).1
   ·exact (yBV.mp a1).1
  have fly : Fly h' e C dx T':=⟨⟨_,sl,O.err,by simp [hv1]⟩,yBi (yAg le O.fresh),O.tb⟩;have oe2 : Own X pins H' h' e:=⟨oe.new,oe.free,⟨_,_,O.err,rfl⟩,λp hp=>oe.pin p (by simpa using hp)⟩;obtain ⟨oT,ts,t1,t2,t3⟩:=O.tb
  have oT2 : Own X pins H' h' T':=⟨yAz I'.sz O.fresh,I'.hok.fresh O.fresh,⟨oT,ts,t1,t2⟩,λp hp z=>by
   have:=yAI (I'.pin p (by simpa using hp)).1
   rw [z] at this;exact absurd (yAg this O.fresh) (yBk _)⟩
  exact hh pins _ σ' H' D e C dx T' J.unpinT fly oe2 oT2 (hx C dx σ' H' hE (I'.len.trans I.len.symm))
noncomputable def zQE (e C dx : Addr) : HO := .ext λh=>∃ vs sl,h.get? e = some { cls := .ref C,dict:=some dx,data := .fields vs,slots:=sl }
theorem zW4 {P : Program} {w : World} {H : Hp} {h : Heap} {e C dx : Addr} {vs : Array Value} {sl : Array (Option Value)} (he : h.get? e = some { cls := .ref C,dict:=some dx,data := .fields vs,slots:=sl }) : ObjOk P w H h e (zQE e C dx) :=
 ⟨⟨vs,sl,he⟩,⟨_,he⟩,λ_ _ ⟨v,s,q⟩ k=>⟨v,s,k _ q⟩⟩
section
variable {X : Cx} {pins : List (Addr × Obj)} {σ : St} {H : Hp} {s : Shared}
theorem Own.fp {b : Addr} (I : Inv X pins σ H s) (o : Own X pins H s.heap b) : zF5 X pins H b:=by
 obtain ⟨ob,vs,h1,h2⟩:=o.recd;refine ⟨o.free,?_,?_,.inr o.new,?_,o.pin⟩
 ·rintro rfl
  obtain ⟨m,⟨o',es,ep,ho,hd,_⟩,_⟩:=I.loc;rw [h1] at ho; cases ho; rw [h2] at hd; cases hd
 ·intro hb
  obtain ⟨_,o',ho,hd⟩:=I.funs.mem hb;rw [h1] at ho; cases ho; exact hd vs h2
 ·rintro x c hc rfl
  obtain ⟨v,o',ho,hd⟩:=I.cell x c hc;rw [h1] at ho; cases ho; rw [h2] at hd; cases hd
theorem Inv.goes {i : Nat} {n : Str} {m : Str -> Option Value} {v : Option Value} {h' : Heap} {t' : Nat} (I : Inv X pins σ H s) (hN : X.N.Nodup) (hi : X.N[i]? = some n) (hm : s.heap.Ns X.env.locals m)
  (hl : ∀ (i : Nat) (x : Str) (v : V),X.N[i]? = some x -> σ[i]? = some (some v) -> Vis X.env.scope x -> ∃ u,RelV v u/\zaE X.env s.heap m x u)
  (hn : h'.Ns X.env.locals (λx=>if x = n then v else m x)) (hs : Heap.SameBut X.env.locals s.heap h') : Inv X pins (σ.set i none) H { s with heap:=h',toks:=t' }:=by
 have hiσ : i < σ.length:=by rw [I.len]; exact (yAE.mp hi).1
 have cne:=I.cne;have neL : ∀ b o,X.s₀.heap.get? b = some o -> b≠X.env.locals:=λb o e=>yAh (yAg (yAI e) I.ok.above);refine ⟨I.ok,I.os,I.bare,⟨λb o e n hb hx => ?_,λb o e n hb hx => ?_,I.base.free,λb o e hx => ?_,I.base.tups,I.base.frzs,I.base.tbls⟩,⟨_,hn,λj y v' e1 e2 e3 => ?_⟩,λy c e => ?_,I.free,I.freeC,λp hp => ?_,λb ob e => ?_,by simpa using I.len⟩
 ·exact (hs.2 b (neL b o e)).trans (I.base.keep b o e n hb hx)
 ·obtain ⟨sl,e1⟩:=I.base.slot b o e n hb hx
  exact ⟨sl,(hs.2 b (neL b o e)).trans e1⟩
 ·obtain ⟨o',e1⟩:=I.base.there b o e hx
  exact ⟨o',(hs.2 b (neL b o e)).trans e1⟩
 ·by_cases hj : j = i
  ·subst hj
   rw [yDQ hiσ] at e2
   cases e2
  ·rw [List.getElem?_set_ne (Ne.symm hj)] at e2
   obtain ⟨u',r',q⟩:=hl j y v' e1 e2 e3;refine ⟨u',r',?_⟩
   rcases q with ⟨k,e⟩ | ⟨k,c,e,z⟩
   ·refine .inl ⟨k,?_⟩
    have : y≠n:=λe=>hj (zGS hN e1 (e ▸ hi))
    simp [this,e]
   ·exact .inr ⟨k,c,e,z.sameBut hs (cne y c e)⟩
 ·obtain ⟨w',z⟩:=I.cell y c e
  exact ⟨w',z.sameBut hs (cne y c e)⟩
 ·obtain ⟨e,n,ne,nf,d⟩:=I.pin p hp
  exact ⟨(hs.2 p.1 ne).trans e,n,ne,nf,d⟩
 ·refine (I.hok b ob e).stay (λc w' hc q=>(hs.2 c ?_).trans q) (λ_ q=>q) λ_ _ q=>q
  rintro rfl
  rcases hc with rfl | hc
  ·rw [I.free] at e; cases e
  ·rw [I.free] at hc; cases hc
theorem zEY {i : Nat} {n : Str} {pos : Pos} {Q : Unit -> Shared -> Prop} {E : Value -> Shared -> Prop} {A : Around} (I : Inv X pins σ H s) (hN : X.N.Nodup) (hi : X.N[i]? = some n) (hx : X.env.scope.names.lookup n = some .local)
  (h : ∀ s',Inv X pins (σ.set i none) H s' -> Q () s') : wpAny (model X.prog X.w) A (do bindName X.env n .none; unbindBehindTheSuite X.env n pos) Q E s:=by
 have hk : X.env.kindOf n = some .local:=hx;have hp : (X.env.scope.kind == .class||(X.env.scope.kind == .module&&X.env.locals != X.env.globals)) = false:=by rw [I.ok.kind]; rfl
 refine yAA (wpAny_bindName (zDV (v := .non) I hN hi (.inl hx) rfl (λs1 I1 => ?_) (.inr hx)));obtain ⟨m,hm,hl⟩:=I1.loc;have hiσ : i < σ.length:=by rw [I.len]; exact (yAE.mp hi).1
 have hsome : (m n).isSome = true:=by
  obtain ⟨u,r,q⟩:=hl i n .non hi (by rw [yDQ hiσ]) (.inl hx)
  rcases q with ⟨_,e⟩ | ⟨k,_⟩
  ·rw [e]; rfl
  ·rw [hk] at k; rcases k with k | k <;> cases k
 unfold unbindBehindTheSuite;refine wpAny_onRaise ?_;unfold unbindName;refine yAA (wpAny_point (yAA ?_));unfold deleteName;simp only [hk,hp];rw [yAN (by decide)];refine yAA (wpAny_nsDel_keeps hm λh₂ v hn₂ hs₂ => ?_);rw [hsome];simp only [yDu,Bool.not_true,yBK,yCb];refine yAH (wpAny_point (h _ ?_));have J:=I1.goes (t':=s1.toks) hN hi hm hl hn₂ hs₂;rw [List.set_set] at J;exact J
end
section
variable {X : Cx} {i : Nat} {n k fld : Str} {kp hp pos ap : Pos} {b₀ : Stmt} {suite : List Stmt} {rest : List ExceptHandler} {Ck : Addr} {ts : TS} {tr : Addr -> Addr -> TS}
noncomputable def hAs (K : PySem.W.Frag) (Ck : Addr) (i : Nat) (ts : TS) (tr : Addr -> Addr -> TS) : Addr -> Addr -> TS:=λC dx D σ H=>∃ b,PySem.W.exmOne K (.ref C) (.ref Ck) = some b /\
 if b = true then (∀ e,H e = none -> ts { nx:=λσ2 H2=>D.nx (σ2.set i none) H2,rt:=D.rt,bk:=λσ2 H2=>D.bk (σ2.set i none) H2,ct:=λσ2 H2=>D.ct (σ2.set i none) H2 } (σ.set i (some (.ref e))) (upd H e (zQE e C dx))) else tr C dx D σ H
theorem zZM (hN : X.N.Nodup) (hi : X.N[i]? = some n) (hx : X.env.scope.names.lookup n = some .local) (hg : Gl X k) (hm : X.mg k = some (.ref Ck)) (hs : ∀ e,PSs (X.suite (.ref e)) (b₀ :: suite) ts) (hr : PH X rest tr) (hdb : (k == ("__debug__" : Str)) = false:=by decide) :
  PH X (.ExceptHandler (some (.Name k kp)) (some n) (b₀ :: suite) hp::rest) (hAs X.K Ck i ts tr):=by
 intro pins s σ H D e C dx T I fly oe oT ⟨b,hb,h⟩;obtain ⟨vs,sl,hx',h1⟩:=fly.ex;have LT : PySem.W.Looks (model X.prog X.w) s.heap (typeOf (.ref e)) (.ref C):=(PySem.W.Looks.ld hx').andThen .now;refine wpAny_handleBy_cons (codeAny_handlers_test (zDP (X:=X.suite (.ref e)) (I.suite (.ref e)) hg hm ?_ hdb)) (by intro q; cases q);refine (PySem.W.exm_one I.kIn LT hb).here ?_
 cases b with
 | false=>exact hr pins s σ H D e C dx T I fly oe oT h
 | true =>
  obtain ⟨oT',tsv,t1,t2,t3⟩:=fly.tb;refine codeAny_handlers_suite_as ?_;have fT:=oT.fp I;refine wpAny_setFlight_none hx' rfl h1 t1 t2 (yBV.mp t3).1 ?_;have I1 : Inv X pins σ H { s with heap:=s.heap.update T (Obj.mapFields (·.setIfInBounds 3 .none)) }:=I.turned (t':=s.toks) (it:=T) (λb o hb q=>by rw [yBG _ _ hb.symm]; exact q) oT.free fT.2.1 (.inr oT.new) fT.2.2.2.2.1 oT.pin;have hx1 : (s.heap.update T (Obj.mapFields (·.setIfInBounds 3 .none))).get? e = some { cls := .ref C,dict:=some dx,data := .fields vs,slots:=sl }:=by rw [yBG _ _ fly.ne]; exact hx'
  have oe1 : Own X pins H (s.heap.update T (Obj.mapFields (·.setIfInBounds 3 .none))) e:=⟨oe.new,oe.free,⟨_,_,hx1,rfl⟩,oe.pin⟩;have I2:=I1.take (D:=e) (o:=zQE e C dx) (oe1.fp I1) oe.new (zW4 hx1);refine zDV (v := .ref e) I2 hN hi (.inl hx) rfl (λs3 I3 => ?_) (.inr hx);refine yBO (hs e pins s3 _ _ _ (I3.suite (.ref e)) (h e oe.free)) (λf s4 h4 => ?_) λx s4 z=>False.elim z;show wpAny _ _ _ _ _ _
  cases f with
  | next=>obtain ⟨σ',H',I4,q⟩:=h4; exact zEY (I4.unsuite I.ok) hN hi hx λs5 I5=>⟨_,_,I5,q⟩
  | brk=>obtain ⟨σ',H',I4,q⟩:=h4; exact zEY (I4.unsuite I.ok) hN hi hx λs5 I5=>⟨_,_,I5,q⟩
  | cont=>obtain ⟨σ',H',I4,q⟩:=h4; exact zEY (I4.unsuite I.ok) hN hi hx λs5 I5=>⟨_,_,I5,q⟩
  | ret u=>obtain ⟨v,σ',H',I4,r,q⟩:=h4; exact zEY (I4.unsuite I.ok) hN hi hx λs5 I5=>⟨v,_,_,I5,r,q⟩
noncomputable def zYJ (K : PySem.W.Frag) (ta : TE) (fld : Str) : TE:=λσ H Q=>ta σ H λx H1=>∃ e C dx f bm fs v,x = .ref e/\H1 e = some (zQE e C dx)/\ErrC K C f bm/\PySem.W.findIn K (.ref C) fld = some none/\H1 dx = some (.xd fs)/\fs.lookup fld = some v/\Q v H1
theorem zUZ {e : Expr} {ta : TE} (he : PE X e ta) (hb : attributeBase e fld X.env (eval e X.env) = eval e X.env) : PE X (.Attribute e fld pos) (zYJ X.K ta fld):=by
 intro pins s σ H Q I h;refine zNS hb (thn (he pins s σ H _ I h) λu s1 hM => ?_);obtain ⟨x,H1,I1,rx,a,C,dx,f,bm,fs,v,ex,ea,ec,nf,hd,l,q⟩:=hM;subst ex;obtain rfl : u = Value.ref a:=rx;obtain ⟨nm,q0,N,bs,sn,sub,ab,col,dd,k0,k1,k2,k3,k5,lk⟩:=ec.obj;have at_:=I1.kIn _ _ lk;obtain ⟨vs,sl,hx⟩:=(I1.hok a _ ea).1;obtain ⟨mA,hn,hr⟩:=I1.hok dx _ hd;have rv:=hr fld;rw [l] at rv
 cases hv : mA fld with
 | none=>rw [hv] at rv; exact False.elim rv
 | some u' =>
  rw [hv] at rv;obtain ⟨hh,g,d,t,os⟩:=s1;exact L2E.getErr ec.base at_ (zCS I1.kIn nf) (zCS I1.kIn ec.ga) (zCS I1.kIn ec.gh) hx rfl (λc z=>nomatch z) rfl hn.ns hv (PySem.W.handedOut_of (zHV rv)) ⟨v,H1,I1.tok (t + 1),rv,q⟩
end
section
variable {X : Cx}
end
noncomputable def zaM : Key -> PyData
 | .inl i => .int i
 | .inr x => .str x
mutual
inductive DW (K : PySem.W.Frag) (H : Hp) : V -> PyData -> Prop
 | non : DW K H .non .none
 | bl (b : Bool) : DW K H (.bl b) (.bool b)
 | int (i : Int) : DW K H (.int i) (.int i)
 | str (x : Str) : DW K H (.str x) (.str x)
 | lst {a : Addr} {xs : List V} {ds : List PyData} : SqL K H a xs -> a≠sysModules -> DWs K H xs ds -> DW K H (.ref a) (.list ds)
 | tup {a : Addr} {xs : List V} {ds : List PyData} : SqT K H a xs -> DWs K H xs ds -> DW K H (.ref a) (.tuple ds)
 | dct {a : Addr} {kvs : List (Key × V)} {ds : List PyData} : H a = some (.dK kvs) -> DWs K H (kvs.map (·.2)) ds -> DW K H (.ref a) (.dict ((kvs.map λp=>zaM p.1).zip ds))
inductive DWs (K : PySem.W.Frag) (H : Hp) : List V -> List PyData -> Prop
 | nil : DWs K H [] []
 | cons {x : V} {xs : List V} {d : PyData} {ds : List PyData} : DW K H x d -> DWs K H xs ds -> DWs K H (x::xs) (d::ds)
end
section
variable {X : Cx} {pins : List (Addr × Obj)} {σ : St} {H : Hp} {s : Shared}
end
section
variable {X : Cx} {k : Nat}
noncomputable def zXA (K : PySem.W.Frag) : List V -> Hp -> VK -> Prop:=λxs H Q=>∃ x d,xs = [x]/\DW K H x d/\d.showable = true/\d.depth <= 100/\d.shown.length <= sizeLine/\Q (.str d.shown) H
end
section
variable {X : Cx} {k : Nat}
theorem zFW (ns : List Int) : ∀ k,k <= ns.length -> preSum (λi=>ns.getD i 0) k = (ns.take k).sum
 | 0,_=>rfl
 | k + 1,h=>by
  have e : preSum (λi=>ns.getD i 0) (k + 1) = preSum (λi=>ns.getD i 0) k + ns.getD k 0:=rfl;have hk : k < ns.length:=by lia
  rw [e,zFW ns k (by lia),List.take_succ,yAB hk,List.sum_append,yAc,yAB hk]
  simp
noncomputable def zbA (K : PySem.W.Frag) : List V -> Hp -> VK -> Prop:=λxs H Q=>∃ (p : Addr) (ns : List Int),xs = [.ref p]/\SqL K H p (ns.map V.int)/\Q (.int ns.sum) H
theorem zLT : ∀ {ns : List Int} {us : List Value},Vals (ns.map V.int) us -> ∀ i v,us[i]? = some v -> ∃ t,v = Value.int (ns.getD i 0) t
 | [],_,.nil,i,v,h=>by simp at h
 | n::ns,_,.cons r t,0,v,h=>by
  obtain ⟨tk,rfl⟩:=r
  simp at h
  exact ⟨tk,h.symm⟩
 | n::ns,_,.cons r t,i + 1,v,h=>by
  simp at h
  obtain ⟨tk,e⟩:=zLT t i v h;exact ⟨tk,by simpa using e⟩
theorem zQ6 (hc : X.calm = true) : zCZ X (.builtin "sum") (zbA X.K):=by
 intro pins s σ H xs us Q I r h;obtain ⟨p,ns,rfl,hq,q⟩:=h;obtain ⟨u,rfl,ru⟩:=zDJ r
 cases ru
 obtain ⟨its,rv,pl,hz⟩:=I.list hq;have hl:=rv.length;rw [yAC] at hl;have hh : X.A.in1.handled = none:=I.ok.hd hc;have hlt : p < s.heap.objs.size:=by obtain ⟨o,n,e,_⟩:=pl; exact yAI e
 refine call_sum_walkG (yDR pl.isList ?_);refine ⟨s.heap.objs.size,_,_,_,_,_,λi=>ns.getD i 0,rfl,Walks.list hh s.heap.objs.size p (yAh hlt) its.toArray,⟨⟨_,yAY _ rfl,rfl,rfl⟩,pl.isList.push _⟩,λb hb => ?_,λi v hP => ?_,λh' tk t' hk => ?_⟩
 ·have hb' : b = s.heap.objs.size \/ b = p:=by simpa using hb
  have : ∀ (h : Heap) (o : Obj),(h.push o).objs.size = h.objs.size + 1:=λh o=>by simp [Heap.push]
  show b < (s.heap.push _).objs.size;rw [this]
  rcases hb' with e | e
  ·rw [e]; exact yCy _
  ·rw [e]; exact yCI hlt
 ·exact zLT rv i v (by simpa using hP)
 ·rw [yAF,<- hl,zFW ns _ (yAG _),yCf]
  refine ⟨.int ns.sum,H,I.kept (t':=tk) λb o e => ?_,⟨_,rfl⟩,q⟩;exact hk b o (λzz=>by have e2:=yAI e; rw [yAJ.mp zz] at e2; exact yBk _ e2) (yAD _ e)
inductive RX (K : PySem.W.Frag) (xs : List V) (H : Hp) (Q : VK) : Prop
 | mk (h : zZU K xs H Q \/ zXA K xs H Q)
inductive RN (K : PySem.W.Frag) (x y : V) (H : Hp) (Q : VK) : Prop
 | flat (h : rIn K true x y H Q)
 | big (p : Addr) (zs : List Str) (d : PyData) (ey : y = .ref p) (hq : SqL K H p (zs.map V.str)) (hz : ∀ z∈zs,PyData.strOk z = true) (hd : DV K H x d \/ DW K H x d) (hl : d.canLay0 = true) (hn : ∀ z,PyData.eqv (.str z) d = false) (q : Q (.bl true) H)
 | dct (p a : Addr) (zs : List Str) (kvs : List (Key × V)) (ey : y = .ref p) (ex : x = .ref a) (hq : SqL K H p (zs.map V.str)) (hd : H a = some (.dK kvs)) (q : Q (.bl true) H)
end
section
variable {X : Cx} {pins : List (Addr × Obj)} {σ : St} {H : Hp} {s : Shared} {pos pos' : Pos} {o value : Expr} {fld : Str} {ta tv : TE}
end
section
variable {X : Cx} {a : Expr} {es : List Expr} {t : TA} {k : Nat} {C f : Addr} {bm : List Value} {fd : FuncData} {ps : List Str} {sp : Sp} {x fld : Str} {p cpos pos : Pos}
end
end L2
namespace L2E
open PySem PySem.Builtin.ObjectAttr
section
variable {prog : Program} {w : World} {A : Around} {E : Value -> Shared -> Prop} {h : Heap} {g : Array GenState} {d : Drawn} {t : Nat} {os : OsState} {a dx : Addr} {o : Obj}
 {nm q : Str} {C N : Addr} {bs bm : List Value} {hdct : Bool} {sn : List Str} {sub : List Value} {ab : Bool} {col : Option Bool} {dd : Option Addr} {k0 k1 k2 k3 k5 : Option Value} {newId : String}
theorem zR6 {R : Result -> Shared -> Prop} (at_ : h.get? C = some (excClassObj nm q C N bs bm hdct sn sub ab col dd k0 k1 k2 k3 k5 newId)) (ob : bm.contains (.type "object") = true) (hx : h.get? a = some o) (hc : o.cls = .ref C) (hq : R (.ok (.ret (.ref C))) ⟨h,g,d,t,os⟩) :
  codeAny (model prog w) A (.call (.builtin "getset_descriptor.__get__") ⟨[.builtin "object.__class__",.ref a,.ref C],[]⟩) R ⟨h,g,d,t,os⟩:=by
 have hT5 : (⟨h,g,d,t,os⟩ : Shared).TypeIs (.builtin "object.__class__") "getset_descriptor":=yEX;have hcB : (Value.ref C::bm).contains (.type "object") = true:=by rw [yAq,ob,yDE]
 refine yCE F.slot_gs_get.plain F.entry_gs_get (F.slot_gs_get.check _ _ _ _ _ _ _ _ hT5 (F.args_gs_get _ _ _) ?_)
 repeat (any_goals (first | assumption | (with_reducible refine yAR hx ?_; rw [hc]) | (rw [F.owner_object_class]; with_reducible refine yBt at_ ?_; rw [hcB]) | wp_step))
 refine ⟨yCo _ (by decide +kernel),yCJ F.entry_object_class ?_⟩
 repeat (any_goals (first | assumption | (with_reducible refine yAR hx ?_; rw [hc]) | wp_step))
theorem zMV {tk : Tok} {Q : Fin -> Shared -> Prop} (at_ : h.get? C = some (excClassObj nm q C N bs bm hdct sn sub ab col dd k0 k1 k2 k3 k5 newId)) (ob : bm.contains (.type "object") = true) (fc : Finds h C "__class__" (some (.builtin "object.__class__"))) (hx : h.get? a = some o) (hc : o.cls = .ref C) (hq : Q (.done (.ret (.ref C))) ⟨h,g,d,t,os⟩) :
  wpAny (model prog w) A (Builtin.«object.__getattribute__» ⟨[.ref a,.str "__class__" tk],[]⟩) Q E ⟨h,g,d,t,os⟩:=by
 have hT5 : (⟨h,g,d,t,os⟩ : Shared).TypeIs (.builtin "object.__class__") "getset_descriptor":=yEX;have f5:=yEX;have f6:=F.slot_gs_get.lookup;have f7:=F.slot_gs_set.lookup;unfold Builtin.«object.__getattribute__»
 repeat (any_goals (first | assumption | (with_reducible refine yAR hx ?_; rw [hc]) | wp_step))
 refine fc _ _ _ _ _ _ _ _ ?_
 repeat (any_goals (first | assumption | (with_reducible refine yAR hx ?_; rw [hc]) | wp_step))
 refine zR6 at_ ob hx hc ?_
 repeat (any_goals (first | assumption | wp_step))
theorem zUC {tk : Tok} {expr : Bool} {Q : Value -> Shared -> Prop} (base : bm.contains (.type "BaseException") = true) (at_ : h.get? C = some (excClassObj nm q C N bs bm hdct sn sub ab col dd k0 k1 k2 k3 k5 newId)) (ob : bm.contains (.type "object") = true) (fc : Finds h C "__class__" (some (.builtin "object.__class__")))
  (fg : Finds h C "__getattribute__" (some (.builtin "BaseException.__getattribute__"))) (fh : Finds h C "__getattr__" none) (hx : h.get? a = some o) (hc : o.cls = .ref C) (hq : Q (.ref C) ⟨h,g,d,t,os⟩) :
  wpAny (model prog w) A (getAttrBy (.ref a) (.str "__class__" tk) false expr) Q E ⟨h,g,d,t,os⟩:=by
 have f3:=zLB (.ref a);have hx0 : (expr&&onTheHeap (Value.builtin "BaseException.__getattribute__")) = false:=by cases expr <;> rfl
 have hx2 : (Value.builtin "BaseException.__getattribute__" == Value.builtin "object.__getattribute__") = false:=by decide +kernel
 have hx1 : (onTheHeap (Value.ref C)&&Value.builtin "BaseException.__getattribute__" == Value.builtin "object.__getattribute__") = false:=by rw [hx2]; rfl
 unfold getAttrBy
 repeat (any_goals (first | assumption | (with_reducible refine yAR hx ?_; rw [hc]) | wp_step))
 refine fg _ _ _ _ _ _ _ _ ?_
 repeat (any_goals (first | assumption | (with_reducible refine yAR hx ?_; rw [hc]) | wp_step))
 refine fh _ _ _ _ _ _ _ _ ?_
 repeat (any_goals (first | assumption | (with_reducible refine yAR hx ?_; rw [hc]) | wp_step))
 refine yCE (by decide +kernel) F.entry_bexc_ga (zI4 base at_ hx hc (zMV at_ ob fc hx hc ?_))
 repeat (any_goals (first | assumption | wp_step))
theorem classAttr {Q : Option Value -> Shared -> Prop} (base : bm.contains (.type "BaseException") = true) (at_ : h.get? C = some (excClassObj nm q C N bs bm hdct sn sub ab col dd k0 k1 k2 k3 k5 newId)) (ob : bm.contains (.type "object") = true) (fc : Finds h C "__class__" (some (.builtin "object.__class__")))
  (fg : Finds h C "__getattribute__" (some (.builtin "BaseException.__getattribute__"))) (fh : Finds h C "__getattr__" none) (hx : h.get? a = some o) (hc : o.cls = .ref C) (hq : Q (some (.ref C)) ⟨h,g,d,t + 1,os⟩) :
  wpAny (model prog w) A (getAttr? (.ref a) "__class__") Q E ⟨h,g,d,t,os⟩:=by
 unfold getAttr? getAttrBy?
 repeat (any_goals (first | assumption | with_reducible apply zUC base at_ ob fc fg fh hx hc | wp_step))
end
end L2E
namespace L2
open PySem PySem.Spec PyProof.Rows
noncomputable def zYY (a C : Addr) (h : Heap) : Prop:=∃ o,h.get? a = some o/\o.cls = .ref C
theorem zKK {K : PySem.W.Frag} {a C f : Addr} {bm : List Value} (ec : ErrC K C f bm) (fc : PySem.W.findIn K (.ref C) "__class__" = some (some (.builtin "object.__class__"))) : PySem.W.KitX K (.ref a) (.ref C) (zYY a C) where
 ty:=λM h _ p=>by
  obtain ⟨o,h1,h2⟩:=p;exact h2 ▸ (PySem.W.Looks.ld h1).andThen .now
 it:=λM h X _=>by
  obtain ⟨nm,q0,N,bs,sn,sub,ab,col,dd,k0,k1,k2,k3,k5,lk⟩:=ec.obj;intro A' Q' E' s' k q;unfold isType loadHead;exact yAA (wpAny_loadPart (k _ _ (X _ _ lk)) (yAH q))
 ne:=λh tp dd' its n sl X htp=>by
  obtain ⟨nm,q0,N,bs,sn,sub,ab,col,dd,k0,k1,k2,k3,k5,lk⟩:=ec.obj;refine yEF.mpr λq => ?_;have e : C = tp:=Value.ref.inj (yAe.mp q);subst e;have z:=congrArg Obj.cls (Option.some.inj ((X _ _ lk).symm.trans htp));have z' : ("type" : String) = "tuple":=Value.type.inj z;exact absurd z' (by decide)
 ca:=λ{prog w A E Q s} X p k=>by
  obtain ⟨nm,q0,N,bs,sn,sub,ab,col,dd,k0,k1,k2,k3,k5,lk⟩:=ec.obj;obtain ⟨o,h1,h2⟩:=p;obtain ⟨h,g,d,t,os⟩:=s;exact L2E.classAttr ec.base (X _ _ lk) ec.own (zCS X fc) (zCS X ec.ga) (zCS X ec.gh) h1 h2 k
section
variable {X : Cx}
inductive RI (K : PySem.W.Frag) : List V -> Hp -> VK -> Prop
 | own {a C Ck f : Addr} {dx : Option Addr} {bm : List Value} {H : Hp} {Q : VK} (b : Bool) (h : H a = some (zGI a C dx)) (ec : ErrC K C f bm) (fc : PySem.W.findIn K (.ref C) "__class__" = some (some (.builtin "object.__class__"))) (e : PySem.W.kitOne K (.ref C) (.ref Ck) = some b) (q : Q (.bl b) H) : RI K [.ref a,.ref Ck] H Q
 | ty {a C f : Addr} {dx : Option Addr} {n : String} {bm : List Value} {H : Hp} {Q : VK} (b : Bool) (h : H a = some (zGI a C dx)) (ec : ErrC K C f bm) (fc : PySem.W.findIn K (.ref C) "__class__" = some (some (.builtin "object.__class__"))) (e : PySem.W.kitOne K (.ref C) (.type n) = some b) (q : Q (.bl b) H) : RI K [.ref a,.ty n] H Q
end
section
variable {X : Cx}
inductive RIH (K : PySem.W.Frag) : List V -> Hp -> VK -> Prop
 | own {a C Ck dx f : Addr} {bm : List Value} {H : Hp} {Q : VK} (b : Bool) (h : H a = some (zQE a C dx)) (ec : ErrC K C f bm) (fc : PySem.W.findIn K (.ref C) "__class__" = some (some (.builtin "object.__class__"))) (e : PySem.W.kitOne K (.ref C) (.ref Ck) = some b) (q : Q (.bl b) H) : RIH K [.ref a,.ref Ck] H Q
 | ty {a C dx f : Addr} {n : String} {bm : List Value} {H : Hp} {Q : VK} (b : Bool) (h : H a = some (zQE a C dx)) (ec : ErrC K C f bm) (fc : PySem.W.findIn K (.ref C) "__class__" = some (some (.builtin "object.__class__"))) (e : PySem.W.kitOne K (.ref C) (.type n) = some b) (q : Q (.bl b) H) : RIH K [.ref a,.ty n] H Q
theorem zMM : zCZ X (.builtin "isinstance") (RIH X.K):=by
 intro pins s σ H xs us Q I r h
 cases h with
 | own b h ec fc e q =>
  obtain ⟨u,w',rfl,r1,r2⟩:=zRQ r
  cases r1
  cases r2
  obtain ⟨vs,sl,hx⟩:=(I.hok _ _ h).1;exact yBb (zKK ec fc) I.kIn ⟨_,hx,rfl⟩ e (λz=>nomatch z) λtk=>⟨.bl b,H,I.tok _,rfl,q⟩
 | ty b h ec fc e q =>
  obtain ⟨u,w',rfl,r1,r2⟩:=zRQ r
  cases r1
  cases r2
  obtain ⟨vs,sl,hx⟩:=(I.hok _ _ h).1;exact yBb (zKK ec fc) I.kIn ⟨_,hx,rfl⟩ e (λz=>nomatch z) λtk=>⟨.bl b,H,I.tok _,rfl,q⟩
theorem zIR {K : PySem.W.Frag} (hK : X.K = K) : zCZ X (.builtin "isinstance") (RIH K):=by subst hK; exact zMM
theorem zSD {K : PySem.W.Frag} {fld : Str} {pos : Pos} {e : Expr} {ta : TE} (hK : X.K = K) (he : PE X e ta) (hb : attributeBase e fld X.env (eval e X.env) = eval e X.env) : PE X (.Attribute e fld pos) (zYJ K ta fld):=by subst hK; exact zUZ he hb
theorem zT2 {hs : List ExceptHandler} : PH X hs (λ_ _ _ _ _=>False):=λ_ _ _ _ _ _ _ _ _ _ _ _ _ h=>False.elim h
end
end L2
namespace HT
open PySem PySem.Spec PyProof.Rows
section
variable {prog : Program} {w : World} {A : Around} {E : Value -> Shared -> Prop} {s : Shared}
theorem zEW {sl : Addr} {vk : Value} {n : Nat} {Q : Int × Int × Nat -> Shared -> Prop} (hs : s.heap.IsSliceOf sl .none .none vk) (pk : IsPart vk (some (-1)))
  (h : Q ((n : Int) - 1,-1,n) s) : wpAny (model prog w) A (Builtin.Slice.sliceApplied (.ref sl) (pure (n : Int))) Q E s:=by
 obtain ⟨os,hos,hcs,hds⟩:=id hs;unfold Builtin.Slice.sliceApplied Builtin.Slice.sliceFields;refine yAA (yAA (yCA hos hds (x := .none) rfl (yAA (yCA hos hds (x := .none) rfl (yAA (yCA hos hds (x:=vk) rfl (yAH ?_)))))));refine yAA (zE7 pk ?_);show wpAny _ _ (if ((-1 : Int) == 0) = true then _ else _) _ _ s;rw [yAN (by decide)];refine yAA (slicePart_none (yAA (slicePart_none (yAA (yAH ?_)))));show wpAny _ _ (pure ((n : Int) - 1,(-1 : Int),Builtin.Slice.slicePlaces ((n : Int) - 1) (-1) (-1))) _ _ s
 have e : Builtin.Slice.slicePlaces ((n : Int) - 1) (-1) (-1) = n:=by
  unfold Builtin.Slice.slicePlaces;rw [yAN (by decide)]
  by_cases c : (n : Int) - 1 > -1
  ·rw [yAK c,show -(-1 : Int) = 1 from rfl,Int.ediv_one]; lia
  ·rw [yAN c]; lia
 rw [e];exact yAH h
theorem zKW {α β : Type} {f g : α -> Option β} : ∀ l : List α,(∀ k∈l,f k = g k) -> l.filterMap f = l.filterMap g
 | [],_=>rfl
 | a::r,h=>by rw [yBu,yBu,h a yAQ,zKW r λk hk=>h k (yAP _ hk)]
theorem zR7 (xs : Array Value) : ((List.range xs.size).filterMap λ(k : Nat)=>xs[((xs.size : Int) - 1 + (k : Int) * -1).toNat]?).toArray = xs.toList.reverse.toArray:=by
 have e : (List.range xs.size).filterMap (λ(k : Nat)=>xs[((xs.size : Int) - 1 + (k : Int) * -1).toNat]?) = ((List.range xs.size).map λk=>xs.size - 1 - k).filterMap (xs[·]?):=by
  rw [yDr];refine zKW _ λk hk => ?_
  have:=yBL.mp hk
  show xs[((xs.size : Int) - 1 + (k : Int) * -1).toNat]? = xs[xs.size - 1 - k]?;rw [show ((xs.size : Int) - 1 + (k : Int) * -1).toNat = xs.size - 1 - k by lia]
 rw [e,PySem.W.krv_range,List.filterMap_reverse,PySem.W.krv_all]
theorem getItem_tuple_rev {t sl : Addr} {items : Array Value} {vk : Value} {Q : Value -> Shared -> Prop} (ht : IsTup s.heap t items) (hs : s.heap.IsSliceOf sl .none .none vk) (pk : IsPart vk (some (-1)))
  (h : Q (.ref s.heap.objs.size) { s with heap:=s.heap.push { cls := .type "tuple",data := .seq items.toList.reverse.toArray } })
  (hsz : items.size <= sizeLine) : wpAny (model prog w) A (getItem (.ref t) (.ref sl)) Q E s:=by
 have htake : sizeOk (.seq items.toList.reverse.toArray):=by
  show items.toList.reverse.toArray.size <= sizeLine;rw [yAF,yBn,yAx];lia
 obtain ⟨os,hos,hcs,hds⟩:=id hs;have hTs : s.TypeIs (.ref sl) "slice":=⟨os,hos,hcs⟩;unfold getItem
 try with_reducible refine yBd ?_
 first | refine yAA (yAH ?_) | skip
 refine yAA (wpAny_sequenceKey ht.typeIs (by decide) ?_)
 refine yAA (yCa (name:=Str.ofString "__getitem__") ht.typeIs yBe
  (yDY yBe ht.typeIs entry_tuple_getitem ?_ (args_tuple_getitem _ _)))
 show wpAny _ _ (Builtin.Tuple.tupleItemsOf (.ref t) >>= _) _ _ s;refine yAA (tupleItemsOf_ ht ?_);refine yAA (yDm hTs ?_);rw [yAK (by decide)];refine yAA (zEW hs pk ?_)
 have hno : ¬ ((((items.size : Nat) : Int) - 1 == 0&&(-1 : Int) == 1&&items.size == items.size) = true):=by
  intro q;rw [yAk,yAk] at q;exact absurd q.1.2 (by decide)
 show wpAny _ _ (if (((items.size : Nat) : Int) - 1 == 0&&(-1 : Int) == 1&&items.size == items.size) = true then _ else _) _ _ s;rw [yAN hno,zR7]
 first
  | exact yAA (m:=Builtin.Tuple.tupleExact _) (yBQ (yAH ⟨_,rfl,yAH h⟩) htake)
  | exact yAA (m:=Builtin.Tuple.tupleExact _) (yBQ (yAA (yAH (yAH ⟨_,rfl,yAH h⟩))) htake)
  | exact yAA (yAA (m:=Builtin.Tuple.tupleExact _) (yBQ (yAH (yAH ⟨_,rfl,yAH h⟩)) htake))
  | exact yAA (yAA (m:=Builtin.Tuple.tupleExact _) (yBQ (yAH ⟨_,rfl,yAH h⟩) htake))
end
end HT
namespace L2
open PySem PySem.Spec PyProof.Rows
section
variable {X : Cx} {pos : Pos}
noncomputable def zZC (K : PySem.W.Frag) (te : TE) : TE:=λσ H Q=>te σ H λx H1=>∃ a xs,x = .ref a/\SqT K H1 a xs/\∀ p,H1 p = none -> Q (.ref p) (upd H1 p (.tup xs.reverse))
theorem zU6 {e : Expr} {te : TE} {p1 p2 p3 p4 pos : Pos} {c : Nat} (he : PE X e te) : PE X (.Subscript e (.Slice none none (some (.UnaryOp .USub (.Constant (.int 1) c p1) p2)) p3) pos) (zZC X.K te):=by
 intro pins s σ H Q I h;refine yEY (thn (he pins s σ H _ I h) λv s1 hM => ?_);obtain ⟨x,H1,I1,r1,q1⟩:=hM;obtain ⟨a,xs,rfl,hx,q⟩:=q1
 cases r1
 refine wpAny_Slice (thn (zAN pins s1 σ H1 (λo H2=>o = none/\H2 = H1) I1 ⟨rfl,rfl⟩) λvl s2 hM => ?_);obtain ⟨l,H2,I2,pl,q2⟩:=hM;refine thn (zAN pins s2 σ H2 (λo H3=>o = none/\H3 = H1) I2 ⟨rfl,q2.2⟩) λvu s3 hM => ?_;obtain ⟨u,H3,I3,pu,q3⟩:=hM;refine thn (zAL (zW0 zOE zA4) pins s3 σ H3 (λo H4=>o = some (-1)/\H4 = H1) I3 ⟨1,rfl,-1,rfl,rfl,q3.2⟩) λvk s4 hM => ?_;obtain ⟨w,H4,I4,pk,q4⟩:=hM;obtain ⟨rfl,rfl⟩:=q4;obtain ⟨rfl,_⟩:=q2;obtain ⟨rfl,_⟩:=q3;obtain ⟨its,r,ht,hz⟩:=I4.tuple hx;have hlen:=r.length;have I5 : Inv X pins σ H4 { s4 with heap:=s4.heap.push { cls := .type "slice",data := .fields #[vl,vu,vk] } }:=I4.kept (t':=s4.toks) λb ob q=>yAD _ q;have nl : vl = .none:=by cases pl; rfl
 have nu : vu = .none:=by cases pu; rfl
 subst nl nu;obtain ⟨its5,r5,ht5,hz5⟩:=I5.tuple hx
 refine tail_any (ops:=[.ref a,.ref s4.heap.objs.size]) (s:={ s4 with heap:=s4.heap.push { cls := .type "slice",data := .fields #[.none,.none,vk] } }) ht5.typeIs slot_tuple_getitem.lookup
  (HT.getItem_tuple_rev ht5 (Heap.IsSliceOf.new ..) pk ?_ (by rw [yAF]; have:=r5.length; lia)) (by with_unfolding_all rfl)
 refine ⟨.ref _,_,I5.laid (t':=s4.toks) (o := .tup xs.reverse) (λb ob q=>yAD _ q) (yAG _) ?_,rfl,q _ I5.fresh⟩;exact ⟨by rw [yBn]; exact hz5,_,r5.reverse,IsTup.new _ _⟩
end
section
variable {X : Cx} {pos : Pos}
noncomputable def zZE (K : PySem.W.Frag) : R2:=λx y H Q=>∃ l b xs zs,x = .ref l/\y = .ref b/\SqL K H l xs/\SqL K H b zs/\xs.length + zs.length <= sizeLine/\∀ p,H p = none -> Q (.ref p) (upd H p (.lst (xs++zs)))
theorem zU0 : OpR X (binaryOp .Add) (zZE X.K):=by
 intro pins s σ H x y v u Q I rx ry h;obtain ⟨l,b,xs,zs,rfl,rfl,hH,hB,hz,q⟩:=h
 cases rx
 cases ry
 obtain ⟨its,r,⟨⟨cls,dd,data,sl⟩,n,ho,hc,_,hd⟩,_⟩:=I.list hH;obtain ⟨its2,r2,⟨⟨cls2,dd2,data2,sl2⟩,n2,ho2,hc2,_,hd2⟩,_⟩:=I.list hB;have l1:=r.length;have l2:=r2.length;simp only at hc hd hc2 hd2;subst hc hd hc2 hd2;refine concat_meets ⟨_,ho,rfl⟩ ⟨_,ho2,rfl⟩ noFill_list_add seq_list_add PySem.F.slot_list_add PySem.F.entry_list_add (PySem.F.args_list_add_2 _ _) (list_addW l b its.toArray its2.toArray n n2 dd dd2 sl sl2 (by rw [yAF,yAF]; lia)) ⟨ho,ho2,?_⟩;have ea : its.toArray++its2.toArray = (its++its2).toArray:=by simp
 rw [ea];exact ⟨.ref _,_,I.lnew (t':=s.toks) (r.append r2) (by rw [yAU]; lia),rfl,q _ I.fresh⟩
noncomputable def zZR (K : PySem.W.Frag) (te : TE) : TE:=λσ H Q=>te σ H λx H1=>∃ a xs,x = .ref a/\SqL K H1 a xs/\∀ p,H1 p = none -> Q (.ref p) (upd H1 p (.lst (xs.drop 1).reverse))
theorem zI5 {α β : Type} {f g : α -> Option β} : ∀ l : List α,(∀ k∈l,f k = g k) -> l.filterMap f = l.filterMap g
 | [],_=>rfl
 | a::r,h=>by rw [yBu,yBu,h a yAQ,zI5 r λk hk=>h k (yAP _ hk)]
theorem zM5 (m : Nat) : sliceRange ((m + 1 : Nat) - 1 : Int) 0 (-1) = (List.range m).map λk=>m - k:=by
 unfold sliceRange;have h1 : ¬ ((-1 : Int) > 0):=by decide
 by_cases h : ((m + 1 : Nat) - 1 : Int) > 0
 ·have e : (((m + 1 : Nat) - 1 : Int) - 0 - -1 - 1) / (- -1) = (m : Int):=by
   rw [show (- -1 : Int) = 1 by decide,Int.ediv_one];lia
  simp only [h1,yCb,h,yDu,e,yAS];apply yDk;intro k hk
  have:=yBL.mp hk
  lia
 ·have e : m = 0:=by lia
  subst e
  simp
theorem zPV (its : List Value) : slicePick its.toArray none (some 0) (some (-1)) = (its.drop 1).reverse.toArray:=by
 rcases its with _ | ⟨a,r⟩
 ·rfl
 have hb : sliceBounds none (some 0) (some (-1)) (a::r).length = (((r.length + 1 : Nat) : Int) - 1,0,-1):=by
  simp [sliceBounds]
  try lia
 unfold slicePick;rw [yAF,hb];show ((sliceRange ((r.length + 1 : Nat) - 1 : Int) 0 (-1)).filterMap ((a::r).toArray[·]?)).toArray = _;rw [zM5]
 congr 1
 have e : ((List.range r.length).map λk=>r.length - k).filterMap ((a::r).toArray[·]?) = ((List.range r.toArray.size).map λk=>r.toArray.size - 1 - k).filterMap (r.toArray[·]?):=by
  rw [yDr,yDr,yAF];refine zI5 _ λk hk => ?_
  have:=yBL.mp hk
  show (a::r).toArray[r.length - k]? = r.toArray[r.length - 1 - k]?;rw [List.getElem?_toArray,List.getElem?_toArray,show r.length - k = (r.length - 1 - k) + 1 by lia,List.getElem?_cons_succ]
 rw [e,PySem.W.krv_range,List.filterMap_reverse,PySem.W.krv_all];rfl
theorem zUY {e : Expr} {te : TE} {p0 p1 p2 p3 p4 pos : Pos} {c d : Nat} (he : PE X e te) : PE X (.Subscript e (.Slice none (some (.Constant (.int 0) d p0)) (some (.UnaryOp .USub (.Constant (.int 1) c p1) p2)) p3) pos) (zZR X.K te):=by
 intro pins s σ H Q I h;refine yEY (thn (he pins s σ H _ I h) λv s1 hM => ?_);obtain ⟨x,H1,I1,r1,q1⟩:=hM;obtain ⟨a,xs,rfl,hx,q⟩:=q1
 cases r1
 refine wpAny_Slice (thn (zAN pins s1 σ H1 (λo H2=>o = none/\H2 = H1) I1 ⟨rfl,rfl⟩) λvl s2 hM => ?_);obtain ⟨l,H2,I2,pl,q2⟩:=hM;refine thn (zAL (zA4) pins s2 σ H2 (λo H3=>o = some 0/\H3 = H1) I2 ⟨0,rfl,rfl,q2.2⟩) λvu s3 hM => ?_;obtain ⟨u,H3,I3,pu,q3⟩:=hM;refine thn (zAL (zW0 zOE zA4) pins s3 σ H3 (λo H4=>o = some (-1)/\H4 = H1) I3 ⟨1,rfl,-1,rfl,rfl,q3.2⟩) λvk s4 hM => ?_;obtain ⟨w,H4,I4,pk,q4⟩:=hM;obtain ⟨rfl,rfl⟩:=q4;obtain ⟨rfl,_⟩:=q2;obtain ⟨rfl,_⟩:=q3;obtain ⟨its,r,ht,hz⟩:=I4.list hx;have hlen:=r.length;have I5 : Inv X pins σ H4 { s4 with heap:=s4.heap.push { cls := .type "slice",data := .fields #[vl,vu,vk] } }:=I4.kept (t':=s4.toks) λb ob q=>yAD _ q;have hl5 : (s4.heap.push { cls := .type "slice",data := .fields #[vl,vu,vk] }).IsList a its.toArray:=ht.isList.push _
 refine tail_any (ops:=[.ref a,.ref s4.heap.objs.size]) (s:={ s4 with heap:=s4.heap.push { cls := .type "slice",data := .fields #[vl,vu,vk] } }) (Heap.IsList.typeIs (s:={ s4 with heap:=s4.heap.push { cls := .type "slice",data := .fields #[vl,vu,vk] } }) hl5) slot_list_getitem.lookup
  (yDy hl5 (Heap.IsSliceOf.new ..) pl pu pk (by simp) ?_ (by rw [yAF]; lia)) (by with_unfolding_all rfl)
 rw [zPV];refine ⟨.ref _,_,I5.lnew (t':=s4.toks) (ys:=(xs.drop 1).reverse) (r.drop 1).reverse (by rw [yBn,yCg]; lia),rfl,q _ I5.fresh⟩
end
end L2
namespace HT
open PySem PySem.W PySem.Calls PyProof.Rows
noncomputable def zEB (tb : String -> Option Builtin) (p : Program) (w : World) (m : Nat) (ann : Option Value) : Nat -> SharedT -> Thread -> Option SharedT
 | 0,_,_=>none
 | n + 1,s,t=>match through t with
  | true=>some s
  | false=>match stepOk m ann t with
   | false=>none
   | true=>match stepT (denote tb) p w s t with
    | some (s',t')=>zEB tb p w m ann n s' t'
    | none=>none
theorem zGA {tb : String -> Option Builtin} {p : Program} {w : World} {m : Nat} {ann : Option Value} : ∀ {n : Nat} {s s' : SharedT} {t : Thread},zEB tb p w m ann n s t = some s' -> topRun tb p w m ann n s.abs t = some s'.abs
 | 0,_,_,_,h=>by cases h
 | n + 1,s,s',t,h=>by
  unfold zEB at h;unfold topRun
  cases he : through t with
  | true=>rw [he] at h; cases h; rfl
  | false =>
   rw [he] at h
   cases hk : stepOk m ann t with
   | false=>rw [hk] at h; cases h
   | true =>
    rw [hk] at h
    cases hs : stepT (denote tb) p w s t with
    | none=>rw [hs] at h; cases h
    | some r=>obtain ⟨a,b⟩:=r; rw [hs] at h; rw [stepT_spec hs]; exact zGA h
noncomputable def bt (l : List Obj) : Nat -> Nat -> Nat -> BT
 | 0,_,_ => .nil
 | n + 1,a,b=>match l[b]? with
  | some o => .node o (bt l n (2 * a) (a + b)) (bt l n (2 * a) (2 * a + b))
  | none => .nil
noncomputable def zXF (P : Params) : BT:=bt (boot_heap P).objs.toList 10 1 0
noncomputable def zM2 : Nat:=11
theorem zQU (P : Params) : absHeap (zXF P) zM2 (boot_heap P).life = boot_heap P:=by
 kernel_rfl
theorem zSA (P : Params) : (boot_heap P).nsMap mainGlobals "__annotations__" = some (Value.ref 6):=by kernel_rfl
theorem zVY (P : Params) : (boot_heap P).isNs mainGlobals = true:=by kernel_rfl
theorem zOK (P : Params) : (boot_heap P).objs.size = zM2:=by kernel_rfl
noncomputable def zID (P : Params) (os : OsState) : SharedT:=⟨zXF P,zM2,(boot_heap P).life,Array.mk [],boot_drawn,boot_toks,os⟩
theorem zLV (P : Params) (os : OsState) : (zID P os).abs = ⟨boot_heap P,Array.mk [],boot_drawn,boot_toks,os⟩:=by
 unfold zID SharedT.abs;dsimp only;rw [zQU]
noncomputable def ran (p q : Program) (loose : List Str) (Xt : Shared -> Bool) {α : Type} (Yf : Shared -> α) (N : Nat) (w : World) (os : OsState) :=
 (zEB treeTable p w zM2 (some (Value.ref 6)) N (zID w.params os) (topStub p)).map λs =>
  (staticsOk (importedModules p.main.body) (boot_heap w.params) s.abs.heap&&namesBound p s.abs.heap&&gensDone s.abs&&laidKept (boot_heap w.params) s.abs.heap,
   openSeen q loose (importedModules p.main.body) Xt true s.abs,Yf s.abs)
theorem zUX {p q : Program} {loose : List Str} {Xt : Shared -> Bool} {α : Type} {Yf : Shared -> α} {Ya : World -> α} {N : Nat}
  (e : opening p = plainProg p.main.scope.names) (hN : Nat.ble 600 N = true) (f : ∀ s,fenceModules? p s = some s)
  (h : ∀ w os,ran p q loose Xt Yf N w os = some (true,openGood q loose,Ya w)) : LeftO p q loose Xt Yf Ya N:=λw=>by
 obtain ⟨⟨hp,gs,d,k,os⟩,e1,e2⟩:=yCj.mp (boot_open e hN f w);obtain ⟨rfl,rfl,rfl,rfl⟩ : hp = boot_heap w.params/\gs = Array.mk []/\d = boot_drawn/\k = boot_toks:=by simpa using e2
 obtain ⟨s,r1,r2⟩:=yCj.mp (h w os);have r3:=zGA r1;rw [zLV] at r3;obtain ⟨l1,l2,l3⟩ : _/\_/\_:=by simpa only [Prod.mk.injEq] using r2
 have t : topFrom treeTable p w N ⟨boot_heap w.params,Array.mk [],boot_drawn,boot_toks,os⟩ = some s.abs:=by
  unfold topFrom;dsimp only;rw [zSA,zVY,zOK,r3];show (match staticsOk (importedModules p.main.body) (boot_heap w.params) s.abs.heap&&namesBound p s.abs.heap&&gensDone s.abs&&laidKept (boot_heap w.params) s.abs.heap with | true=>_ | false=>_) = _;rw [l1]
 unfold openEnds;rw [e1];show (topFrom treeTable p w N _).map _ = _;rw [t];exact congrArg some (Prod.ext l2 l3)
noncomputable def only (p : Program) (l : List Stmt) : Program:={ p with main:={ p.main with body:=l } }
end HT
namespace HT
open PySem PySem.W PySem.Calls PyProof.Rows
noncomputable def chk (p q : Program) (loose : List Str) (Xt : Shared -> Bool) (N : Nat) (w : World) (os : OsState) :=
 (zEB treeTable p w zM2 (some (Value.ref 6)) N (zID w.params os) (topStub p)).map λs =>
  (staticsOk (importedModules p.main.body) (boot_heap w.params) s.abs.heap&&namesBound p s.abs.heap&&gensDone s.abs&&laidKept (boot_heap w.params) s.abs.heap,
   openSeen q loose (importedModules p.main.body) Xt true s.abs)
noncomputable def obs (p : Program) {α : Type} (Yf : Shared -> α) (N : Nat) (w : World) (os : OsState) :=
 (zEB treeTable p w zM2 (some (Value.ref 6)) N (zID w.params os) (topStub p)).map λs=>Yf s.abs
theorem left_of2 {p q : Program} {loose : List Str} {Xt : Shared -> Bool} {α : Type} {Yf : Shared -> α} {Ya : World -> α} {N : Nat}
  (e : opening p = plainProg p.main.scope.names) (hN : Nat.ble 600 N = true) (f : ∀ s,fenceModules? p s = some s)
  (h1 : ∀ w os,chk p q loose Xt N w os = some (true,openGood q loose)) (h2 : ∀ w os,obs p Yf N w os = some (Ya w)) : LeftO p q loose Xt Yf Ya N:=zUX e hN f λw os=>by
 have a:=h1 w os;have b:=h2 w os;unfold chk at a;unfold obs at b;unfold ran;obtain ⟨s,h,ea⟩:=yCj.mp a;rw [h] at b ⊢;have eb : Yf s.abs = Ya w:=Option.some.inj b;rw [yCU]
 congr 1
 injection ea with e1 e2
 rw [e1,e2,eb]
theorem obs_app {p : Program} {N : Nat} {w : World} {os : OsState} {as bs : List Addr} {r q : List (Option Obj)} (h1 : obs p (λs=>as.map s.heap.get?) N w os = some r) (h2 : obs p (λs=>bs.map s.heap.get?) N w os = some q) : obs p (λs=>(as++bs).map s.heap.get?) N w os = some (r++q):=by
 unfold obs at h1 h2 ⊢;obtain ⟨s,h,ea⟩:=yCj.mp h1;rw [h] at h2 ⊢;have eb : bs.map s.abs.heap.get? = q:=Option.some.inj h2;rw [yCU]
 congr 1
 show (as++bs).map s.abs.heap.get? = r++q;rw [yAa,eb]
 congr 1
end HT
namespace S
open PySem L2
noncomputable def top (i : Nat) : Stmt:=PySem.Challenge.pw_alwaysmeet_k34_houses_that_fall_one_by_o.main.body.getD i (.Pass ⟨0,0,0,0⟩)
noncomputable def zMY (c i : Nat) : Stmt:=match top c with
 | .ClassDef _ _ _ b .. => b.getD i (.Pass ⟨0,0,0,0⟩)
 | _ => .Pass ⟨0,0,0,0⟩
noncomputable abbrev zO0 : Stmt:=top 14
noncomputable abbrev zJW : Stmt:=top 15
noncomputable abbrev zUL : Stmt:=top 16
noncomputable abbrev zTZ : Stmt:=top 17
noncomputable abbrev zYX : Stmt:=top 20
noncomputable abbrev zP4 : Stmt:=top 23
noncomputable abbrev zZ2 : Stmt:=top 24
noncomputable abbrev zZQ : Stmt:=top 25
noncomputable abbrev zZN : Stmt:=top 26
noncomputable abbrev zUW : Stmt:=top 33
noncomputable abbrev zHB : Stmt:=top 34
noncomputable abbrev zHJ : Stmt:=top 28
noncomputable abbrev zGX : Stmt:=top 29
noncomputable abbrev zLI : Stmt:=top 30
noncomputable abbrev zJS : Stmt:=top 38
noncomputable abbrev zNI : Stmt:=top 41
noncomputable abbrev zJ6 : Stmt:=top 44
noncomputable abbrev zRZ : Stmt:=top 55
noncomputable abbrev zWE : Stmt:=zMY 21 0
noncomputable abbrev zP9 : Stmt:=zMY 21 1
noncomputable abbrev zW8 : Stmt:=zMY 21 2
noncomputable abbrev zJ8 : Stmt:=zMY 21 3
noncomputable abbrev zU1 : Stmt:=zMY 21 4
noncomputable abbrev zOA : Stmt:=zMY 21 5
noncomputable abbrev zPB : Stmt:=zMY 35 0
noncomputable abbrev zH9 : Stmt:=zMY 35 1
noncomputable abbrev zO3 : Stmt:=zMY 35 4
noncomputable abbrev zFP : Stmt:=zMY 35 11
noncomputable abbrev zNW : Stmt:=zMY 35 13
noncomputable abbrev zCI : Stmt:=zMY 2 0
noncomputable abbrev zC3 : Stmt:=zMY 9 0
noncomputable abbrev zDF : Stmt:=top 37
noncomputable abbrev zCU : Stmt:=top 39
noncomputable abbrev zCF : Stmt:=top 40
noncomputable abbrev zDL : Stmt:=top 42
noncomputable abbrev zDK : Stmt:=top 43
noncomputable abbrev zD2 : Stmt:=top 45
noncomputable abbrev zD1 : Stmt:=top 46
noncomputable abbrev zCR : Stmt:=top 47
noncomputable abbrev zDQ : Stmt:=top 48
noncomputable abbrev zE8 : Stmt:=top 49
noncomputable abbrev zBP : Stmt:=top 50
noncomputable abbrev zFG : Stmt:=top 51
noncomputable abbrev zDM : Stmt:=top 52
noncomputable abbrev zB6 : Stmt:=top 53
noncomputable abbrev zBJ : Stmt:=top 54
end S
namespace L2
open PySem PySem.Spec PyProof.Rows
theorem zRM {o0 : HO} {xs : List Str} {fv : List (Str × Nat)} {g : TG} {tt : TT} {tb : TB} {σ : St} {H1 : Hp} {Q : VK} {z : Str} (Pv : Nat -> Addr -> Hp -> Prop) (h0 : ∀ D,H1 D = none -> Pv 0 D (upd H1 D o0))
  (hs : ∀ i D H' c,H1 D = none -> z.cps[i]? = some c -> Pv i D H' -> g (.str ⟨#[c]⟩) (ρT xs fv σ) H' λσ2 H2=>zHQ xs (ρT xs fv σ) σ2/\tt σ2 H2 λb H3=>if b = true then tb D σ2 H3 (Pv (i + 1) D) else Pv (i + 1) D H3)
  (hd : ∀ D H',H1 D = none -> Pv z.cps.size D H' -> Q (.ref D) H') : zD3 o0 xs fv g tt tb σ (Its z) H1 Q:=by
 refine zBZ z.cps.size Pv h0 (λi D H' hD hi hP=>hi) (λD H' hD hP=>yAG _) (λi D H' x H2 hD hi hP y => ?_) hd;obtain ⟨rfl,c,hc,rfl⟩:=y;exact hs i D _ c hD hc hP
theorem same_new {H : Hp} {p : Addr} (h : H p = none) (o : HO) : Same H (upd H p o):=λb u q=>by rw [zA7 (zA6 q h)]; exact q
theorem zB4 {H : Hp} {p : Addr} (h : H p = none) (o : HO) : ∃ H2,Same H H2∧H2 p = some o∧upd H p o = H2:=⟨_,same_new h o,zA1,rfl⟩
end L2
namespace S
open PySem L2
noncomputable def LET : Str:="abcdefghijklmnopqrstuvwxyz"
noncomputable def OWN : List Str:=["lots","many","weights","grid","wall","tree","put","reads","writes","none","stands","falls","all"]
noncomputable def zK8 (z signs : Str) : Bool:=z.cps.toList.all λc=>decide (c∈signs.cps.toList)
noncomputable def zEC (z : Str) (most : Int) : Bool:=decide (1 <= (z.length : Int))&&decide ((z.length : Int) <= most)
noncomputable def zOP (x : V) (signs : Str) (most : Int) : Bool:=match x with
 | .str z=>zEC z most&&zK8 z signs
 | _=>false
noncomputable def zaW (x : V) : Bool:=match x with
 | .int _=>true
 | .bl _=>true
 | _=>false
noncomputable def zY6 (x : V) : Bool:=match x with
 | .bl _=>true
 | _=>false
noncomputable def zaZ (x : V) : Bool:=match x with
 | .str _=>true
 | _=>false
noncomputable def zOX (x : V) : Bool:=match x with
 | .int _=>true
 | _=>false
noncomputable def zJF (x : V) (lo hi : Int) : Bool:=match x with
 | .int i=>decide (lo <= i)&&decide (i <= hi)
 | _=>false
noncomputable def zaS (x : V) : Bool:=inV x (OWN.map V.str)
noncomputable def zC9 (x : V) : Bool:=zOP x LET 6 && !zaS x
noncomputable def Th (H : Hp) (x : V) : Prop:=match x with
 | .non=>True
 | .bl _=>True
 | .int _=>True
 | .str z=>z.length <= 100000
 | .ref a=>(∃ xs,H a = some (.lst xs)) \/ (∃ xs,H a = some (.tup xs)) \/ ∃ kvs,H a = some (.dK kvs)
 | _=>False
theorem Th.mono {H H' : Hp} {x : V} (g : Same H H') (h : Th H x) : Th H' x:=by
 cases x with
 | ref a =>
  rcases h with ⟨xs,h⟩ | ⟨xs,h⟩ | ⟨kvs,h⟩
  ·exact .inl ⟨xs,g _ _ h⟩
  ·exact .inr (.inl ⟨xs,g _ _ h⟩)
  ·exact .inr (.inr ⟨kvs,g _ _ h⟩)
 | _=>exact h
structure Kit (K : PySem.W.Frag) : Prop where
 i_non : PySem.W.kitOne K (.type "NoneType") (.type "int") = some false
 i_bool : PySem.W.kitOne K (.type "bool") (.type "int") = some true
 i_str : PySem.W.kitOne K (.type "str") (.type "int") = some false
 i_list : PySem.W.kitOne K (.type "list") (.type "int") = some false
 i_tup : PySem.W.kitOne K (.type "tuple") (.type "int") = some false
 i_dict : PySem.W.kitOne K (.type "dict") (.type "int") = some false
 b_non : PySem.W.kitOne K (.type "NoneType") (.type "bool") = some false
 b_int : PySem.W.kitOne K (.type "int") (.type "bool") = some false
 b_str : PySem.W.kitOne K (.type "str") (.type "bool") = some false
 b_list : PySem.W.kitOne K (.type "list") (.type "bool") = some false
 b_tup : PySem.W.kitOne K (.type "tuple") (.type "bool") = some false
 b_dict : PySem.W.kitOne K (.type "dict") (.type "bool") = some false
 s_non : PySem.W.kitOne K (.type "NoneType") (.type "str") = some false
 s_int : PySem.W.kitOne K (.type "int") (.type "str") = some false
 s_bool : PySem.W.kitOne K (.type "bool") (.type "str") = some false
 s_list : PySem.W.kitOne K (.type "list") (.type "str") = some false
 s_tup : PySem.W.kitOne K (.type "tuple") (.type "str") = some false
 s_dict : PySem.W.kitOne K (.type "dict") (.type "str") = some false
theorem zV3 {K : PySem.W.Frag} (k : Kit K) {H : Hp} {x : V} (h : Th H x) : ∃ t,TyOf K H x t/\PySem.W.kitOne K t (.type "int") = some (zaW x):=by
 cases x with
 | non=>exact ⟨_,.non,k.i_non⟩
 | bl b=>exact ⟨_,.bl b,k.i_bool⟩
 | int i=>exact ⟨_,.int i,rfl⟩
 | str z=>exact ⟨_,.str z,k.i_str⟩
 | ref a =>
  rcases h with ⟨xs,h⟩ | ⟨xs,h⟩ | ⟨kvs,h⟩
  ·exact ⟨_,.lst h,k.i_list⟩
  ·exact ⟨_,.tup h,k.i_tup⟩
  ·exact ⟨_,.dK h,k.i_dict⟩
 | _=>exact h.elim
theorem zRG {K : PySem.W.Frag} (k : Kit K) {H : Hp} {x : V} (h : Th H x) : ∃ t,TyOf K H x t/\PySem.W.kitOne K t (.type "bool") = some (zY6 x):=by
 cases x with
 | non=>exact ⟨_,.non,k.b_non⟩
 | bl b=>exact ⟨_,.bl b,rfl⟩
 | int i=>exact ⟨_,.int i,k.b_int⟩
 | str z=>exact ⟨_,.str z,k.b_str⟩
 | ref a =>
  rcases h with ⟨xs,h⟩ | ⟨xs,h⟩ | ⟨kvs,h⟩
  ·exact ⟨_,.lst h,k.b_list⟩
  ·exact ⟨_,.tup h,k.b_tup⟩
  ·exact ⟨_,.dK h,k.b_dict⟩
 | _=>exact h.elim
theorem zW1 {K : PySem.W.Frag} (k : Kit K) {H : Hp} {x : V} (h : Th H x) : ∃ t,TyOf K H x t/\PySem.W.kitOne K t (.type "str") = some (zaZ x):=by
 cases x with
 | non=>exact ⟨_,.non,k.s_non⟩
 | bl b=>exact ⟨_,.bl b,k.s_bool⟩
 | int i=>exact ⟨_,.int i,k.s_int⟩
 | str z=>exact ⟨_,.str z,rfl⟩
 | ref a =>
  rcases h with ⟨xs,h⟩ | ⟨xs,h⟩ | ⟨kvs,h⟩
  ·exact ⟨_,.lst h,k.s_list⟩
  ·exact ⟨_,.tup h,k.s_tup⟩
  ·exact ⟨_,.dK h,k.s_dict⟩
 | _=>exact h.elim
noncomputable def zN8 : Sp:=λvs H Q _=>∃ x,vs = [x]/\Th H x/\Q (.bl (zOX x)) H
noncomputable def zLC : Sp:=λvs H Q _=>∃ x lo hi,vs = [x,.int lo,.int hi]/\Th H x/\Q (.bl (zJF x lo hi)) H
noncomputable def zTO : Sp:=λvs H Q _=>∃ x signs most,vs = [x,.str signs,.int most]/\Th H x/\∀ H',Same H H' -> Q (.bl (zOP x signs most)) H'
noncomputable def zPJ : Sp:=λvs H Q _=>∃ x,vs = [x]/\Th H x/\∀ H',Same H H' -> Q (.bl (zC9 x)) H'
structure Txt (mg : Str -> Option Value) : Prop where
 inst : mg "isinstance" = none
 int : mg "int" = none
 bool : mg "bool" = none
 str : mg "str" = none
 len : mg "len" = none
 all : mg "all" = none
 list : mg "list" = none
 range : mg "range" = none
 repr : mg "repr" = none
structure Def (P : Program) (w : World) (K : PySem.W.Frag) (mg : Str -> Option Value) (base : Heap) (k : Nat) (x : Str) (ps : List Str) (sp : Sp) (g : Addr) (gd : FuncData) : Prop where
 ok : FnOk P w K mg base CX0 k g gd ps sp
 b : Binds K gd ps []
 k : PySem.W.keepIn K (.ref g) = true
 m : mg x = some (.ref g)
section
variable {P : Program} {w : World} {K : PySem.W.Frag} {mg : Str -> Option Value} {base : Heap}
theorem zVZ : FnScope ["thing"] ["thing"] (zA8 zO0):=by trivial
theorem zRB {f : Addr} {fd : FuncData} (F : Fun K "is_whole" "is_whole" zO0 f fd) (T : Txt mg) (k : Kit K) : FnOk P w K mg base CX0 1 f fd ["thing"] zN8:=by
 refine F.ok zVZ (λvs H Q E h => ?_) (λcdv A outer s H vs Q E hr h => ?_)
 ·obtain ⟨x,rfl,_⟩:=h
  rfl
 obtain ⟨x,rfl,hx,q⟩:=h;obtain ⟨t,ty,e⟩:=zV3 k hx;obtain ⟨t2,ty2,e2⟩:=zRG k hx
 refine ⟨_,zA5 (zAE (zGM (zAC zBR rfl T.inst yAj (zA0 (pv 0) (zA0 (zBF (v := .ty "int") rfl T.int yEP rfl) zA3)))
  (zGB (zWI (zAC zBR rfl T.inst yAj (zA0 (pv 0) (zA0 (zBF (v := .ty "bool") rfl T.bool PyProof.Rows.boot_bool rfl) zA3))))))),?_⟩
 refine ⟨_,rfl,x,t,"int",_,rfl,ty,e,_,rfl,?_⟩;refine zEN (λc => ?_) (λc => ?_)
 ·refine ⟨_,rfl,x,t2,"bool",_,rfl,ty2,e2,_,rfl,?_⟩
  have : (!zY6 x) = zOX x:=by cases x <;> first | rfl | cases c
  rw [this];exact q
 ·have : false = zOX x:=by cases x <;> first | rfl | exact absurd rfl c
  rw [<- this] at q;exact q
theorem zQI : FnScope ["thing","low","high"] ["thing","low","high"] (zA8 zJW):=by trivial
theorem zNR {f a1 : Addr} {fd d1 : FuncData} (F : Fun K "is_within" "is_within" zJW f fd) (D1 : Def P w K mg base 1 "is_whole" ["thing"] zN8 a1 d1) : FnOk P w K mg base CX0 2 f fd ["thing","low","high"] zLC:=by
 refine F.ok zQI (λvs H Q E h => ?_) (λcdv A outer s H vs Q E hr h => ?_)
 ·obtain ⟨x,lo,hi,rfl,_⟩:=h
  rfl
 obtain ⟨x,lo,hi,rfl,hx,q⟩:=h;refine ⟨_,zA5 (zAE (zGM (zAA D1.ok hr rfl D1.m D1.k D1.b .nil zAF (zA0 (pv 0) zA3)) (zGB (zQR zM6 zM6 (pv 1) (pv 0) (pv 2))))),?_⟩;refine ⟨_,rfl,x,rfl,hx,_,rfl,?_⟩;refine zEN (λc => ?_) (λc => ?_)
 ·cases x with
  | int i =>
   refine ⟨_,rfl,_,rfl,_,_,rfl,rfl,_,rfl,?_⟩;have e : zJF (.int i) lo hi = (decide (lo <= i)&&decide (i <= hi)):=rfl;rw [e] at q
   by_cases h1 : lo <= i
   ·rw [yAZ h1] at q ⊢
    exact zIF ⟨_,rfl,_,_,rfl,rfl,q⟩
   ·rw [yAL h1] at q ⊢
    exact zCW q
  | _=>cases c
 ·cases x with
  | int i=>exact absurd rfl c
  | _=>exact q
theorem zWR : FnScope ["thing","signs","most"] ["thing","signs","most"] (zA8 zUL):=by trivial
noncomputable def zUN (z signs : Str) (i : Nat) : List Bool:=(z.cps.toList.take i).map λc=>decide (c∈signs.cps.toList)
theorem zNK {z signs : Str} {i c : Nat} (h : z.cps[i]? = some c) : zUN z signs (i + 1) = zUN z signs i++[decide (c∈signs.cps.toList)]:=by
 unfold zUN;have h' : z.cps.toList[i]? = some c:=by rw [yAs]; exact h
 rw [yBX,h',yAa]; rfl
theorem zRH (z signs : Str) : (zUN z signs z.cps.size).all id = zK8 z signs:=by
 unfold zUN zK8;rw [yAt (by simp),List.all_map]; rfl
theorem zVH {f : Addr} {fd : FuncData} (F : Fun K "is_made_of" "is_made_of" zUL f fd) (T : Txt mg) (k : Kit K) : FnOk P w K mg base CX0 1 f fd ["thing","signs","most"] zTO:=by
 refine F.ok zWR (λvs H Q E h => ?_) (λcdv A outer s H vs Q E hr h => ?_)
 ·obtain ⟨x,signs,most,rfl,_⟩:=h
  rfl
 obtain ⟨x,signs,most,rfl,hx,q⟩:=h;obtain ⟨t,ty,e⟩:=zW1 k hx;have s1 : 100000 <= sizeLine:=by decide
 refine ⟨_,zA2 (zBA (PW.pt (zHE (zBS (zBU (zAC zBR rfl T.inst yAj (zA0 (pv 0) (zA0 (zBF (v := .ty "str") rfl T.str PyProof.Rows.boot_str rfl) zA3)))))
   (zES (zBS (zL8 zM6 zM6 zA4 (zAC zIO rfl T.len yBH (zA0 (pv 0) zA3)) (pv 2)))))) (zA5 (zAE zEU)) zAG)
  (zA5 (zAE (zAC (zKG rfl) rfl T.all PyProof.Rows.boot_all (zA0 (zB8 (xs:=["sign"]) (fv:=[("signs",1)]) rfl (by decide +kernel) ⟨⟨rfl,Or.inl rfl,rfl⟩,trivial⟩ (zYG (pv 0)) (λ_ _ _ _ _=>zAD (i:=0) (ndT (by decide +kernel)) rfl (Or.inl rfl)) (λ_ _ _ _ _=>zCH) (λ_ _ _ _ _=>zD0 zNM (pv 0) (pv 1) (by with_unfolding_all rfl))) zA3)))),?_⟩
 refine ⟨_,rfl,x,t,"str",_,rfl,ty,e,_,rfl,?_⟩
 cases x with
 | str z =>
  have hz : z.length <= 100000:=hx;refine zCW ?_;have e0 : zOP (.str z) signs most = (zEC z most&&zK8 z signs):=rfl;rw [e0] at q;unfold zEC at q;refine ⟨_,rfl,z,rfl,by lia,_,_,rfl,rfl,_,rfl,?_⟩
  by_cases h1 : 1 <= (z.length : Int)
  ·rw [yAZ h1,yCe] at q
   rw [yAZ h1];refine zIF ⟨_,rfl,_,_,rfl,rfl,_,rfl,?_⟩
   by_cases h2 : (z.length : Int) <= most
   ·rw [yAZ h2,yCe] at q
    rw [yAZ h2];refine zCW ?_;refine ⟨_,rfl,z,rfl,zRM (λi D H'=>Same H H'/\H' D = some (.lst ((zUN z signs i).map V.bl))) (λD hD=>⟨same_new hD _,zA1⟩) (λi D H' c hD hc hP => ?_) (λD H' hD hP => ?_)⟩
    ·obtain ⟨g,hl⟩:=hP
     have hi : i < z.cps.size:=(yBV.mp hc).1;have hzs : z.cps.size <= 100000:=hz;refine ⟨rfl,?_⟩;unfold zKA
     (try dsimp only)
     rw [yAK rfl];refine ⟨_,rfl,_,rfl,_,_,rfl,rfl,_,hl,?_,λb o e => ?_,?_⟩
     ·rw [yAC]; unfold zUN; rw [yAC,yAf]
      have : 100000 < sizeLine:=by decide
      lia
     ·rw [zA7 (zA6 e hD)]; exact g _ _ e
     ·rw [zA1,zNK hc,yAa,StrLaws.found_one]; rfl
    ·refine ⟨D,_,rfl,SqL.of hP.2,?_⟩
     rw [zRH];exact q H' hP.1
   ·rw [yAL h2,yCH] at q
    rw [yAL h2];exact zIF (q H (Same.refl H))
  ·rw [yAL h1,yCH,yCH] at q
   rw [yAL h1];exact zCW ⟨_,rfl,zIF (q H (Same.refl H))⟩
 | _=>exact zIF (q H (Same.refl H))
structure Glb (K : PySem.W.Frag) (mg : Str -> Option Value) : Prop where
 lett : ∃ t,mg "LETTERS" = some (.str LET t)
 mostL : ∃ t,mg "MOST_LETTERS" = some (.int 6 t)
 own : ∃ a,mg "OWN_WORDS" = some (.ref a)/\∀ H : Hp,SqT K H a (OWN.map V.str)
theorem zXQ : FnScope ["thing"] ["thing"] (zA8 zTZ):=by trivial
theorem zTV {f a1 : Addr} {fd d1 : FuncData} (F : Fun K "is_name" "is_name" zTZ f fd) (G : Glb K mg) (D1 : Def P w K mg base 1 "is_made_of" ["thing","signs","most"] zTO a1 d1) : FnOk P w K mg base CX0 2 f fd ["thing"] zPJ:=by
 refine F.ok zXQ (λvs H Q E h => ?_) (λcdv A outer s H vs Q E hr h => ?_)
 ·obtain ⟨x,rfl,_⟩:=h
  rfl
 obtain ⟨x,rfl,hx,q⟩:=h;obtain ⟨t1,g1⟩:=G.lett;obtain ⟨t2,g2⟩:=G.mostL;obtain ⟨a,g3,g4⟩:=G.own
 refine ⟨_,zA5 (zAE (zGM (zAA D1.ok hr rfl D1.m D1.k D1.b .nil zAF (zA0 (pv 0) (zA0 (zEE (v := .str LET) rfl g1 ⟨_,rfl⟩) (zA0 (zEE (v := .int 6) rfl g2 ⟨_,rfl⟩) zA3))))
  (zGB (zD0 zEO (pv 0) (zEE (v := .ref a) rfl g3 rfl) (by with_unfolding_all rfl))))),?_⟩
 refine ⟨_,rfl,x,LET,6,rfl,hx,λH' g=>⟨_,rfl,?_⟩⟩;have q':=q H' g;unfold zC9 at q'
 by_cases c : zOP x LET 6 = true
 ·rw [c,yCe] at q'
  rw [c];refine zIF ⟨_,rfl,a,_,rfl,.inr (g4 H'),?_,by decide +kernel,q'⟩
  cases x with
  | str z=>rfl
  | _=>cases c
 ·have c' : zOP x LET 6 = false:=by simpa using c
  rw [c',yCH] at q';rw [c'];exact zCW q'
inductive Row (H : Hp) : V -> Option (List V) -> Prop
 | lst {a : Addr} {xs : List V} (h : H a = some (.lst xs)) : Row H (.ref a) (some xs)
 | tup {a : Addr} {xs : List V} (h : H a = some (.tup xs)) : Row H (.ref a) (some xs)
 | dK {a : Addr} {kvs : List (Key × V)} (h : H a = some (.dK kvs)) : Row H (.ref a) none
 | non : Row H .non none
 | bl (b : Bool) : Row H (.bl b) none
 | int (i : Int) : Row H (.int i) none
 | str (z : Str) : Row H (.str z) none
noncomputable def zB3 : V -> Str
 | .str z=>z
 | _=>""
noncomputable def zHL : Option (List V) -> Bool
 | none=>false
 | some xs=>decide (1 <= (xs.length : Int))&&decide ((xs.length : Int) <= 12)&&(xs.all zC9&&decide ((zBI (xs.map λv => .inr (zB3 v))).length = xs.length))
noncomputable def zYK : Sp:=λvs H Q _=>∃ x r,vs = [x]/\Row H x r/\(∀ xs,r = some xs -> ∀ v∈xs,Th H v)/\(∀ xs,r = some xs -> xs.length <= 1000)/\∀ H',Same H H' -> Q (.bl (zHL r)) H'
structure Kit2 (K : PySem.W.Frag) : Prop where
 l_non : PySem.W.kitOne K (.type "NoneType") (.type "list") = some false
 l_bool : PySem.W.kitOne K (.type "bool") (.type "list") = some false
 l_int : PySem.W.kitOne K (.type "int") (.type "list") = some false
 l_str : PySem.W.kitOne K (.type "str") (.type "list") = some false
 l_tup : PySem.W.kitOne K (.type "tuple") (.type "list") = some false
 l_dict : PySem.W.kitOne K (.type "dict") (.type "list") = some false
 t_non : PySem.W.kitOne K (.type "NoneType") (.type "tuple") = some false
 t_bool : PySem.W.kitOne K (.type "bool") (.type "tuple") = some false
 t_int : PySem.W.kitOne K (.type "int") (.type "tuple") = some false
 t_str : PySem.W.kitOne K (.type "str") (.type "tuple") = some false
 t_list : PySem.W.kitOne K (.type "list") (.type "tuple") = some false
 t_dict : PySem.W.kitOne K (.type "dict") (.type "tuple") = some false
theorem zJY {K : PySem.W.Frag} (k : Kit2 K) {H : Hp} {x : V} {r : Option (List V)} (h : Row H x r) : ∃ t,TyOf K H x t/\PySem.W.kitAny K t [.type "list",.type "tuple"] = some r.isSome:=by
 cases h with
 | lst h=>exact ⟨_,.lst h,zDO (a:=true) rfl k.t_list⟩
 | tup h=>exact ⟨_,.tup h,zDO (b:=true) k.l_tup rfl⟩
 | dK h=>exact ⟨_,.dK h,zDO k.l_dict k.t_dict⟩
 | non=>exact ⟨_,.non,zDO k.l_non k.t_non⟩
 | bl b=>exact ⟨_,.bl b,zDO k.l_bool k.t_bool⟩
 | int i=>exact ⟨_,.int i,zDO k.l_int k.t_int⟩
 | str z=>exact ⟨_,.str z,zDO k.l_str k.t_str⟩
theorem TyOf.same {K : PySem.W.Frag} {H H' : Hp} {x : V} {t : Value} (g : Same H H') (h : TyOf K H x t) : TyOf K H' x t:=by
 cases h with
 | non=>exact .non
 | bl b=>exact .bl b
 | int i=>exact .int i
 | str z=>exact .str z
 | flt z=>exact .flt z
 | lst e=>exact .lst (g _ _ e)
 | frz e=>exact .frz (g _ _ e)
 | tup e=>exact .tup (g _ _ e)
 | dK e=>exact .dK (g _ _ e)
 | dT e=>exact .dT (g _ _ e)
 | ins e cl ha hn htk hm=>exact .ins (g _ _ e) cl ha hn htk hm
theorem zZO : FnScope ["thing"] ["thing"] (zA8 zYX):=by trivial
theorem zLG : ∀ {xs : List V},xs.all zC9 = true -> xs = (xs.map λv=>(.inr (zB3 v) : Key)).map kV
 | [],_=>rfl
 | v::xs,h=>by
  rw [List.all_cons,yAk] at h;rw [yAp,yAp,<- zLG h.2]
  cases v with
  | str z=>rfl
  | _=>cases h.1
set_option maxHeartbeats 1000000 in
theorem zY9 {f a1 : Addr} {fd d1 : FuncData} {tH : Tok} (F : Fun K "are_houses" "are_houses" zYX f fd) (T : Txt mg) (mt : mg "tuple" = none) (ms : mg "set" = none) (gH : mg "MOST_HOUSES" = some (.int 12 tH)) (k : Kit2 K)
  (D1 : Def P w K mg base 2 "is_name" ["thing"] zPJ a1 d1) : FnOk P w K mg base CX0 3 f fd ["thing"] zYK:=by
 refine F.ok zZO (λvs H Q E h => ?_) (λcdv A outer s H vs Q E hr h => ?_)
 ·obtain ⟨x,r,rfl,_⟩:=h
  rfl
 obtain ⟨x,r,rfl,hR,hT,hL,q⟩:=h;obtain ⟨t,ty,e⟩:=zJY k hR
 refine ⟨_,zA2 (zBA (PW.pt (zHE (zBS (zBU (zAC zEM rfl T.inst yAj (zA0 (pv 0) (zA0 (zEQ (zA0 (zBF (v := .ty "list") rfl T.list yBB rfl) (zA0 (zBF (v := .ty "tuple") rfl mt yBW rfl) zA3))) zA3)))))
   (zES (zBS (zL8 zM6 zM6 zA4 (zAC zAH rfl T.len yBH (zA0 (pv 0) zA3)) (zEE (v := .int 12) rfl gH ⟨_,rfl⟩)))))) (zA5 (zAE zEU)) zAG)
  (zA5 (zAE (zGM (zAC (zKG rfl) rfl T.all PyProof.Rows.boot_all (zA0 (zB8 (xs:=["name"]) (fv:=[]) rfl (by decide +kernel) trivial (zBX (pv 0)) (λ_ _ _ _ _=>zAD (i:=0) (ndT (by decide +kernel)) rfl (Or.inl rfl)) (λ_ _ _ _ _=>zCH)
    (λ_ _ _ _ _=>zAA D1.ok hr rfl D1.m D1.k D1.b .nil zAF (zA0 (pv 0) zA3))) zA3))
   (zGB (zD0 zD4 (zPO rfl rfl T.len rfl ms (zA0 (pv 0) zA3)) (zAC zAH rfl T.len yBH (zA0 (pv 0) zA3)) (zAO _)))))),?_⟩
 refine ⟨_,rfl,(by show 2 <= sizeLine; decide),λp hp => ?_⟩;have g1:=same_new hp (.tup [.ty "list",.ty "tuple"]);have c1 : (upd H p (.tup [.ty "list",.ty "tuple"])) p = _:=zA1;generalize upd H p (.tup [.ty "list",.ty "tuple"]) = H1 at g1 c1 ⊢;refine ⟨_,t,p,["list","tuple"],_,rfl,TyOf.same g1 ty,c1,e,_,rfl,?_⟩
 cases r with
 | none=>exact zIF (q H1 g1)
 | some xs =>
  refine zCW ?_
  have hsq : ∀ {H' : Hp},Same H H' -> ∃ a,x = .ref a/\(SqL K H' a xs \/ SqT K H' a xs):=λg=>by
   cases hR with
   | lst h=>exact ⟨_,rfl,.inl (SqL.of (g _ _ h))⟩
   | tup h=>exact ⟨_,rfl,.inr (SqT.of (g _ _ h))⟩
  obtain ⟨a,rfl,sq1⟩:=hsq g1;have e0 : zHL (some xs) = (decide (1 <= (xs.length : Int))&&decide ((xs.length : Int) <= 12)&&(xs.all zC9&&decide ((zBI (xs.map λv => .inr (zB3 v))).length = xs.length))):=rfl;rw [e0] at q;have hl:=hL xs rfl;refine ⟨_,rfl,a,xs,rfl,sq1,_,_,rfl,rfl,_,rfl,?_⟩
  by_cases h1 : 1 <= (xs.length : Int)
  ·rw [yAZ h1,yCe] at q
   rw [yAZ h1];refine zIF ⟨_,_,rfl,rfl,_,rfl,?_⟩
   by_cases h2 : (xs.length : Int) <= 12
   ·rw [yAZ h2,yCe] at q
    rw [yAZ h2];refine zCW ?_
    have body : ∀ (J : It),(∀ i H',Same H1 H' -> i < xs.length -> J.go i H') -> (∀ H',Same H1 H' -> J.stop xs.length H') -> (∀ i H' x H2,Same H1 H' -> i < xs.length -> J.yld i H' x H2 -> H2 = H'/\xs[i]? = some x) ->
      ∀ Q' : VK,(∀ D H',Same H1 H' -> H' D = some (.lst ((xs.map zC9).map V.bl)) -> Q' (.ref D) H') ->
      zD3 (.lst []) ["name"] [] (zH8 0) zKA (tbL (zVL zPJ [] E0 (zOQ (zN5 0) zV5))) [some (.ref a)] J H1 Q':=λJ hgo hst hy Q' hQ'=>by
     refine zBZ xs.length (λi D H'=>Same H1 H'/\H' D = some (.lst (((xs.take i).map zC9).map V.bl))) (λD hD=>⟨same_new hD _,zA1⟩) (λi D H' _ hi hP=>hgo i H' hP.1 hi) (λD H' _ hP=>hst H' hP.1) (λi D H' x H2 hD hi hP y => ?_) (λD H' _ hP => ?_)
     ·obtain ⟨rfl,hx⟩:=hy i H' x H2 hP.1 hi y
      refine ⟨rfl,?_⟩;unfold zKA
      (try dsimp only)
      rw [yAK rfl];refine ⟨_,rfl,x,rfl,(hT xs rfl x (yAn hx)).mono (g1.trans hP.1),λH3 g3=>⟨_,g3 _ _ hP.2,?_,λb o q' => ?_,?_⟩⟩
      ·rw [yAC,yAC,yAf]
       have : 1000 < sizeLine:=by decide
       lia
      ·rw [zA7 (zA6 q' hD)]; exact g3 _ _ (hP.1 _ _ q')
      ·rw [zA1,yBX,hx,yAa,yAa]; rfl
     ·refine hQ' D H' hP.1 ?_
      have:=hP.2
      rw [yAt (yAG _)] at this;exact this
    have after : ∀ D H',Same H1 H' -> H' D = some (.lst ((xs.map zC9).map V.bl)) -> zaG K [.ref D] H' λv H2=>∃ c,v = .bl c/\if c = true then tOp rEq (zON K (zOQ (zN5 0) zV5)) (tCB (λys H Q=>∃ p zs,ys = [.ref p]/\(SqL K H p zs \/ SqT K H p zs)/\Q (.int zs.length) H) (zOQ (zN5 0) zV5)) [some (.ref a)] H2 Q else Q (.bl false) H2:=λD H' g' hD=>by
     refine ⟨D,_,rfl,SqL.of hD,_,rfl,?_⟩;have ea : ((xs.map zC9).all id) = xs.all zC9:=by rw [List.all_map]; rfl
     rw [ea];have q':=q H' (g1.trans g')
     by_cases hall : xs.all zC9 = true
     ·rw [hall,yCe] at q'
      rw [hall];obtain ⟨a',ea',sq'⟩:=hsq (g1.trans g')
      cases ea'
      refine zIF ⟨_,rfl,a,xs.map (λv => .inr (zB3 v)),rfl,?_,by rw [yAC]; lia,_,rfl,a,xs,rfl,sq',rfl,?_⟩
      ·rw [<- zLG hall]; exact sq'
      ·have ed : decide (V.int ((zBI (xs.map λv => .inr (zB3 v))).length : Nat) = V.int (xs.length : Nat)) = decide ((zBI (xs.map λv => .inr (zB3 v))).length = xs.length):=by
        rw [yAr,yAT,yAT]
        constructor
        ·intro z; injection z with z; exact Int.ofNat.inj z
        ·intro z; rw [z]
       rw [ed];exact q'
     ·have hall' : xs.all zC9 = false:=by simpa using hall
      rw [hall',yCH] at q';rw [hall'];exact zCW q'
    refine ⟨_,rfl,a,rfl,?_⟩
    rcases sq1 with sq1 | sq1
    ·refine .inl ⟨⟨_,sq1⟩,body (Itl K a) (λi H' g' hi=>⟨xs,xs[i],g'.seq sq1,by simp [hi]⟩) (λH' g'=>⟨xs,g'.seq sq1,yAG _⟩) (λi H' x H2 g' hi y=>⟨y.1,y.2 xs (g'.seq sq1)⟩) _ after⟩
    ·refine .inr ⟨⟨_,sq1⟩,body (Itt K a) (λi H' g' hi=>⟨xs,xs[i],SqT.mono g' sq1,by simp [hi]⟩) (λH' g'=>⟨xs,SqT.mono g' sq1,yAG _⟩) (λi H' x H2 g' hi y=>⟨y.1,y.2 xs (SqT.mono g' sq1)⟩) _ after⟩
   ·rw [yAL h2,yCH] at q
    rw [yAL h2];exact zIF (q H1 g1)
  ·rw [yAL h1,yCH,yCH] at q
   rw [yAL h1];exact zCW ⟨_,rfl,zIF (q H1 g1)⟩
theorem zHF {X : Cx} {K : PySem.W.Frag} {es : List Expr} {k : Nat} {t : TGs} {n : Nat} {pos : Pos} (hK : X.K = K) (hc : X.calm = true) (h : PGs X es t)
  (hn : (assignEach es X.env).length = n:=by rfl) (hst : (assignEach es X.env).findIdx? (·.1) = none:=by rfl) : PG X (.Tuple es k pos) (zYL K n t):=by subst hK; exact zP7 hc h hn hst
noncomputable def zB7 (xs : List V) (i : Nat) : List (Key × V):=(xs.take i).zipIdx.foldl (λacc p=>zGN acc (.inr (zB3 p.1)) (.int (p.2 : Nat))) []
theorem zDN {xs : List V} {i : Nat} {x : V} (h : xs[i]? = some x) : zB7 xs (i + 1) = zGN (zB7 xs i) (.inr (zB3 x)) (.int (i : Nat)):=by
 unfold zB7;have hi : i < xs.length:=(yAE.mp h).1;rw [yBX,h,Option.toList_some,List.zipIdx_append,yED]
 simp [yAf,Nat.min_eq_left (yDq hi)]
theorem zUH (kvs : List (Key × V)) (k : Key) (v : V) : (zGN kvs k v).length <= kvs.length + 1:=zCV kvs k v
theorem zJ2 {xs : List V} : ∀ i,i <= xs.length -> (zB7 xs i).length <= i
 | 0,_=>by simp [zB7]
 | i + 1,h=>by
  have hx : xs[i]? = some xs[i]:=by simp
  rw [zDN hx];have h1 : (zB7 xs i).length <= i:=zJ2 i (by lia);have h2:=zUH (zB7 xs i) (.inr (zB3 xs[i])) (.int (i : Nat));lia
noncomputable def HousesAt (C : Addr) (H : Hp) (p : Addr) (xs : List V) : Prop:=∃ dx t d,H p = some (.ins C dx [("row",.ref t),("places",.ref d)])/\H t = some (.tup xs)/\H d = some (.dK (zB7 xs xs.length))
noncomputable def zSV (C : Addr) : Sp:=λvs H Q _=>∃ p dx x xs,vs = [.ref p,x]/\H p = some (.ins C dx [])/\Row H x (some xs)/\(∀ v∈xs,Th H v)/\xs.length <= 1000/\zHL (some xs) = true /\
 ∀ H',(∀ c o,H c = some o -> c≠p -> H' c = some o) -> HousesAt C H' p xs -> Q .non H'
theorem zXT : FnScope ["self","names"] ["self","names"] (zA8 zWE):=by trivial
theorem zKE {xs : List V} (h : zHL (some xs) = true) {v : V} (hv : v∈xs) : v = kV (.inr (zB3 v)):=by
 have e0 : zHL (some xs) = (decide (1 <= (xs.length : Int))&&decide ((xs.length : Int) <= 12)&&(xs.all zC9&&decide ((zBI (xs.map λv => .inr (zB3 v))).length = xs.length))):=rfl;rw [e0,yAk] at h;have h2:=h.2;rw [yAk] at h2
 have:=yCD.mp h2.1 v hv
 cases v with
 | str z=>rfl
 | _=>cases this
set_option maxHeartbeats 2000000 in
theorem zVN {f a1 C : Addr} {fd d1 : FuncData} (F : Fun K "__init__" "Houses.__init__" zWE f fd) (mt : mg "tuple" = none) (me : mg "enumerate" = none) (cl : Cls K C) (n1 : NoAttr K C "row") (n2 : NoAttr K C "places")
  (D1 : Def P w K mg base 3 "are_houses" ["thing"] zYK a1 d1) : FnOk P w K mg base CX0 4 f fd ["self","names"] (zSV C):=by
 refine F.ok zXT (λvs H Q E h => ?_) (λcdv A outer s H vs Q E hr h => ?_)
 ·obtain ⟨p,dx,x,xs,rfl,_⟩:=h
  rfl
 obtain ⟨p,dx,x,xs,rfl,hp,hR,hT,hL,hok,q⟩:=h
 refine ⟨_,zA2 (zBA (zBS (zBU (zAA D1.ok hr rfl D1.m D1.k D1.b .nil zAF (zA0 (pv 1) zA3)))) zAP zAG)
  (zA2 (zKS (pv 0) (zB0 zB9 rfl mt yBW (zA0 (pv 1) zA3)) rfl)
  (zA5 (zKS (pv 0) (zR9 (xs:=["at","name"]) (fv:=[]) rfl (by decide +kernel) trivial (zE2 rfl me (zA0 (pv 1) zA3))
   (λ_ _ _ _ _=>zHF (K:=K) (n:=2) rfl rfl (zBD (zAD (i:=0) (ndT (by decide +kernel)) rfl (Or.inl rfl)) (zBD (zAD (i:=1) (ndT (by decide +kernel)) rfl (Or.inl rfl)) zEG))) (λ_ _ _ _ _=>zCH) (λ_ _ _ _ _=>pv 1) (λ_ _ _ _ _=>pv 0)) rfl))),?_⟩
 have hsq : ∀ {H' : Hp},(∀ c o,H c = some o -> c≠p -> H' c = some o) -> ∃ a,x = .ref a/\(H' a = some (.lst xs) \/ H' a = some (.tup xs)):=λg=>by
  cases hR with
  | lst h=>exact ⟨_,rfl,.inl (g _ _ h (λz=>by rw [z,hp] at h; cases h))⟩
  | tup h=>exact ⟨_,rfl,.inr (g _ _ h (λz=>by rw [z,hp] at h; cases h))⟩
 obtain ⟨a,rfl,_⟩:=hsq (H':=H) λ_ _ e _=>e;refine ⟨_,rfl,_,some xs,rfl,hR,λys e=>by cases e; exact hT,λys e=>by cases e; exact hL,λH1 g1=>⟨_,rfl,?_⟩⟩;rw [hok];refine zCW ?_;have hp1:=g1 _ _ hp;obtain ⟨_,ea,sq1⟩:=hsq (H':=H1) λc o e _=>g1 c o e
 cases ea
 have pne : ∀ {Hx : Hp} {c : Addr} {o : HO},Hx p = some o -> Hx c = none -> p≠c:=λh1 h2=>zA6 h1 h2
 have rest : ∀ (t : Addr) (H2 : Hp),t≠p -> H2 p = some (.ins C dx [("row",.ref t)]) -> H2 t = some (.tup xs) -> (∀ c o,H c = some o -> c≠p -> H2 c = some o) -> ∀ (D : Ends),(∀ σ H',D.nx σ H' = Q .non H') ->
   zaA K (zN5 0) (zL2 (.dK []) (zTM K (zOQ (zN5 1) zV5)) ["at","name"] [] (zYL K 2 (zPR (zH8 0) (zPR (zH8 1) zZY))) zKA (tbD (zN5 1) (zN5 0))) "places" D [some (.ref p),some (.ref a)] H2:=λt H2 tp hp2 ht2 g2 D hD=>by
  obtain ⟨_,ea,sq2⟩:=hsq g2
  cases ea
  have body : ∀ (J : It),(∀ i H',Same H2 H' -> i < xs.length -> J.go i H') -> (∀ H',Same H2 H' -> J.stop xs.length H') -> (∀ i H' x H3,Same H2 H' -> i < xs.length -> J.yld i H' x H3 -> ∃ r y,H' r = none/\x = .ref r/\xs[i]? = some y/\H3 = upd H' r (.tup [.int (i : Nat),y])) ->
    zD3 (.dK []) ["at","name"] [] (zYL K 2 (zPR (zH8 0) (zPR (zH8 1) zZY))) zKA (tbD (zN5 1) (zN5 0)) [some (.ref p),some (.ref a)] J H2 λy H3=>(zN5 0) [some (.ref p),some (.ref a)] H3 λx H4=>∃ b C dx fs,x = .ref b/\H4 b = some (.ins C dx fs)/\Cls K C/\NoAttr K C "places"/\fs.length < 1000 /\
     D.nx [some (.ref p),some (.ref a)] (upd H4 b (.ins C dx (zG1 "places" y fs))):=λJ hgo hst hy=>by
   refine zBZ xs.length (λi D H'=>Same H2 H'/\H' D = some (.dK (zB7 xs i))) (λD hD=>⟨same_new hD _,by rw [zA1]; rfl⟩) (λi D H' _ hi hP=>hgo i H' hP.1 hi) (λD H' _ hP=>hst H' hP.1) (λi D H' x H3 hD hi hP y => ?_) (λD' H' hD' hP => ?_)
   ·obtain ⟨r,v,hr',rfl,hv,rfl⟩:=hy i H' x H3 hP.1 hi y
    refine ⟨r,_,rfl,SqT.of zA1,rfl,_,_,rfl,_,_,rfl,rfl,rfl,?_⟩;unfold zKA
    (try dsimp only)
    rw [yAK rfl];have hD3 : (upd H' r (.tup [.int (i : Nat),v])) D = some (.dK (zB7 xs i)):=same_new hr' _ _ _ hP.2;have ple:=zJ2 (xs:=xs) i (by lia);refine ⟨_,rfl,_,rfl,zB7 xs i,.inr (zB3 v),hD3,zKE hok (yAn hv),?_,λc o e => ?_,?_⟩
    ·have : 1000 < sizeLine:=by decide
     lia
    ·rw [zA7 (zA6 e hD)]; exact same_new hr' _ _ _ (hP.1 _ _ e)
    ·rw [zA1,zDN hv]
   ·have hp3:=hP.1 _ _ hp2
    refine ⟨_,rfl,p,C,dx,_,rfl,hp3,cl,n2,(by show 1 < 1000; decide),?_⟩;rw [hD];have nD : D'≠p:=λz=>by rw [z,hp2] at hD'; cases hD'
    refine q _ (λc o e n=>by rw [zA7 n]; exact hP.1 _ _ (g2 c o e n)) ⟨dx,t,D',by rw [zA1]; rfl,by rw [zA7 tp]; exact hP.1 _ _ ht2,by rw [zA7 nD]; exact hP.2⟩
  refine ⟨_,rfl,a,rfl,?_⟩
  rcases sq2 with sq2 | sq2
  ·have sq2 : SqL K H2 a xs:=SqL.of sq2
   exact .inl ⟨⟨_,sq2⟩,body (Ite K a) (λi H' g' hi=>⟨xs,xs[i],g'.seq sq2,by simp [hi]⟩) (λH' g'=>⟨xs,g'.seq sq2,rfl⟩) λi H' x H3 g' hi y=>let ⟨r,v,h1,h2,h3,h4⟩:=y; ⟨r,v,h1,h2,h3 xs (g'.seq sq2),h4⟩⟩
  ·have sq2 : SqT K H2 a xs:=SqT.of sq2
   exact .inr ⟨⟨_,sq2⟩,body (zUG K a) (λi H' g' hi=>⟨xs,xs[i],SqT.mono g' sq2,by simp [hi]⟩) (λH' g'=>⟨xs,SqT.mono g' sq2,rfl⟩) λi H' x H3 g' hi y=>let ⟨r,v,h1,h2,h3,h4⟩:=y; ⟨r,v,h1,h2,h3 xs (SqT.mono g' sq2),h4⟩⟩
 refine ⟨_,rfl,a,xs,rfl,?_⟩
 rcases sq1 with sq1 | sq1
 ·refine .inl ⟨SqL.of sq1,λt ht=>⟨_,rfl,p,C,dx,_,rfl,same_new ht _ _ _ hp1,cl,n1,(by show 0 < 1000; decide),?_⟩⟩
  have tp : t≠p:=λz=>by rw [z,hp1] at ht; cases ht
  exact rest t _ tp zA1 (by rw [zA7 tp]; exact zA1) (λc o e n=>by rw [zA7 n]; exact same_new ht _ _ _ (g1 _ _ e)) _ λ_ _=>rfl
 ·have ht:=sq1
  have tp : a≠p:=λz=>by rw [z,hp1] at ht; cases ht
  refine .inr ⟨SqT.of sq1,_,rfl,p,C,dx,_,rfl,hp1,cl,n1,(by show 0 < 1000; decide),?_⟩;exact rest a _ tp zA1 (by rw [zA7 tp]; exact ht) (λc o e n=>by rw [zA7 n]; exact g1 _ _ e) _ λ_ _=>rfl
theorem zGC {xs : List V} (hk : ∀ v∈xs,v = kV (.inr (zB3 v))) (nd : xs.Nodup) : ∀ n,n <= xs.length -> ∀ i,i < n -> ∀ (h : i < xs.length),zEV (zB7 xs n) (.inr (zB3 xs[i])) = some (.int (i : Nat))
 | 0,_,i,hi,_=>by lia
 | n + 1,hn,i,hi,h=>by
  have hx : xs[n]? = some xs[n]:=by simp
  rw [zDN hx,zSF]
  by_cases e : i = n
  ·subst e; rw [yAK rfl]
  ·rw [yAN,zGC hk nd n (by lia) i (by lia) h]
   intro z;have e1:=hk xs[i] (yBI _);have e2:=hk xs[n] (yBI _);have : xs[i] = xs[n]:=by rw [e1,e2,z]
   exact e ((yCh nd).mp this)
noncomputable def zOO (C : Addr) : Sp:=λvs H Q _=>∃ p xs,vs = [.ref p]/\HousesAt C H p xs/\∀ l,H l = none -> Q (.ref l) (upd H l (.lst xs))
noncomputable def zPU (C : Addr) : Sp:=λvs H Q _=>∃ p xs,vs = [.ref p]/\HousesAt C H p xs/\Q (.int xs.length) H
noncomputable def zKR (C : Addr) : Sp:=λvs H Q _=>∃ p xs i z,vs = [.ref p,.str z]/\HousesAt C H p xs/\(∀ v∈xs,v = kV (.inr (zB3 v)))/\xs.Nodup/\xs[i]? = some (.str z)/\Q (.int (i : Nat)) H
theorem zUQ : FnScope ["self"] ["self"] (zA8 zP9):=by trivial
theorem zYD : FnScope ["self"] ["self"] (zA8 zW8):=by trivial
theorem zRC : FnScope ["self","name"] ["self","name"] (zA8 zJ8):=by trivial
theorem zQZ {f C : Addr} {fd : FuncData} (F : Fun K "names" "Houses.names" zP9 f fd) (ml : mg "list" = none) (cl : Cls K C) (n1 : NoAttr K C "row") : FnOk P w K mg base CX0 1 f fd ["self"] (zOO C):=by
 refine F.ok zUQ (λvs H Q E h => ?_) (λcdv A outer s H vs Q E hr h => ?_)
 ·obtain ⟨p,xs,rfl,_⟩:=h
  rfl
 obtain ⟨p,xs,rfl,⟨dx,t,d,hp,ht,hd⟩,q⟩:=h;refine ⟨_,zA5 (zAE (zB0 zCE rfl ml yBB (zA0 (zBW (pv 0) rfl) zA3))),?_⟩;exact ⟨_,rfl,p,C,dx,_,_,rfl,hp,cl,n1,rfl,t,xs,rfl,.inr (SqT.of ht),q⟩
theorem zUI {f C : Addr} {fd : FuncData} (F : Fun K "size" "Houses.size" zW8 f fd) (ml : mg "len" = none) (cl : Cls K C) (n1 : NoAttr K C "row") : FnOk P w K mg base CX0 1 f fd ["self"] (zPU C):=by
 refine F.ok zYD (λvs H Q E h => ?_) (λcdv A outer s H vs Q E hr h => ?_)
 ·obtain ⟨p,xs,rfl,_⟩:=h
  rfl
 obtain ⟨p,xs,rfl,⟨dx,t,d,hp,ht,hd⟩,q⟩:=h;refine ⟨_,zA5 (zAE (zAC zAH rfl ml yBH (zA0 (zBW (pv 0) rfl) zA3))),?_⟩;exact ⟨_,rfl,p,C,dx,_,_,rfl,hp,cl,n1,rfl,t,xs,rfl,.inr (SqT.of ht),q⟩
theorem zP0 {f C : Addr} {fd : FuncData} (F : Fun K "number" "Houses.number" zJ8 f fd) (T : Txt mg) (cl : Cls K C) (n2 : NoAttr K C "places") : FnOk P w K mg base CX0 1 f fd ["self","name"] (zKR C):=by
 refine F.ok zRC (λvs H Q E h => ?_) (λcdv A outer s H vs Q E hr h => ?_)
 ·obtain ⟨p,xs,i,z,rfl,_⟩:=h
  rfl
 obtain ⟨p,xs,i,z,rfl,⟨dx,t,d,hp,ht,hd⟩,hk,nd,hi,q⟩:=h;have hu:=zXN hr
 refine ⟨_,zA2 (zBA (PW.pt (zHE (zBS (zBU (zAC zBR rfl T.inst yAj (zA0 (pv 1) (zA0 (zBF (v := .ty "str") rfl T.str PyProof.Rows.boot_str rfl) zA3)))))
   (zES (zT0 (zQ9 hu (pv 1) (zBW (pv 0) rfl)) (by with_unfolding_all rfl))))) zAP zAG)
  (zA5 (zAE (zVO hu (zBW (pv 0) rfl) (pv 1) (λ_ _=>rfl)))),?_⟩
 refine ⟨_,rfl,_,_,_,true,rfl,.str z,rfl,true,rfl,?_⟩;refine zCW ?_;obtain ⟨hlt,hx⟩:=yAE.mp hi;have hv:=zGC hk nd xs.length (yAG _) i hlt hlt;rw [hx] at hv;have hv : zEV (zB7 xs xs.length) (.inr z) = some (.int (i : Nat)):=hv;have hg : DGet H d (.str z) (some (.int (i : Nat))):=by rw [<- hv]; exact DGet.k (k := .inr z) hd
 refine ⟨_,rfl,_,rfl,p,C,dx,_,_,rfl,hp,cl,n2,rfl,d,_,rfl,hg,_,rfl,?_⟩;refine zCW ?_;exact ⟨_,rfl,p,C,dx,_,_,rfl,hp,cl,n2,rfl,_,rfl,d,_,rfl,hg,q⟩
noncomputable def zGT (m k : Nat) : Prop:=m / 2 ^ k % 2 = 0
theorem zOJ {m k : Nat} (h : zGT m k) {j : Nat} (hj : j≠k) (hm : zGT m j) : zGT (m + 2 ^ k) j:=by
 unfold zGT at *
 rcases yBs j k with z | z
 ·obtain ⟨d,rfl⟩ : ∃ d,k = j + (d + 1):=⟨k - j - 1,by lia⟩
  rw [Nat.pow_add,Nat.add_mul_div_left _ _ (Nat.two_pow_pos j),Nat.pow_succ];lia
 ·obtain ⟨d,rfl⟩ : ∃ d,j = k + 1 + d:=⟨j - k - 1,by lia⟩
  rw [Nat.pow_add,<- yEL] at hm ⊢
  have e : (m + 2 ^ k) / 2 ^ (k + 1) = m / 2 ^ (k + 1):=by
   rw [Nat.pow_succ,<- yEL,<- yEL,Nat.add_div_right _ (Nat.two_pow_pos k)];lia
  rw [e];exact hm
noncomputable def maskN (ix : List Nat) : Nat:=ix.foldl (λacc k=>acc + 2 ^ k) 0
theorem zD7 (ix : List Nat) (k : Nat) : maskN (ix++[k]) = maskN ix + 2 ^ k:=by unfold maskN; rw [yED]; rfl
theorem zDI : ∀ (n : Nat) (ix : List Nat),ix.length = n -> ix.Nodup -> ∀ k,k∉ix -> zGT (maskN ix) k:=by
 intro n
 induction n with
 | zero =>
  intro ix h _ k _;rw [yDM.mp h];show 0 / 2 ^ k % 2 = 0
  simp
 | succ n ih =>
  intro ix h nd k hk;have hne : ix≠[]:=λe=>by rw [e] at h; cases h
  obtain ⟨ds,c,rfl⟩ : ∃ ds c,ix = ds++[c]:=⟨_,_,(yCn hne).symm⟩;have hl : ds.length = n:=by simpa using h
  rw [yDS] at nd;have hc : c∉ds:=λz=>nd.2.2 c z c (by simp) rfl;rw [yAm,not_or,yAJ] at hk;rw [zD7];exact zOJ (ih ds hl nd.1 c hc) hk.2 (ih ds hl nd.1 k hk.1)
theorem zHN {m k : Nat} (h : zGT m k) : Builtin.bitAnd (m : Int) ((2 ^ k : Nat) : Int) = 0:=by
 have e : m &&& 2 ^ k = 0:=by
  refine yBg λi => ?_;rw [yBw,yDA,yCx]
  by_cases e : k = i
  ·subst e
   unfold zGT at h;rw [yCT,h]
   simp
  ·simp [e]
 show ((m &&& 2 ^ k : Nat) : Int) = 0;rw [e]; rfl
noncomputable def zGH (C : Addr) : Sp:=λvs H Q _=>∃ p xs x ys ix,vs = [.ref p,x]/\HousesAt C H p xs/\(∀ v∈xs,v = kV (.inr (zB3 v)))/\xs.Nodup/\xs.length <= 12/\Row H x (some ys)/\ix.Nodup/\ys.length = ix.length /\
 (∀ (j : Nat) (k : Nat),ix[j]? = some k -> ∃ v,xs[k]? = some v/\ys[j]? = some v)/\∀ H',Same H H' -> Q (.int (maskN ix : Nat)) H'
theorem HousesAt.same {C p : Addr} {H H' : Hp} {xs : List V} (g : Same H H') (h : HousesAt C H p xs) : HousesAt C H' p xs:=let ⟨dx,t,d,h1,h2,h3⟩:=h; ⟨dx,t,d,g _ _ h1,g _ _ h2,g _ _ h3⟩
theorem scMask : FnScope ["self","names","total","name","bit"] ["self","names"] (zA8 zU1):=by trivial
theorem zU5 {f a1 C : Addr} {fd d1 : FuncData} (F : Fun K "mask" "Houses.mask" zU1 f fd) (T : Txt mg) (mt : mg "tuple" = none) (k : Kit2 K) (cl : Cls K C) (M1 : Meth K C "number" a1) (O1 : FnOk P w K mg base CX0 1 a1 d1 ["self","name"] (zKR C)) (b1 : Binds K d1 ["self","name"] []) :
  FnOk P w K mg base CX0 2 f fd ["self","names"] (zGH C):=by
 refine F.ok scMask (λvs H Q E h => ?_) (λcdv A outer s H vs Q E hr h => ?_)
 ·obtain ⟨p,xs,x,ys,ix,rfl,_⟩:=h
  rfl
 obtain ⟨p,xs,x,ys,ix,rfl,hH,hk,nd,h12,hR,ndi,hl,hix,q⟩:=h;obtain ⟨t,ty,e⟩:=zJY k hR
 refine ⟨_,zA2 (zBA (zBS (zBU (zAC zEM rfl T.inst yAj (zA0 (pv 1) (zA0 (zEQ (zA0 (zBF (v := .ty "list") rfl T.list yBB rfl) (zA0 (zBF (v := .ty "tuple") rfl mt yBW rfl) zA3))) zA3))))) zAP zAG)
  (zA2 (zAB (i:=2) scMask.nd rfl (Or.inl rfl) zA4)
  (zA2 (zBL PassesOwn.never rfl (zBX (pv 1)) (zAD (i:=3) scMask.nd rfl (Or.inl rfl))
   (zA2 (zAB (i:=4) scMask.nd rfl (Or.inl rfl) (zA9 zCM zA4 (zCQ (pv 0) cl M1 O1 hr b1 .nil zAF (zA0 (pv 3) zA3))))
   (zA2 (zBA (zH1 (zA9 zE4 (pv 2) (pv 4)) (λ_=>rfl)) zAP zAG)
   (zA5 (zSW (i:=2) scMask.nd rfl (Or.inl rfl) (pv 4) zTD)))))
  (zA5 (zAE (pv 2))))),?_⟩
 refine ⟨_,rfl,(by show 2 <= sizeLine; decide),λu hu => ?_⟩;have g1:=same_new hu (.tup [.ty "list",.ty "tuple"]);have c1 : (upd H u (.tup [.ty "list",.ty "tuple"])) u = _:=zA1;generalize upd H u (.tup [.ty "list",.ty "tuple"]) = H1 at g1 c1 ⊢;refine ⟨_,t,u,["list","tuple"],_,rfl,TyOf.same g1 ty,c1,e,_,rfl,?_⟩;refine zCW ?_
 obtain ⟨a,rfl,sq⟩ : ∃ a,x = .ref a/\(H1 a = some (.lst ys) \/ H1 a = some (.tup ys)):=by
  cases hR with
  | lst h=>exact ⟨_,rfl,.inl (g1 _ _ h)⟩
  | tup h=>exact ⟨_,rfl,.inr (g1 _ _ h)⟩
 have hH1:=hH.same g1;refine ⟨_,rfl,a,rfl,?_⟩
 rcases sq with sq | sq
 ·refine .inl ⟨⟨_,SqL.of sq⟩,zGJ ys.length (λi σ H'=>∃ nm bt,σ = [some (.ref p),some (.ref a),some (.int (maskN (ix.take i) : Nat)),nm,bt]/\Same H1 H') ⟨_,_,rfl,Same.refl _⟩ (λi σ H' hi hP=>⟨ys,ys[i],SqL.of (hP.choose_spec.choose_spec.2 _ _ sq),by simp [hi]⟩) (λσ H' hP=>⟨ys,SqL.of (hP.choose_spec.choose_spec.2 _ _ sq),yAG _⟩) (λi σ H' x H3 hi hP y => ?_) (λσ H' hP => ?_)⟩
  ·obtain ⟨rfl,hx⟩:=y
   have hx:=hx ys (SqL.of (hP.choose_spec.choose_spec.2 _ _ sq));obtain ⟨nm,bt,rfl,g⟩:=hP;obtain ⟨kx,hkx⟩ : ∃ kx,ix[i]? = some kx:=⟨ix[i]'(by lia),by simp⟩;obtain ⟨v,hv,hy2⟩:=hix i kx hkx;rw [hx] at hy2
   cases hy2
   obtain ⟨z,hz⟩ : ∃ z,x = .str z:=⟨_,hk x (yAn hv)⟩;subst hz;have hkl : kx < xs.length:=(yAE.mp hv).1;obtain ⟨dx,t,d,hp',_⟩:=hH1.same g;refine ⟨_,rfl,p,dx,_,rfl,hp',rfl,_,rfl,p,xs,kx,z,rfl,hH1.same g,hk,nd,hv,_,_,rfl,rfl,⟨by lia,by lia,by decide⟩,?_⟩;have eb : (1 : Int) * 2 ^ ((kx : Nat) : Int).toNat = ((2 ^ kx : Nat) : Int):=by rw [yAS,yCS,yCY]; rfl
   have hun:=zDI _ (ix.take i) rfl (ndi.sublist (yCW i ix)) kx (λhm=>by
    obtain ⟨j,hj,ej⟩:=yDB hm;rw [yAf] at hj;rw [List.getElem_take] at ej
    have e2 : ix[i]'(by lia) = kx:=by
     have:=yAE.mp hkx
     exact this.2
    have:=(yCh ndi).mp (ej.trans e2.symm)
    lia)
   refine ⟨_,rfl,_,rfl,_,_,rfl,rfl,_,rfl,?_⟩;rw [eb,zHN hun];refine zCW ?_;refine ⟨_,rfl,_,rfl,_,_,rfl,rfl,some (.str z),some (.int (1 * 2 ^ ((kx : Nat) : Int).toNat)),?_,g⟩;have et : ix.take (i + 1) = ix.take i++[kx]:=by rw [yBX,hkx]; rfl
   have ev : ((maskN (ix.take (i + 1)) : Nat) : Int) = (maskN (ix.take i) : Nat) + 1 * 2 ^ ((kx : Nat) : Int).toNat:=by rw [et,zD7,eb]; lia
   rw [ev];rfl
  ·have hP:=hP
   obtain ⟨nm,bt,rfl,g⟩:=hP;rw [hl,yAt (yAG _)];exact ⟨_,rfl,q H' (g1.trans g)⟩
 ·refine .inr ⟨⟨_,SqT.of sq⟩,zGJ ys.length (λi σ H'=>∃ nm bt,σ = [some (.ref p),some (.ref a),some (.int (maskN (ix.take i) : Nat)),nm,bt]/\Same H1 H') ⟨_,_,rfl,Same.refl _⟩ (λi σ H' hi hP=>⟨ys,ys[i],SqT.of (hP.choose_spec.choose_spec.2 _ _ sq),by simp [hi]⟩) (λσ H' hP=>⟨ys,SqT.of (hP.choose_spec.choose_spec.2 _ _ sq),yAG _⟩) (λi σ H' x H3 hi hP y => ?_) (λσ H' hP => ?_)⟩
  ·obtain ⟨rfl,hx⟩:=y
   have hx:=hx ys (SqT.of (hP.choose_spec.choose_spec.2 _ _ sq));obtain ⟨nm,bt,rfl,g⟩:=hP;obtain ⟨kx,hkx⟩ : ∃ kx,ix[i]? = some kx:=⟨ix[i]'(by lia),by simp⟩;obtain ⟨v,hv,hy2⟩:=hix i kx hkx;rw [hx] at hy2
   cases hy2
   obtain ⟨z,hz⟩ : ∃ z,x = .str z:=⟨_,hk x (yAn hv)⟩;subst hz;have hkl : kx < xs.length:=(yAE.mp hv).1;obtain ⟨dx,t,d,hp',_⟩:=hH1.same g;refine ⟨_,rfl,p,dx,_,rfl,hp',rfl,_,rfl,p,xs,kx,z,rfl,hH1.same g,hk,nd,hv,_,_,rfl,rfl,⟨by lia,by lia,by decide⟩,?_⟩;have eb : (1 : Int) * 2 ^ ((kx : Nat) : Int).toNat = ((2 ^ kx : Nat) : Int):=by rw [yAS,yCS,yCY]; rfl
   have hun:=zDI _ (ix.take i) rfl (ndi.sublist (yCW i ix)) kx (λhm=>by
    obtain ⟨j,hj,ej⟩:=yDB hm;rw [yAf] at hj;rw [List.getElem_take] at ej
    have e2 : ix[i]'(by lia) = kx:=by
     have:=yAE.mp hkx
     exact this.2
    have:=(yCh ndi).mp (ej.trans e2.symm)
    lia)
   refine ⟨_,rfl,_,rfl,_,_,rfl,rfl,_,rfl,?_⟩;rw [eb,zHN hun];refine zCW ?_;refine ⟨_,rfl,_,rfl,_,_,rfl,rfl,some (.str z),some (.int (1 * 2 ^ ((kx : Nat) : Int).toNat)),?_,g⟩;have et : ix.take (i + 1) = ix.take i++[kx]:=by rw [yBX,hkx]; rfl
   have ev : ((maskN (ix.take (i + 1)) : Nat) : Int) = (maskN (ix.take i) : Nat) + 1 * 2 ^ ((kx : Nat) : Int).toNat:=by rw [et,zD7,eb]; lia
   rw [ev];rfl
  ·have hP:=hP
   obtain ⟨nm,bt,rfl,g⟩:=hP;rw [hl,yAt (yAG _)];exact ⟨_,rfl,q H' (g1.trans g)⟩
noncomputable def bit (m : Int) (k : Nat) : Bool:=decide (m / 2 ^ k % 2 = 1)
noncomputable def zBN (m : Int) (i : Nat) : List Int:=((List.range i).filter (bit m)).map λ(k : Nat)=>(k : Int)
noncomputable def zC1 (m : Int) : List Int:=zBN m 12
theorem zBG (m : Int) (i : Nat) : zBN m (i + 1) = zBN m i++(if bit m i = true then [(i : Int)] else []):=by
 unfold zBN;rw [yDK,yDO,yAa]
 cases h : bit m i <;> simp [h]
theorem zCL (m : Int) (i : Nat) : (zBN m i).length <= i:=by
 unfold zBN;rw [yAC];exact yAz (yBc _ _) (by simp)
theorem zHP {m : Int} {i k : Nat} (h0 : 0 <= m) (h : m / 2 ^ i <= 0) (hk : i <= k) : m / 2 ^ k = 0:=by
 have p1 : (0 : Int) < 2 ^ i:=Int.pow_pos (by decide)
 have e : m / 2 ^ i = 0:=by
  have:=Int.ediv_nonneg h0 (Int.le_of_lt p1)
  lia
 have hlt : m < 2 ^ i:=by
  have:=Int.lt_ediv_add_one_mul_self m p1
  rw [e] at this;lia
 have hle : (2 : Int) ^ i <= 2 ^ k:=by
  have:=yCF (n:=2) (by decide) hk
  exact_mod_cast this
 exact yCk h0 (by lia)
theorem zFU {m : Int} {i : Nat} (h0 : 0 <= m) (h : m / 2 ^ i <= 0) : ∀ d : Nat,zBN m (i + d) = zBN m i
 | 0=>rfl
 | d + 1=>by
  have e : bit m (i + d) = false:=by
   unfold bit;rw [zHP h0 h (yEJ i d)];rfl
  rw [<- Nat.add_assoc,zBG,e,zFU h0 h d]
  simp
theorem zCC {m : Int} {i : Nat} (h0 : 0 <= m) (h : m / 2 ^ i <= 0) (hi : i <= 12) : zBN m i = zC1 m:=by
 have:=zFU h0 h (12 - i)
 rw [show i + (12 - i) = 12 by lia] at this;exact this.symm
theorem zOW {m : Int} (h0 : 0 <= m) (h : m < 4096) : m / 2 ^ 12 <= 0:=by
 have : m / 2 ^ 12 = 0:=yCk h0 (by simpa using h);lia
noncomputable def kOf (v : V) : Int × List Int:=match v with
 | .int m=>((zC1 m).length,zC1 m)
 | _=>(0,[])
noncomputable def OkM (m : Int) : Prop:=0 <= m/\m < 4096
noncomputable def zWC : Sp:=λvs H Q _=>∃ m,vs = [.int m]/\OkM m/\∀ r H',Same H H' -> H r = none -> H' r = some (.lst ((zC1 m).map V.int)) -> Q (.ref r) H'
noncomputable def zWU (K : PySem.W.Frag) : Sp:=λvs H Q _=>∃ m,vs = [.int m]/\OkM m/\∀ r H',Same H H' -> DV K H' (.ref r) (zYQ (kOf (.int m))) -> Q (.ref r) H'
noncomputable def zWW (K : PySem.W.Frag) : Sp:=λvs H Q _=>∃ a ms,vs = [.ref a]/\(SqL K H a (List.map V.int ms) \/ SqT K H a (List.map V.int ms))/\ms.length <= 5000/\(∀ m∈ms,OkM m) /\
 ∀ D H' ys,H D = none -> Same H H' -> H' D = some (.lst (List.map V.int ys)) -> ys.Perm ms -> ys.Pairwise (λa b=>zB2 (kOf (.int b)) (kOf (.int a)) = false) -> Q (.ref D) H'
theorem scNum : FnScope ["mask","numbers","number"] ["mask"] (zA8 zZ2):=by trivial
theorem zXW {f : Addr} {fd : FuncData} (F : Fun K "numbers_of" "numbers_of" zZ2 f fd) : FnOk P w K mg base CX0 1 f fd ["mask"] zWC:=by
 refine F.ok scNum (λvs H Q E h => ?_) (λcdv A outer s H vs Q E hr h => ?_)
 ·obtain ⟨m,rfl,_⟩:=h
  rfl
 obtain ⟨m,rfl,⟨h0,h1⟩,q⟩:=h
 refine ⟨_,zA2 (zAB (i:=1) scNum.nd rfl (Or.inl rfl) (zBK zA3)) (zA2 (zAB (i:=2) scNum.nd rfl (Or.inl rfl) zA4)
  (zA2 (zR0 PassesOwn.never (zAI zUB (zA9 zLA (pv 0) (pv 2)) zA4 (zAO _))
   (zA2 (zBA (zH1 (zA9 zE4 (zA9 zLA (pv 0) (pv 2)) zA4) (λ_=>rfl))
     (zA5 (zBO (zFA yBE yBS yBR zBC (pv 1) (zA0 (pv 2) zA3)))) zAG)
    (zA5 (zSW (i:=2) scNum.nd rfl (Or.inl rfl) zA4 zTD))))
  (zA5 (zAE (pv 1))))),?_⟩
 refine ⟨(by show 0 <= sizeLine; decide),λp hp => ?_⟩;refine ⟨λk σ H'=>∃ i : Nat,σ = [some (.int m),some (.ref p),some (.int i)]/\i <= 12/\k = 13 - i/\Same H H'/\H' p = some (.lst ((zBN m i).map V.int)),⟨13,0,rfl,by lia,rfl,same_new hp _,zA1⟩,?_⟩
 rintro k σ H' ⟨i,rfl,hi,rfl,g,hl⟩
 refine ⟨_,rfl,_,rfl,_,_,rfl,rfl,(by show (0 : Int) <= (i : Int); lia),_,_,rfl,rfl,_,rfl,?_⟩;have ei : ((i : Int)).toNat = i:=yAS i;rw [ei];refine zEN (λc => ?_) (λc => ?_)
 ·have c' : 0 < m / 2 ^ i:=yAl c
  have hi' : i < 12:=by
   rcases yBs i 12 with z | z
   ·exact z
   ·have e : i = 12:=by lia
    subst e
    have:=zOW h0 h1
    lia
  refine ⟨λσ' H2 => σ' = [some (.int m),some (.ref p),some (.int ((i + 1 : Nat) : Int))]/\Same H H2/\H2 p = some (.lst ((zBN m (i + 1)).map V.int)),λσ' H2 ⟨e,g2,hl2⟩=>⟨13 - (i + 1),by lia,i + 1,e,by lia,rfl,g2,hl2⟩,?_⟩;refine ⟨_,rfl,_,rfl,_,_,rfl,rfl,(by show (0 : Int) <= (i : Int); lia),_,_,rfl,rfl,_,rfl,?_⟩;rw [ei,PyProof.Rows.bitAnd_m1];have hn:=zBG m i;have hz:=zCL m i;refine zEN (λb => ?_) (λb => ?_)
  ·have hb : bit m i = true:=by
    unfold bit;have : m / 2 ^ i % 2≠0:=by simpa using b
    exact yAZ (by lia)
   rw [yAK hb] at hn;refine ⟨_,rfl,.inl ⟨rfl,_,SqL.of hl⟩,_,rfl,p,_,_,rfl,rfl,hl,(by rw [yAC]; exact zN7 (by lia)),?_⟩;refine ⟨_,rfl,_,_,rfl,rfl,rfl,λc o e => ?_,?_⟩
   ·rw [zA7 (zA6 e hp)]; exact g _ _ e
   ·rw [zA1,hn,yAa]; rfl
  ·have hb : ¬ bit m i = true:=by
    unfold bit;have : m / 2 ^ i % 2 = 0:=by simpa using b
    intro z
    have:=yAl z
    lia
   rw [yAN hb,yBq] at hn;refine ⟨_,rfl,_,_,rfl,rfl,rfl,g,?_⟩;rw [hn]; exact hl
 ·have c' : ¬ 0 < m / 2 ^ i:=λz=>c (yAZ z)
  refine ⟨_,rfl,?_⟩;rw [zCC h0 (by lia) hi] at hl;exact q p H' g hp hl
theorem scKey : FnScope ["mask","numbers"] ["mask"] (zA8 zZQ):=by trivial
theorem zWK {f g : Addr} {fd gd : FuncData} (F : Fun K "key_of" "key_of" zZQ f fd) (G : FnOk P w K mg base CX0 1 g gd ["mask"] zWC) (bG : Binds K gd ["mask"] []) (kG : PySem.W.keepIn K (.ref g) = true) (mG : mg "numbers_of" = some (.ref g)) (ml : mg "len" = none) (mt : mg "tuple" = none) :
  FnOk P w K mg base CX0 2 f fd ["mask"] (zWU K):=by
 refine F.ok scKey (λvs H Q E h => ?_) (λcdv A outer s H vs Q E hr h => ?_)
 ·obtain ⟨m,rfl,_⟩:=h
  rfl
 obtain ⟨m,rfl,hm,q⟩:=h
 refine ⟨_,zA2 (zAB (i:=1) scKey.nd rfl (Or.inl rfl) (zAA G hr rfl mG kG bG .nil zAF (zA0 (pv 0) zA3)))
  (zA5 (zAE (zEQ (zA0 (zAC zAH rfl ml yBH (zA0 (pv 1) zA3)) (zA0 (zB0 zB9 rfl mt yBW (zA0 (pv 1) zA3)) zA3))))),?_⟩
 refine ⟨_,rfl,m,rfl,hm,λr H' g hr' hl => ?_⟩;refine ⟨_,rfl,r,_,rfl,.inl (SqL.of hl),_,rfl,r,_,rfl,.inl ⟨SqL.of hl,λt ht=>⟨(by show 2 <= sizeLine; decide),λu hu => ?_⟩⟩⟩
 have ne : t≠u:=by
  intro e;subst e;rw [zA1] at hu
  cases hu
 refine q u _ (g.trans ((same_new ht _).trans (same_new hu _))) ?_;rw [yAC];refine .tup (SqT.of zA1) (.cons (.int _) (.cons (.tup (SqT.of (xs:=(zC1 m).map V.int) (by rw [zA7 ne,zA1])) (DVs.ints _)) .nil))
theorem zZ7 : FnScope ["masks"] ["masks"] (zA8 zZN):=by trivial
theorem zIG {ys : List V} {ms : List Int} (h : ys.Perm (ms.map V.int)) : ∃ zs : List Int,ys = zs.map V.int/\zs.Perm ms:=by
 have hall : ∀ y∈ys,∃ m,y = V.int m:=λy hy=>by
  obtain ⟨m,_,e⟩:=yBA.mp (h.mem_iff.mp hy);exact ⟨m,e.symm⟩
 let un : V -> Int:=λv=>match v with | .int m=>m | _=>0
 have e1 : (ms.map V.int).map un = ms:=by rw [yBp]; exact List.map_id _
 refine ⟨ys.map un,?_,?_⟩
 ·rw [yBp]
  clear h
  induction ys with
  | nil=>rfl
  | cons y r ih =>
   obtain ⟨m,rfl⟩:=hall y (yAQ ..);rw [yAp,<- ih λz hz=>hall z (yAP _ hz)];rfl
 ·have:=h.map un
  rw [e1] at this;exact this
theorem zXR {f g : Addr} {fd gd : FuncData} (F : Fun K "in_order" "in_order" zZN f fd) (G : FnOk P w K mg base CX0 2 g gd ["mask"] (zWU K)) (bG : Binds K gd ["mask"] []) (mG : mg "key_of" = some (.ref g)) (ms : mg "sorted" = none) :
  FnOk P w K mg base CX0 5 f fd ["masks"] (zWW K):=by
 refine F.ok zZ7 (λvs H Q E h => ?_) (λcdv A outer s H vs Q E hr h => ?_)
 ·obtain ⟨a,m,rfl,_⟩:=h
  rfl
 obtain ⟨a,ns,rfl,hS,h64,hm,q⟩:=h;refine ⟨_,zA5 (zAE (zRI (kf:=kOf) G hr bG rfl ms rfl mG (pv 0))),?_⟩;refine ⟨_,rfl,a,ns.map V.int,rfl,hS,by rw [yAC]; lia,λy hy H2 g => ?_,λD H2 ys hD g hl hp hs => ?_⟩
 ·obtain ⟨m,hmm,rfl⟩:=yBA.mp hy
  exact ⟨m,rfl,hm m hmm,λr H' g' hd=>⟨g',hd⟩⟩
 ·obtain ⟨zs,rfl,hz⟩:=zIG hp
  rw [yBY] at hs;exact q D H2 zs hD g hl hz hs
theorem zV4 {X : Cx} {K : PySem.W.Frag} {e : Expr} {f : Str} {pos : Pos} {ta : TE} (hK : X.K = K) (he : PE X e ta) (hb : attributeBase e f X.env (eval e X.env) = eval e X.env) : PE X (.Attribute e f pos) (zaB K ta f):=by subst hK; exact zBW he hb
theorem zNN {X : Cx} {K : PySem.W.Frag} (hK : X.K = K) : IxR X (za6 K):=by subst hK; exact zY1
noncomputable def zJA (C : Addr) : Sp:=λvs H Q _=>∃ p xs,vs = [.ref p]/\HousesAt C H p xs/\xs.length <= 12/\Q (.int (2 ^ xs.length - 1)) H
theorem zVD : FnScope ["houses"] ["houses"] (zA8 zP4):=by trivial
theorem zQX {f a1 C : Addr} {fd d1 : FuncData} (F : Fun K "all_of" "all_of" zP4 f fd) (cl : Cls K C) (M1 : Meth K C "size" a1) (O1 : FnOk P w K mg base CX0 1 a1 d1 ["self"] (zPU C)) (b1 : Binds K d1 ["self"] []) :
  FnOk P w K mg base CX0 2 f fd ["houses"] (zJA C):=by
 refine F.ok zVD (λvs H Q E h => ?_) (λcdv A outer s H vs Q E hr h => ?_)
 ·obtain ⟨p,xs,rfl,_⟩:=h
  rfl
 obtain ⟨p,xs,rfl,hH,h12,q⟩:=h;obtain ⟨dx,t,d,hp,ht,hd⟩:=id hH;refine ⟨_,zA5 (zAE (zA9 zI0 (zA9 zCM zA4 (zDS (pv 0) cl M1 O1 hr b1 .nil zAF)) zA4)),?_⟩;refine ⟨_,rfl,p,dx,_,rfl,hp,rfl,p,xs,rfl,hH,_,_,rfl,rfl,⟨by lia,by lia,by decide⟩,_,_,rfl,rfl,?_⟩;rw [show (1 : Int) * 2 ^ ((xs.length : Nat) : Int).toNat = 2 ^ xs.length by rw [yAS,yCS]];exact q
noncomputable def zCG (xs : List V) (m : Int) : List V:=(zC1 m).map λk=>xs.getD k.toNat .non
noncomputable def zNQ (C : Addr) : Sp:=λvs H Q _=>∃ p xs m,vs = [.ref p,.int m]/\HousesAt C H p xs/\xs.length <= 12/\0 <= m/\m < 2 ^ xs.length/\∀ D H',H D = none -> Same H H' -> H' D = some (.lst (zCG xs m)) -> Q (.ref D) H'
theorem zNU {xs : List V} {m : Int} (h12 : xs.length <= 12) (h0 : 0 <= m) (h1 : m < 2 ^ xs.length) {k : Int} (hk : k∈zC1 m) : 0 <= k/\k < (xs.length : Int):=by
 have e : m / 2 ^ xs.length = 0:=yCk h0 h1;rw [<- zCC h0 (by lia) h12] at hk;unfold zBN at hk;obtain ⟨j,hj,rfl⟩:=yBA.mp hk
 have:=yBL.mp (yBx.mp hj).1
 lia
theorem zV2 : FnScope ["self","mask"] ["self","mask"] (zA8 zOA):=by trivial
theorem zQM {f a1 a2 a3 C : Addr} {fd d1 d2 d3 : FuncData} (F : Fun K "set_of" "Houses.set_of" zOA f fd) (T : Txt mg) (cl : Cls K C) (n1 : NoAttr K C "row") (D1 : Def P w K mg base 2 "is_within" ["thing","low","high"] zLC a1 d1) (D2 : Def P w K mg base 1 "numbers_of" ["mask"] zWC a2 d2) (DA : Def P w K mg base 2 "all_of" ["houses"] (zJA C) a3 d3) :
  FnOk P w K mg base CX0 3 f fd ["self","mask"] (zNQ C):=by
 refine F.ok zV2 (λvs H Q E h => ?_) (λcdv A outer s H vs Q E hr h => ?_)
 ·obtain ⟨p,xs,m,rfl,_⟩:=h
  rfl
 obtain ⟨p,xs,m,rfl,hH,h12,h0,h1,q⟩:=h;have hr1 : Room 1 _:=hr.mono (by decide)
 refine ⟨_,zA2 (zBA (zBS (zBU (zAA D1.ok hr rfl D1.m D1.k D1.b .nil zAF (zA0 (pv 1) (zA0 zA4 (zA0 (zAA DA.ok hr rfl DA.m DA.k DA.b .nil zAF (zA0 (pv 0) zA3)) zA3)))))) zAP zAG)
  (zA5 (zAE (zB8 (xs:=["number"]) (fv:=[("self",0)]) rfl (by decide +kernel) ⟨⟨rfl,Or.inl rfl,rfl⟩,trivial⟩ (zU9 (zAA D2.ok hr1 rfl D2.m D2.k D2.b .nil zAF (zA0 (pv 1) zA3))) (λ_ _ _ _ _=>zAD (i:=0) (ndT (by decide +kernel)) rfl (Or.inl rfl)) (λ_ _ _ _ _=>zCH)
   (λ_ _ _ _ _=>zBH (zNN (K:=K) rfl) (zV4 (K:=K) rfl (pv 1) rfl) (pv 0) (λ_ _=>rfl))))),?_⟩
 obtain ⟨dx,t,d,hp,ht,hd⟩:=id hH;refine ⟨_,rfl,_,rfl,p,xs,rfl,hH,h12,.int m,0,_,rfl,trivial,_,rfl,?_⟩
 have ew : zJF (.int m) 0 (2 ^ xs.length - 1) = true:=by
  show (decide (0 <= m)&&decide (m <= _)) = true;rw [yAZ h0,yAZ (show m <= 2 ^ xs.length - 1 by lia)]; rfl
 rw [ew];refine zCW ?_
 have ok : OkM m:=⟨h0,by
  have : (2 : Int) ^ xs.length <= 2 ^ 12:=by
   have:=yCF (n:=2) (by decide) h12
   exact_mod_cast this
  lia⟩
 refine ⟨_,rfl,m,rfl,ok,λr H1 g1 hr' l1=>⟨r,rfl,⟨_,SqL.of l1⟩,?_⟩⟩;have hlen : (zC1 m).length <= 12:=zCL m 12;refine zBZ (zC1 m).length (λi D H'=>Same H1 H'/\H' D = some (.lst ((zCG xs m).take i))) (λD hD=>⟨L2.same_new hD _,zA1⟩) (λi D H' _ hi hP=>⟨_,.int (zC1 m)[i],SqL.of (hP.1 _ _ l1),by simp [hi]⟩) (λD H' _ hP=>⟨_,SqL.of (hP.1 _ _ l1),by simp⟩) (λi D H' x H3 hD hi hP y => ?_) (λD H' hD hP => ?_)
 ·obtain ⟨rfl,hx⟩:=y
  have hx:=hx _ (SqL.of (hP.1 _ _ l1));rw [yAb,yAB hi] at hx
  cases hx
  obtain ⟨k0,k1⟩:=zNU h12 h0 h1 (yBI hi);refine ⟨rfl,?_⟩;unfold zKA
  (try dsimp only)
  rw [yAK rfl];have hk : (zC1 m)[i].toNat < xs.length:=by lia
  have hat : atI xs (zC1 m)[i] = some (xs.getD (zC1 m)[i].toNat .non):=by
   have q : atI xs (((zC1 m)[i].toNat : Nat) : Int) = some xs[(zC1 m)[i].toNat]:=zD5 (yAB hk);rw [show (((zC1 m)[i].toNat : Nat) : Int) = (zC1 m)[i] by lia] at q;rw [q,yAc,yAB hk]; rfl
  refine ⟨_,rfl,p,C,dx,_,_,rfl,hP.1 _ _ (g1 _ _ hp),cl,n1,rfl,_,rfl,t,_,_,_,rfl,rfl,SqT.of (hP.1 _ _ (g1 _ _ ht)),hat,_,hP.2,?_,λb o q' => ?_,?_⟩
  ·have : 1000 < sizeLine:=by decide
   rw [yAf];unfold zCG;rw [yAC];lia
  ·rw [zA7 (zA6 q' hD)]; exact hP.1 _ _ q'
  ·have es : (zCG xs m)[i]? = some (xs.getD (zC1 m)[i].toNat .non):=by unfold zCG; rw [yAb,yAB hi]; rfl
   rw [zA1,yBX,es]; rfl
 ·have:=hP.2
  rw [yAt (by unfold zCG; simp)] at this;exact q D H' (g1.free hD) (g1.trans hP.1) this
structure GN (xs : List V) : Prop where
 str : ∀ v∈xs,v = kV (.inr (zB3 v))
 nd : xs.Nodup
 lo : 1 <= xs.length
 hi : xs.length <= 12
 sok : ∀ v∈xs,PyData.strOk (zB3 v) = true
 six : ∀ v∈xs,(zB3 v).length <= 6
theorem zPS : ∀ c∈LET.cps.toList,c < 1114112:=by decide +kernel
theorem zQH {v : V} (h : zC9 v = true) : PyData.strOk (zB3 v) = true:=by
 cases v with
 | str z =>
  have e0 : zC9 (.str z) = ((zEC z 6&&zK8 z LET) && !inV (.str z) (OWN.map V.str)):=rfl;rw [e0,yAk,yAk] at h;have ha:=h.1.2;unfold zK8 at ha;show (z.cps.all λc=>decide (c < 0x110000)) = true;rw [<- Array.all_toList,yCD];intro c hc;exact yAZ (zPS c (yAl (yCD.mp ha c hc)))
 | _=>cases h
theorem zQN {v : V} (h : zC9 v = true) : (zB3 v).length <= 6:=by
 cases v with
 | str z =>
  have e0 : zC9 (.str z) = ((zEC z 6&&zK8 z LET) && !inV (.str z) (OWN.map V.str)):=rfl;rw [e0,yAk,yAk] at h;have ha:=h.1.1;unfold zEC at ha;rw [yAk] at ha
  have:=yAl ha.2
  show z.length <= 6;lia
 | _=>cases h
theorem zH5 {xs : List V} (h : zHL (some xs) = true) : GN xs:=by
 have hs:=λv hv=>zKE h (v:=v) hv;have e0 : zHL (some xs) = (decide (1 <= (xs.length : Int))&&decide ((xs.length : Int) <= 12)&&(xs.all zC9&&decide ((zBI (xs.map λv => .inr (zB3 v))).length = xs.length))):=rfl;rw [e0,yAk,yAk,yAk] at h;obtain ⟨⟨h1,h2⟩,h3,h4⟩:=h;have h1:=yAl h1;have h2:=yAl h2;have h4:=yAl h4;refine ⟨hs,?_,by lia,by lia,λv hv=>zQH (yCD.mp h3 v hv),λv hv=>zQN (yCD.mp h3 v hv)⟩;have nd:=(zHR _ (xs.map λv=>(.inr (zB3 v) : Key)) rfl).mp (by rw [yAC]; exact h4);exact (yBY.mp nd).imp λh e=>h (by rw [e])
theorem Row.same {H H' : Hp} {v : V} {r : Option (List V)} (g : Same H H') (h : Row H v r) : Row H' v r:=by
 cases h with
 | lst h=>exact .lst (g _ _ h)
 | tup h=>exact .tup (g _ _ h)
 | dK h=>exact .dK (g _ _ h)
 | non=>exact .non
 | bl b=>exact .bl b
 | int i=>exact .int i
 | str z=>exact .str z
theorem Row.sq {K : PySem.W.Frag} {H : Hp} {v : V} {ys : List V} (h : Row H v (some ys)) : ∃ a,v = .ref a/\Sq K H a ys:=by
 cases h with
 | lst h=>exact ⟨_,rfl,.inl (SqL.of h)⟩
 | tup h=>exact ⟨_,rfl,.inr (SqT.of h)⟩
noncomputable def LotAt (H : Hp) (xs : List V) (v : V) (ix : List Nat) : Prop:=∃ ys,Row H v (some ys)/\ix.Nodup/\ys.length = ix.length/\∀ (j : Nat) (k : Nat),ix[j]? = some k -> ∃ y,xs[k]? = some y/\ys[j]? = some y
theorem LotAt.same {H H' : Hp} {xs : List V} {v : V} {ix : List Nat} (g : Same H H') (h : LotAt H xs v ix) : LotAt H' xs v ix:=let ⟨ys,a,b⟩:=h; ⟨ys,a.same g,b⟩
noncomputable def zWN (H : Hp) (xs ls : List V) (ixs : List (List Nat)) : Prop:=ls.length = ixs.length/\∀ (i : Nat) v ix,ls[i]? = some v -> ixs[i]? = some ix -> LotAt H xs v ix
noncomputable def msV (ms : List Nat) : List V:=ms.map λ(m : Nat)=>V.int (m : Int)
noncomputable def zT9 (C : Addr) : Sp:=λvs H Q _=>∃ p x xs ls ixs,vs = [.ref p,x]/\HousesAt C H p xs/\GN xs/\Row H x (some ls)/\ls.length <= 1000/\zWN H xs ls ixs/\(ixs.map maskN).Nodup /\
 ∀ D H',H D = none -> Same H H' -> H' D = some (.lst (msV (ixs.map maskN))) -> Q (.ref D) H'
noncomputable def zJV (ms : List Nat) : List (Key × V):=ms.map λ(m : Nat)=>(.inl (m : Int),.bl true)
theorem zEH : ∀ {ms : List Nat} {m : Nat},m∉ms -> zEV (zJV ms) (.inl (m : Int)) = none
 | [],_,_=>rfl
 | c::r,m,h=>by
  rw [yAd,not_or] at h;show zEV ((.inl (c : Int),V.bl true)::zJV r) _ = none;rw [zBE (λe=>h.1 (by injection e with e; lia))];exact zEH h.2
theorem scLotM : FnScope ["houses","lots","masks","lot","mask"] ["houses","lots"] (zA8 zUW):=by trivial
theorem zV1 {f a1 C : Addr} {fd d1 : FuncData} {tM : Tok} (F : Fun K "lot_masks" "lot_masks" zUW f fd) (T : Txt mg) (mt : mg "tuple" = none) (gM : mg "MOST_LOTS" = some (.int 1000 tM)) (k : Kit2 K) (cl : Cls K C) (M1 : Meth K C "mask" a1) (O1 : FnOk P w K mg base CX0 2 a1 d1 ["self","names"] (zGH C)) (b1 : Binds K d1 ["self","names"] []) :
  FnOk P w K mg base CX0 3 f fd ["houses","lots"] (zT9 C):=by
 refine F.ok scLotM (λvs H Q E h => ?_) (λcdv A outer s H vs Q E hr h => ?_)
 ·obtain ⟨p,x,xs,ls,ixs,rfl,_⟩:=h
  rfl
 obtain ⟨p,x,xs,ls,ixs,rfl,hH,hG,hR,h64,hL,nd,q⟩:=h;obtain ⟨t,ty,e⟩:=zJY k hR;have hu:=zXN hr
 refine ⟨_,zA2 (zBA (PW.pt (zHE (zBS (zBU (zAC zEM rfl T.inst yAj (zA0 (pv 1) (zA0 (zEQ (zA0 (zBF (v := .ty "list") rfl T.list yBB rfl) (zA0 (zBF (v := .ty "tuple") rfl mt yBW rfl) zA3))) zA3)))))
   (zES (zAI zUB (zAC zAH rfl T.len yBH (zA0 (pv 1) zA3)) (zEE (v := .int 1000) rfl gM ⟨_,rfl⟩) (zAO _))))) zAP zAG)
  (zA2 (zAB (i:=2) scLotM.nd rfl (Or.inl rfl) zQK)
  (zA2 (zBL PassesOwn.never rfl (zBX (pv 1)) (zAD (i:=3) scLotM.nd rfl (Or.inl rfl))
   (zA2 (zAB (i:=4) scLotM.nd rfl (Or.inl rfl) (zCQ (pv 0) cl M1 O1 hr b1 .nil zAF (zA0 (pv 3) zA3)))
   (zA2 (zBA (zT0 (zXG hu (pv 4) (pv 2)) (by with_unfolding_all rfl)) zAP zAG)
   (zA5 (zUU hu (pv 2) (pv 4) zEU rfl)))))
  (zA5 (zAE (zB0 (zMK rfl) rfl T.list yBB (zA0 (pv 2) zA3)))))),?_⟩
 refine ⟨_,rfl,(by show 2 <= sizeLine; decide),λu hu' => ?_⟩;have g1:=same_new hu' (.tup [.ty "list",.ty "tuple"]);have c1 : (upd H u (.tup [.ty "list",.ty "tuple"])) u = _:=zA1;generalize upd H u (.tup [.ty "list",.ty "tuple"]) = H1 at g1 c1 ⊢;refine ⟨_,t,u,["list","tuple"],_,rfl,TyOf.same g1 ty,c1,e,_,rfl,?_⟩;refine zCW ?_;obtain ⟨a,rfl,sq⟩:=Row.sq (K:=K) (hR.same g1);refine ⟨_,rfl,a,ls,rfl,sq,_,_,rfl,rfl,_,rfl,?_⟩;rw [yAL (by lia)];refine zCW ?_;intro d hd;have g2:=same_new hd (.dK []);have l2 : (upd H1 d (.dK [])) d = some (.dK []):=zA1;have hd0 : H d = none:=g1.free hd;generalize upd H1 d (.dK []) = H2 at g2 l2 ⊢;have g12:=g1.trans g2;refine ⟨_,rfl,a,rfl,?_⟩
 refine zC4 (sq.at1 (g2.at1 a)) (λi σ H'=>∃ lo mk,σ = [some (.ref p),some (.ref a),some (.ref d),lo,mk]/\Same H H'/\At1 a H2 H'/\H' d = some (.dK (zJV ((ixs.map maskN).take i)))) ⟨_,_,rfl,g12,λo h=>h,by rw [List.take_zero]; exact l2⟩
  (λi σ H' hP=>hP.choose_spec.choose_spec.2.2.1) (λi σ H' v hi hv hP => ?_) (λσ H' hP => ?_)
 ·obtain ⟨lo,mk,rfl,g,ga,hl⟩:=hP
  have hi' : i < ixs.length:=by rw [<- hL.1]; exact hi
  have hix : ixs[i]? = some ixs[i]:=by simp
  obtain ⟨ys,r,n1,n2,n3⟩:=hL.2 i v ixs[i] hv hix;have hH':=hH.same g;obtain ⟨dx,tt,dd,hp',_⟩:=id hH';refine ⟨_,rfl,p,dx,_,rfl,hp',rfl,_,rfl,p,xs,v,ys,ixs[i],rfl,hH',hG.str,hG.nd,hG.hi,r.same g,n1,n2,n3,λH3 g3 => ?_⟩;have hm : (ixs.map maskN)[i]? = some (maskN ixs[i]):=by rw [yAb,hix]; rfl
  have hnot : maskN ixs[i]∉(ixs.map maskN).take i:=λz=>by
   obtain ⟨j,hj,ej⟩:=yDB z;rw [yAf,yAC] at hj;rw [List.getElem_take] at ej;have e2 : (ixs.map maskN)[i]'(by rw [yAC]; exact hi') = maskN ixs[i]:=by simp
   have:=(yCh nd).mp (ej.trans e2.symm)
   lia
  refine ⟨_,rfl,_,rfl,d,none,rfl,?_,_,rfl,?_⟩
  ·have:=DGet.k (k := .inl (maskN ixs[i] : Int)) (g3 _ _ hl)
   rw [zEH hnot] at this;exact this
  refine zCW ?_
  have hlen : (zJV ((ixs.map maskN).take i)).length < sizeLine:=by
   unfold zJV;rw [yAC,yAf,yAC];have : 1000 < sizeLine:=by decide
   lia
  refine ⟨_,rfl,_,rfl,d,_,rfl,DPut.k (k := .inl (maskN ixs[i] : Int)) (g3 _ _ hl) hlen,some v,some (.int (maskN ixs[i] : Nat)),rfl,λb o hb => ?_,λo ho => ?_,?_⟩
  ·rw [zA7 (zA6 hb hd0)]; exact g3 _ _ (g _ _ hb)
  ·have na : a≠d:=by
    rintro rfl
    obtain ⟨z,ez⟩ : ∃ o,H a = some o:=by
     cases hR with
     | lst h=>exact ⟨_,h⟩
     | tup h=>exact ⟨_,h⟩
    rw [ez] at hd0; cases hd0
   rw [zA7 na];exact g3 _ _ (ga o ho)
  ·rw [zA1,zSR _ (zEH hnot),yBX,hm]
   unfold zJV;rw [yAa];rfl
 ·obtain ⟨lo,mk,rfl,g,ga,hl⟩:=hP
  rw [hL.1,yAt (by rw [yAC]; exact yAG _)] at hl;refine ⟨_,rfl,d,_,rfl,hl,λl hl' => ?_⟩;refine q l _ (g.free hl') (g.trans (same_new hl' _)) ?_;rw [zA1];unfold zJV msV;rw [yBp,yBp,yBp];rfl
noncomputable def IV (ms : List Int) : List V:=ms.map V.int
noncomputable def SysAt (CS C : Addr) (H : Hp) (p : Addr) (xs : List V) (ms : List Int) : Prop :=
 ∃ dx g t,H p = some (.ins CS dx [("ground",.ref g),("masks",.ref t)])/\HousesAt C H g xs/\H t = some (.tup (IV ms))
theorem SysAt.same {CS C p : Addr} {H H' : Hp} {xs : List V} {ms : List Int} (g : Same H H') (h : SysAt CS C H p xs ms) : SysAt CS C H' p xs ms:=let ⟨dx,a,t,h1,h2,h3⟩:=h; ⟨dx,a,t,g _ _ h1,h2.same g,g _ _ h3⟩
structure Ord (xs : List V) (ms : List Int) : Prop where
 gn : GN xs
 ok : ∀ m∈ms,0 <= m/\m < 2 ^ xs.length
 few : ms.length <= 1000
 ord : ms.Pairwise (λa b=>zB2 (kOf (.int b)) (kOf (.int a)) = false)
 nd : ms.Nodup
theorem zS7 {n : Nat} (h : n <= 12) : (2 : Int) ^ n <= 4096:=by
 have:=yCF (n:=2) (by decide) h
 have e : ((2 ^ n : Nat) : Int) <= ((2 ^ 12 : Nat) : Int):=Int.ofNat_le.mpr this
 simpa using e
theorem zHD {n : Nat} : ∀ (k : Nat) (ix : List Nat),ix.length = k -> ix.Nodup -> (∀ i∈ix,i < n) -> maskN ix < 2 ^ n:=by
 intro k ix hk nd hb;have un : ∀ j,n <= j -> zGT (maskN ix) j:=λj hj=>zDI _ ix rfl nd j λz=>by have:=hb j z; lia
 rcases yBs (maskN ix) (2 ^ n) with z | z
 ·exact z
 ·exfalso
  have hlt : maskN ix < 2 ^ (maskN ix):=Nat.lt_two_pow_self;obtain ⟨i,hi,ht⟩:=Nat.exists_ge_and_testBit_of_ge_two_pow z
  have:=un i hi
  unfold zGT at this;rw [yCT,this] at ht
  cases ht
noncomputable def zHH (CS C : Addr) : Sp:=λvs H Q _=>∃ p dx x y xs ls ixs,vs = [.ref p,x,y]/\H p = some (.ins CS dx [])/\Row H x (some xs)/\(∀ v∈xs,Th H v)/\zHL (some xs) = true/\Row H y (some ls)/\ls.length <= 1000/\zWN H xs ls ixs/\(ixs.map maskN).Nodup /\
 ∀ H' ms,(∀ c o,H c = some o -> c≠p -> H' c = some o) -> ms.Perm ((ixs.map maskN).map λ(m : Nat)=>(m : Int)) -> Ord xs ms -> SysAt CS C H' p xs ms -> Q .non H'
noncomputable def zIV (CS C : Addr) : Sp:=λvs H Q _=>∃ p xs ms,vs = [.ref p]/\SysAt CS C H p xs ms/\∀ l,H l = none -> Q (.ref l) (upd H l (.lst xs))
structure LL (H H' : Hp) (D : Addr) (rs : List Addr) (zs : List (List V)) : Prop where
 top : H' D = some (.lst (rs.map V.ref))
 new : ∀ r∈rs,H r = none/\r≠D
 nd : rs.Nodup
 len : rs.length = zs.length
 at_ : ∀ (i : Nat) r z,rs[i]? = some r -> zs[i]? = some z -> H' r = some (.lst z)
structure TT' (H' : Hp) (t : Addr) (rs : List Addr) (zs : List (List V)) : Prop where
 top : H' t = some (.tup (rs.map V.ref))
 len : rs.length = zs.length
 at_ : ∀ (i : Nat) r z,rs[i]? = some r -> zs[i]? = some z -> H' r = some (.tup z)
theorem zU4 : FnScope ["self","houses","lots"] ["self","houses","lots"] (zA8 zPB):=by trivial
theorem zQS {f f1 a2 a3 CS C : Addr} {fd d1 d2 d3 : FuncData} (F : Fun K "__init__" "System.__init__" zPB f fd) (mt : mg "tuple" = none) (clS : Cls K CS) (nG : NoAttr K CS "ground") (nM : NoAttr K CS "masks")
  (M : Mk K C f1) (O1 : FnOk P w K mg base CX0 4 f1 d1 ["self","names"] (zSV C)) (b1 : Binds K d1 ["self","names"] []) (mH : mg "Houses" = some (.ref C))
  (D2 : Def P w K mg base 5 "in_order" ["masks"] (zWW K) a2 d2) (D3 : Def P w K mg base 3 "lot_masks" ["houses","lots"] (zT9 C) a3 d3) :
  FnOk P w K mg base CX0 6 f fd ["self","houses","lots"] (zHH CS C):=by
 refine F.ok zU4 (λvs H Q E h => ?_) (λcdv A outer s H vs Q E hr h => ?_)
 ·obtain ⟨p,dx,x,y,xs,ls,ixs,rfl,_⟩:=h
  rfl
 obtain ⟨p,dx,x,y,xs,ls,ixs,rfl,hp,hX,hT,hA,hY,h64,hL,nd,q⟩:=h;have hG:=zH5 hA;have hr3 : Room 3 _:=hr.mono (by decide)
 refine ⟨_,zA2 (zKS (pv 0) (zHG M O1 hr rfl mH b1 .nil zAF (zA0 (pv 1) zA3)) rfl)
  (zA5 (zKS (pv 0) (zB0 zB9 rfl mt yBW (zA0 (zAA D2.ok hr rfl D2.m D2.k D2.b .nil zAF (zA0 (zAA D3.ok hr3 rfl D3.m D3.k D3.b .nil zAF (zA0 (zBW (pv 0) rfl) (zA0 (pv 2) zA3))) zA3)) zA3)) rfl)),?_⟩
 refine ⟨_,rfl,λg gx hg hgx ne => ?_⟩;have nep : ∀ {c : Addr},H c = none -> p≠c:=λh=>zA6 hp h;have k1 : Same H (upd (upd H gx (.own g)) g (.ins C gx [])):=λc o hc=>by rw [zA7 (zA6 hc hg),zA7 (zA6 hc hgx)]; exact hc
 have i1 : (upd (upd H gx (.own g)) g (.ins C gx [])) g = some (.ins C gx []):=zA1;generalize upd (upd H gx (.own g)) g (.ins C gx []) = H1 at k1 i1 ⊢;refine ⟨g,gx,x,xs,rfl,i1,hX.same k1,λv hv=>(hT v hv).mono k1,by have:=hG.hi; lia,hA,λH2 k2 hH2=>⟨rfl,?_⟩⟩;have s2 : Same H H2:=λc o hc=>k2 c o (k1 _ _ hc) (zA6 hc hg);refine ⟨_,rfl,p,CS,dx,_,rfl,s2 _ _ hp,clS,nG,(by show 0 < 1000; decide),?_⟩;have gp : g≠p:=(nep hg).symm
 have hH3 : HousesAt C (upd H2 p (.ins CS dx (zG1 "ground" (.ref g) []))) g xs:=by
  obtain ⟨ex,t,d,h1,h2,h3⟩:=hH2;have nt : ∀ {c : Addr} {o : HO},H2 c = some o -> (∀ C' d' fs,o ≠ .ins C' d' fs) -> c≠p:=λhc hn z=>by rw [z,s2 _ _ hp] at hc; cases hc; exact hn _ _ _ rfl
  exact ⟨ex,t,d,by rw [zA7 gp]; exact h1,by rw [zA7 (nt h2 λ_ _ _ z=>nomatch z)]; exact h2,by rw [zA7 (nt h3 λ_ _ _ z=>nomatch z)]; exact h3⟩
 have i3 : (upd H2 p (.ins CS dx (zG1 "ground" (.ref g) []))) p = some (.ins CS dx [("ground",.ref g)]):=zA1;have k3 : ∀ c o,H c = some o -> c≠p -> (upd H2 p (.ins CS dx (zG1 "ground" (.ref g) []))) c = some o:=λc o hc n=>by rw [zA7 n]; exact s2 _ _ hc
 generalize upd H2 p (.ins CS dx (zG1 "ground" (.ref g) [])) = H3 at hH3 i3 k3 ⊢
 have np : ∀ {v : V} {ys : List V},Row H v (some ys) -> Row H3 v (some ys):=λh=>by
  cases h with
  | lst h=>exact .lst (k3 _ _ h λz=>by rw [z,hp] at h; cases h)
  | tup h=>exact .tup (k3 _ _ h λz=>by rw [z,hp] at h; cases h)
 have hL3 : zWN H3 xs ls ixs:=⟨hL.1,λi v ix h1 h2=>let ⟨ys,r,z⟩:=hL.2 i v ix h1 h2; ⟨ys,np r,z⟩⟩;refine ⟨_,rfl,p,CS,dx,_,_,rfl,i3,clS,nG,rfl,_,rfl,g,y,xs,ls,ixs,rfl,hH3,hG,np hY,h64,hL3,nd,λD H4 hD s4 l4 => ?_⟩
 have lt : ∀ m∈(ixs.map maskN).map (λ(m : Nat)=>(m : Int)),0 <= m/\m < 2 ^ xs.length:=λm hm=>by
  obtain ⟨m',hm',rfl⟩:=yBA.mp hm;obtain ⟨ix,hix,rfl⟩:=yBA.mp hm';obtain ⟨i,hi,ei⟩:=yDB hix;have hi' : i < ls.length:=by rw [hL.1]; exact hi
  obtain ⟨ys,r,n1,n2,n3⟩:=hL.2 i ls[i] ix (by simp) (by rw [yAB hi,ei])
  have:=zHD (n:=xs.length) _ ix rfl n1 λk hk=>by
   obtain ⟨j,hj,ej⟩:=yDB hk;obtain ⟨v,hv,_⟩:=n3 j k (by rw [yAB hj,ej]);exact (yAE.mp hv).1
  refine ⟨yCQ _,?_⟩;have e : ((maskN ix : Nat) : Int) < ((2 ^ xs.length : Nat) : Int):=Int.ofNat_lt.mpr this
  simpa using e
 have hml : ((ixs.map maskN).map (λ(m : Nat)=>(m : Int))).length <= 1000:=by rw [yAC,yAC,<- hL.1]; exact h64
 have el : msV (ixs.map maskN) = List.map V.int ((ixs.map maskN).map (λ(m : Nat)=>(m : Int))):=by unfold msV; simp only [yBp]; rfl
 rw [el] at l4;refine ⟨D,_,rfl,.inl (SqL.of l4),yAz hml (by decide),λm hm => ?_,λD2 H5 ys hD2 s5 l5 hp5 ho5 => ?_⟩
 ·have h1:=lt m hm
  have h2:=zS7 hG.hi;exact ⟨h1.1,by lia⟩
 refine ⟨D2,_,rfl,.inl ⟨SqL.of l5,λt ht=>⟨_,rfl,p,CS,dx,_,rfl,same_new ht _ _ _ (s5 _ _ (s4 _ _ i3)),clS,nM,(by show 1 < 1000; decide),?_⟩⟩⟩;have k5 : Same H3 (upd H5 t (.tup (List.map V.int ys))):=(s4.trans s5).trans (same_new ht _);have tp : t≠p:=λz=>by rw [z,s5 _ _ (s4 _ _ i3)] at ht; cases ht
 refine q _ ys (λc o hc n=>by rw [zA7 n]; exact k5 _ _ (k3 _ _ hc n)) hp5 ⟨hG,λm hm=>lt m (hp5.mem_iff.mp hm),by rw [hp5.length_eq]; exact hml,ho5,hp5.nodup_iff.mpr (yBY.mpr (nd.imp λh e=>h (Int.ofNat.inj e)))⟩ ⟨dx,g,t,by rw [zA1]; rfl,?_,by rw [zA7 tp,zA1]; rfl⟩;obtain ⟨ex,t',d,h1,h2,h3⟩:=hH3;have nt : ∀ {c : Addr} {o : HO},H3 c = some o -> (∀ C' d' fs,o ≠ .ins C' d' fs) -> c≠p:=λhc hn z=>by rw [z,i3] at hc; cases hc; exact hn _ _ _ rfl
 exact ⟨ex,t',d,by rw [zA7 gp]; exact k5 _ _ h1,by rw [zA7 (nt h2 λ_ _ _ z=>nomatch z)]; exact k5 _ _ h2,by rw [zA7 (nt h3 λ_ _ _ z=>nomatch z)]; exact k5 _ _ h3⟩
theorem zNX : FnScope ["self"] ["self"] (zA8 zH9):=by trivial
theorem zMZ {f a1 CS C : Addr} {fd d1 : FuncData} (F : Fun K "houses" "System.houses" zH9 f fd) (clS : Cls K CS) (nG : NoAttr K CS "ground") (cl : Cls K C) (M1 : Meth K C "names" a1) (O1 : FnOk P w K mg base CX0 1 a1 d1 ["self"] (zOO C)) (b1 : Binds K d1 ["self"] []) :
  FnOk P w K mg base CX0 2 f fd ["self"] (zIV CS C):=by
 refine F.ok zNX (λvs H Q E h => ?_) (λcdv A outer s H vs Q E hr h => ?_)
 ·obtain ⟨p,xs,ms,rfl,_⟩:=h
  rfl
 obtain ⟨p,xs,ms,rfl,⟨dx,g,t,hp,hH,ht⟩,q⟩:=h;obtain ⟨gx,t',d,h1,h2,h3⟩:=id hH;refine ⟨_,zA5 (zAE (zDS (zBW (pv 0) rfl) cl M1 O1 hr b1 .nil zAF)),?_⟩;exact ⟨_,rfl,p,CS,dx,_,_,rfl,hp,clS,nG,rfl,g,gx,_,rfl,h1,rfl,g,xs,rfl,hH,q⟩
section
variable {X : Cx}
end
structure BoxOk (d s c : Int) : Prop where
 d0 : 0 <= d
 s0 : 0 <= s
 s1 : s < 2147483648
 c0 : 0 <= c
theorem zGR {ms : List Int} {i : Nat} (h : i < ms.length) : atI (ms.map V.int) (i : Int) = some (.int ms[i]):=zD5 (by rw [yAb,yAB h]; rfl)
theorem zX1 {n : Nat} (f : Nat -> List Nat) (h1 : 1 <= n) (h12 : n <= 12) (hn : ∀ k,k < n -> zC9 (.str (mkS (f k))) = true) (hd : ∀ j k,j < k -> k < n -> f j≠f k) :
  zHL (some ((List.range n).map λk=>V.str (mkS (f k)))) = true:=by
 have el : ((List.range n).map λk=>V.str (mkS (f k))).length = n:=by simp
 have e0 : zHL (some ((List.range n).map λk=>V.str (mkS (f k)))) = (decide (1 <= (((List.range n).map λk=>V.str (mkS (f k))).length : Int))&&decide ((((List.range n).map λk=>V.str (mkS (f k))).length : Int) <= 12)&&(((List.range n).map λk=>V.str (mkS (f k))).all zC9&&decide ((zBI (((List.range n).map λk=>V.str (mkS (f k))).map λv => .inr (zB3 v))).length = ((List.range n).map λk=>V.str (mkS (f k))).length))):=rfl;rw [e0,el,yAk,yAk,yAk];refine ⟨⟨yAZ (by lia),yAZ (by lia)⟩,?_,yAZ ?_⟩
 ·rw [yCD]
  intro v hv;obtain ⟨k,hk,rfl⟩:=yBA.mp hv;exact hn k (yBL.mp hk)
 ·have em : (((List.range n).map λk=>V.str (mkS (f k))).map λv=>(.inr (zB3 v) : Key)) = (List.range n).map λk=>(.inr (mkS (f k)) : Key):=by rw [yBp]; rfl
  rw [em];have hl : ((List.range n).map λk=>(.inr (mkS (f k)) : Key)).length = n:=by simp
  rw [(zHR _ _ rfl).mpr ?_,hl];refine yBY.mpr (List.Pairwise.imp_of_mem ?_ (List.pairwise_lt_range (n:=n)));intro j k hj hk hlt e;have e : mkS (f j) = mkS (f k):=by injection e
  exact hd j k hlt (yBL.mp hk) (zV7 e)
theorem zKY {X : Cx} {K : PySem.W.Frag} (hK : X.K = K) : IxR X (zaF K):=by subst hK; exact zAR
structure MsOk (n : Nat) (ms : List Int) : Prop where
 nd : ms.Nodup
 ok : ∀ m∈ms,0 <= m/\m < 2 ^ n
theorem MsOk.put {n : Nat} {ms : List Int} {m : Int} (h : MsOk n ms) (h0 : 0 <= m) (h1 : m < 2 ^ n) : MsOk n (if m∈ms then ms else ms++[m]):=by
 split
 ·exact h
 ·rename_i hm
  refine ⟨?_,λx hx => ?_⟩
  ·rw [yDS]
   exact ⟨h.nd,by simp,λa ha b hb e=>hm (by rw [yAJ.mp hb] at e; rw [<- e]; exact ha)⟩
  ·rcases yAm.mp hx with z | z
   ·exact h.ok x z
   ·rw [yAJ.mp z]; exact ⟨h0,h1⟩
theorem zJJ (x : Nat) : Builtin.bitNot ((x : Nat) : Int) = Int.negSucc x:=by
 unfold Builtin.bitNot;lia
theorem zK3 (x : Nat) : Builtin.bitNot (Int.negSucc x) = ((x : Nat) : Int):=by
 unfold Builtin.bitNot;lia
theorem zPK (x y : Nat) : Builtin.bitOr ((x : Nat) : Int) ((y : Nat) : Int) = ((x ||| y : Nat) : Int):=by
 unfold Builtin.bitOr;rw [zJJ,zJJ];have e : Builtin.bitAnd (Int.negSucc x) (Int.negSucc y) = Builtin.bitNot (((Builtin.bitNot (Int.negSucc x)).toNat ||| (Builtin.bitNot (Int.negSucc y)).toNat : Nat) : Int):=rfl;rw [e,zK3,zK3,yAS,yAS,zJJ,zK3]
theorem zWH {n : Nat} {a b : Int} (a0 : 0 <= a) (a1 : a < 2 ^ n) (b0 : 0 <= b) (b1 : b < 2 ^ n) : 0 <= Builtin.bitOr a b/\Builtin.bitOr a b < 2 ^ n:=by
 obtain ⟨x,rfl⟩:=yCd a0;obtain ⟨y,rfl⟩:=yCd b0;have hx : x < 2 ^ n:=by exact_mod_cast a1
 have hy : y < 2 ^ n:=by exact_mod_cast b1
 have e : Builtin.bitOr ((x : Nat) : Int) ((y : Nat) : Int) = ((x ||| y : Nat) : Int):=zPK x y;rw [e];refine ⟨yCQ _,?_⟩
 have:=Nat.or_lt_two_pow hx hy
 exact_mod_cast this
theorem pow_pos (n : Nat) : (0 : Int) < 2 ^ n:=Int.pow_pos (by decide)
theorem zXJ {k n : Nat} (h : k < n) : (2 : Int) ^ k < 2 ^ n:=by
 have:=Nat.pow_lt_pow_right (a:=2) (by decide) h
 exact_mod_cast this
theorem zOY : ∀ (ms : List Int) (m : Int),inV (.int m) (IV ms) = decide (m∈ms)
 | [],m=>by simp [inV,IV]
 | c::r,m=>by
  show (eqV (.int c) (.int m)||inV (.int m) (IV r)) = _;rw [zOY r m,yAr,yDP,yAT,yAT,yAd];have e : eqV (.int c) (.int m) = (c == m):=rfl;rw [e,yAe]
  constructor
  ·rintro (h | h)
   ·exact .inl h.symm
   ·exact .inr h
  ·rintro (h | h)
   ·exact .inl h.symm
   ·exact .inr h
theorem MsOk.snoc {n : Nat} {ms : List Int} {m : Int} (h : MsOk n ms) (hm : m∉ms) (h0 : 0 <= m) (h1 : m < 2 ^ n) : MsOk n (ms++[m]):=by
 have:=h.put h0 h1
 rw [yAN hm] at this;exact this
theorem zLL {m : Int} {i : Nat} : (decide (V.int (Builtin.bitAnd (m / 2 ^ ((0 + (i : Int))).toNat) 1) = V.int 1)) = bit m i:=by
 have e : (0 + (i : Int)).toNat = i:=by lia
 rw [e,PyProof.Rows.bitAnd_m1];unfold bit;rw [yAr,yAT,yAT]
 constructor
 ·intro h; injection h
 ·intro h; rw [h]
theorem zOT {m : Int} {i : Nat} : (decide (V.int (Builtin.bitAnd (m / 2 ^ ((i : Nat) : Int).toNat) 1) = V.int 1)) = bit m i:=by
 have:=zLL (m:=m) (i:=i)
 rw [yDs] at this;exact this
noncomputable def zQV (K : PySem.W.Frag) : Sp:=λvs H Q _=>∃ a xs m,vs = [.ref a,.int m]/\Sq K H a xs/\xs.length <= 12/\0 <= m/\m < 2 ^ xs.length/\∀ D H',H D = none -> Same H H' -> H' D = some (.lst (zCG xs m)) -> Q (.ref D) H'
noncomputable def dS (xs : List V) : List PyData:=xs.map λv => .str (zB3 v)
noncomputable def zTF (xs : List V) : Prop:=∀ v∈xs,v = kV (.inr (zB3 v))/\PyData.strOk (zB3 v) = true/\(zB3 v).length <= 6
theorem GN.strs {xs : List V} (h : GN xs) : zTF xs:=λv hv=>⟨h.str v hv,h.sok v hv,h.six v hv⟩
theorem zBQ {K : PySem.W.Frag} {H : Hp} : ∀ {xs : List V},zTF xs -> DVs K H xs (dS xs)
 | [],_ => .nil
 | v::r,h=>by
  have e : v = .str (zB3 v):=(h v (yAQ ..)).1;refine .cons ?_ (zBQ λy hy=>h y (yAP _ hy));rw [e];exact .str _
theorem zCD : ∀ {xs : List V},zTF xs -> PyData.canLayAll0 (dS xs) = true
 | [],_=>rfl
 | v::r,h=>by
  show (PyData.strOk (zB3 v)&&PyData.canLayAll0 (dS r)) = true;rw [(h v (yAQ ..)).2.1,zCD λy hy=>h y (yAP _ hy)]; rfl
theorem zDB : ∀ xs : List V,PyData.depthAll (dS xs) <= 1
 | []=>by simp [dS,PyData.depthAll]
 | m::r=>by
  have:=zDB r
  simp only [dS,yAp,PyData.depthAll,PyData.depth] at this ⊢;lia
theorem zL7 {α β : Type} {f : α -> β} {ys zs : List β} (h : ys.Perm zs) : ∀ l : List α,zs = l.map f -> ∃ l' : List α,l'.Perm l/\ys = l'.map f:=by
 induction h with
 | nil =>
  intro l e
  cases l with
  | nil=>exact ⟨[],List.Perm.refl _,rfl⟩
  | cons _ _=>cases e
 | cons x _ ih =>
  intro l e
  cases l with
  | nil=>cases e
  | cons a l =>
   injection e with e1 e2
   obtain ⟨l',p,q⟩:=ih l e2;exact ⟨a::l',p.cons a,by rw [yAp,<- e1,q]⟩
 | swap x y r =>
  intro l e
  match l,e with
  | a::c::l,e =>
   injection e with e1 e2
   injection e2 with e2 e3
   exact ⟨c::a::l,.swap a c l,by rw [yAp,yAp,<- e1,<- e2,<- e3]⟩
 | trans _ _ ih1 ih2 =>
  intro l e;obtain ⟨l2,p2,q2⟩:=ih2 l e;obtain ⟨l1,p1,q1⟩:=ih1 l2 q2;exact ⟨l1,p1.trans p2,q1⟩
theorem zI3 : ∀ (ix : List Nat) (c : Nat),ix.foldl (λacc k=>acc + 2 ^ k) c = c + (ix.map (2 ^ ·)).sum
 | [],c=>by simp
 | k::r,c=>by rw [List.foldl_cons,zI3 r,yAp,yDe]; lia
theorem zFF (ix : List Nat) : maskN ix = (ix.map (2 ^ ·)).sum:=by unfold maskN; rw [zI3]; lia
theorem zSM {a b : List Nat} (h : a.Perm b) : a.sum = b.sum:=by
 induction h with
 | nil=>rfl
 | cons x _ ih=>rw [yDe,yDe,ih]
 | swap x y r=>simp only [yDe]; lia
 | trans _ _ h1 h2=>exact h1.trans h2
theorem zED {a b : List Nat} (h : a.Perm b) : maskN a = maskN b:=by rw [zFF,zFF]; exact zSM (h.map _)
noncomputable def zJG (m : Int) : List Nat:=(zC1 m).map Int.toNat
theorem zL1 {m : Int} (h0 : 0 <= m) : ∀ i : Nat,((maskN ((zBN m i).map Int.toNat) : Nat) : Int) = m % 2 ^ i
 | 0=>by
  show ((0 : Nat) : Int) = m % 2 ^ 0;rw [Int.pow_zero]; lia
 | i + 1=>by
  have ih:=zL1 h0 i;rw [zBG,yAa];have hp:=pow_pos i
  have e : m % 2 ^ (i + 1) = m % 2 ^ i + 2 ^ i * (m / 2 ^ i % 2):=by
   have h1:=Int.emod_add_mul_ediv m (2 ^ i);have h2:=Int.emod_add_mul_ediv (m / 2 ^ i) 2;have h3:=yBJ (m / 2 ^ i) (b:=2) (by decide);have h4:=yAv (m / 2 ^ i) (b:=2) (by decide);have h5:=yBJ m (b:=2 ^ i) (by lia);have h6:=yAv m hp
   have key : m = (m % 2 ^ i + 2 ^ i * (m / 2 ^ i % 2)) + 2 ^ (i + 1) * (m / 2 ^ i / 2):=by
    rw [Int.pow_succ];have : (2 : Int) ^ i * 2 * (m / 2 ^ i / 2) = 2 ^ i * (2 * (m / 2 ^ i / 2)):=by rw [Int.mul_assoc]
    rw [this,Int.add_assoc,<- Int.mul_add,h2,h1]
   have hlt : m % 2 ^ i + 2 ^ i * (m / 2 ^ i % 2) < 2 ^ (i + 1):=by
    rw [Int.pow_succ];have h7 : m / 2 ^ i % 2 = 0 \/ m / 2 ^ i % 2 = 1:=by lia
    rcases h7 with z | z
    ·rw [z]; lia
    ·rw [z]; lia
   have hge : 0 <= m % 2 ^ i + 2 ^ i * (m / 2 ^ i % 2):=by
    have:=Int.mul_nonneg (Int.le_of_lt hp) h3
    lia
   conv=>lhs; rw [key]
   rw [Int.add_mul_emod_self_left,Int.emod_eq_of_lt hge hlt]
  have hn : (2 : Int) ^ i = ((2 ^ i : Nat) : Int):=by rw [yCY]; rfl
  by_cases hb : bit m i = true
  ·rw [yAK hb]
   show ((maskN (_++[((i : Nat) : Int).toNat]) : Nat) : Int) = _;rw [yAS,zD7,e];unfold bit at hb;rw [yAl hb,Int.mul_one,<- ih];rw [hn]; lia
  ·rw [yAN hb,List.map_nil,yBq,e,ih]
   unfold bit at hb;have h3:=yBJ (m / 2 ^ i) (b:=2) (by decide);have h4:=yAv (m / 2 ^ i) (b:=2) (by decide);have h7 : m / 2 ^ i % 2≠1:=λz=>hb (yAZ z);rw [show m / 2 ^ i % 2 = 0 by lia,Int.mul_zero,Int.add_zero]
theorem zEK {m : Int} (h0 : 0 <= m) (h1 : m < 4096) : ((maskN (zJG m) : Nat) : Int) = m:=by
 have:=zL1 h0 12
 rw [Int.emod_eq_of_lt h0 (by simpa using h1)] at this;exact this
theorem zNB (m : Int) (i : Nat) : (zBN m i).map Int.toNat = (List.range i).filter (bit m):=by
 unfold zBN;rw [yBp];have : (Int.toNat ∘ λ(k : Nat)=>(k : Int)) = id:=by funext k; simp
 rw [this,List.map_id]
theorem zRY (m : Int) : (zJG m).Nodup:=by
 unfold zJG zC1;rw [zNB];exact List.Nodup.sublist yCK List.nodup_range
theorem zKU {xs : List V} {m : Int} (h12 : xs.length <= 12) (h0 : 0 <= m) (h1 : m < 2 ^ xs.length) {k : Nat} (hk : k∈zJG m) : k < xs.length:=by
 obtain ⟨j,hj,rfl⟩:=yBA.mp hk
 have:=zNU h12 h0 h1 hj
 lia
theorem zOG (xs : List V) (m : Int) : zCG xs m = (zJG m).map λk=>xs.getD k .non:=by
 unfold zCG zJG;rw [yBp];rfl
theorem zXK {H : Hp} {xs : List V} {v : V} {ys : List V} {m : Int} (hG : GN xs) (h0 : 0 <= m) (h1 : m < 2 ^ xs.length) (hr : Row H v (some ys)) (hp : ys.Perm (zCG xs m)) : ∃ ix,LotAt H xs v ix/\((maskN ix : Nat) : Int) = m:=by
 rw [zOG] at hp;obtain ⟨ix,p,e⟩:=zL7 hp _ rfl;have h4:=zS7 hG.hi;refine ⟨ix,⟨ys,hr,p.nodup_iff.mpr (zRY m),by rw [e,yAC],λj k hj => ?_⟩,by rw [zED p]; exact zEK h0 (by lia)⟩;have hk : k < xs.length:=zKU hG.hi h0 h1 (p.mem_iff.mp (yAn hj));refine ⟨xs[k],yAB hk,?_⟩;rw [e,yAb,hj,yCU,yAc,yAB hk];rfl
theorem zS6 {a b : Int} (a0 : 0 <= a) (a1 : a < 4096) (b0 : 0 <= b) (b1 : b < 4096) (h : zC1 a = zC1 b) : a = b:=by
 rw [<- zEK a0 a1,<- zEK b0 b1];unfold zJG;rw [h]
theorem zSK {x y : Int × List Int} (h1 : zB2 x y = false) (h2 : zB2 y x = false) : x = y:=by
 unfold zB2 at h1 h2
 by_cases e : x.1 = y.1
 ·rw [yAK e] at h1
  rw [yAK e.symm] at h2;exact Prod.ext e (zHK _ _ h1 h2)
 ·rw [yAN e] at h1
  rw [yAN (λz=>e z.symm)] at h2
  have:=yBT h1
  have:=yBT h2
  lia
theorem zDY {n : Nat} (hn : n <= 12) : ∀ {as bs : List Int},as.Perm bs -> (∀ m∈as,0 <= m/\m < 2 ^ n) -> as.Pairwise (λa b=>zB2 (kOf (.int b)) (kOf (.int a)) = false) -> bs.Pairwise (λa b=>zB2 (kOf (.int b)) (kOf (.int a)) = false) -> as = bs
 | [],bs,p,_,_,_=>by rw [p.symm.eq_nil]
 | a::as,[],p,_,_,_=>absurd p.length_eq (by simp)
 | a::as,b::bs,p,ok,sa,sb=>by
  have h4:=zS7 hn;have okb : ∀ m∈b::bs,0 <= m/\m < 2 ^ n:=λm hm=>ok m (p.mem_iff.mpr hm)
  have e : a = b:=by
   rw [yDL] at sa sb
   rcases yAd.mp (p.mem_iff.mp (yAQ (a:=a) (l:=as))) with z | z
   ·exact z
   ·rcases yAd.mp (p.mem_iff.mpr (yAQ (a:=b) (l:=bs))) with w | w
    ·exact w.symm
    ·have k1:=sa.1 b w
     have k2:=sb.1 a z;have e:=zSK k1 k2;have oa:=ok a (yAQ ..);have ob:=okb b (yAQ ..);have e2 : zC1 b = zC1 a:=congrArg Prod.snd e;exact zS6 oa.1 (by lia) ob.1 (by lia) e2.symm
  subst e;rw [zDY hn ((List.perm_cons a).mp p) (λm hm=>ok m (yAP _ hm)) (yDL.mp sa).2 (yDL.mp sb).2]
theorem zI2 {xs : List V} {m : Int} (hG : GN xs) (h0 : 0 <= m) (h1 : m < 2 ^ xs.length) : zTF (zCG xs m):=λv hv=>by
 rw [zOG] at hv;obtain ⟨k,hk,rfl⟩:=yBA.mp hv;have hk:=zKU hG.hi h0 h1 hk;have e : xs.getD k .non = xs[k]:=by rw [yAc,yAB hk]; rfl
 rw [e];exact hG.strs _ (yBI hk)
theorem zRL (xs : List V) (m : Int) : (zCG xs m).length <= 12:=by
 unfold zCG;rw [yAC];exact zCL m 12
noncomputable def zJR (mask : Int) (ms : List Int) : Option Int:=ms.find? λl=>decide (Builtin.bitAnd l mask = l)
theorem zOB {mask : Int} {ms : List Int} {i : Nat} (h : i < ms.length) (n : ¬ Builtin.bitAnd ms[i] mask = ms[i]) : zJR mask (ms.drop i) = zJR mask (ms.drop (i + 1)):=by
 rw [yBv h];unfold zJR;rw [yEN (by simpa using n)]
theorem zRX {mask : Int} {ms : List Int} {i : Nat} (h : i < ms.length) (n : Builtin.bitAnd ms[i] mask = ms[i]) : zJR mask (ms.drop i) = some ms[i]:=by
 rw [yBv h];unfold zJR;rw [yEM (by simpa using n)]
noncomputable def ToldOne (H : Hp) (Q : VK) (xs : List V) : Option Int -> Prop
 | none=>∀ H',Same H H' -> Q .non H'
 | some m=>∀ D H',H D = none -> Same H H' -> H' D = some (.lst (zCG xs m)) -> Q (.ref D) H'
theorem ToldOne.mono {H H1 : Hp} {Q : VK} {xs : List V} (g : Same H H1) : ∀ {o : Option Int},ToldOne H Q xs o -> ToldOne H1 Q xs o
 | none,h=>λH' g'=>h H' (g.trans g')
 | some _,h=>λD H' hD g' l=>h D H' (g.free hD) (g.trans g') l
noncomputable def zUJ (H : Hp) (x : V) (xs : List V) (m : Int) : Prop:=∃ ix,LotAt H xs x ix/\((maskN ix : Nat) : Int) = m
noncomputable def zPM (CS C : Addr) : Sp:=λvs H Q _=>∃ p xs ms mask,vs = [.ref p,.int mask]/\SysAt CS C H p xs ms/\Ord xs ms/\ToldOne H Q xs (zJR mask ms)
noncomputable def zGK (CS C : Addr) : Sp:=λvs H Q _=>∃ p x xs ms m,vs = [.ref p,x]/\SysAt CS C H p xs ms/\Ord xs ms/\zUJ H x xs m/\0 <= m/\m < 2 ^ xs.length/\ToldOne H Q xs (zJR (Builtin.bitXor (2 ^ xs.length - 1) m) ms)
theorem scFirst : FnScope ["self","mask","lot"] ["self","mask"] (zA8 zO3):=by trivial
theorem zNE {x y : Int} : decide (V.int x = V.int y) = decide (x = y):=by
 rw [yAr,yAT,yAT];exact ⟨λh=>by injection h,λh=>by rw [h]⟩
theorem zS3 {f a1 CS C : Addr} {fd d1 : FuncData} (F : Fun K "first_lot" "System.first_lot" zO3 f fd) (clS : Cls K CS) (nG : NoAttr K CS "ground") (nM : NoAttr K CS "masks") (cl : Cls K C) (M1 : Meth K C "set_of" a1) (O1 : FnOk P w K mg base CX0 3 a1 d1 ["self","mask"] (zNQ C)) (b1 : Binds K d1 ["self","mask"] []) :
  FnOk P w K mg base CX0 4 f fd ["self","mask"] (zPM CS C):=by
 refine F.ok scFirst (λvs H Q E h => ?_) (λcdv A outer s H vs Q E hr h => ?_)
 ·obtain ⟨p,xs,ms,m,rfl,_⟩:=h
  rfl
 obtain ⟨p,xs,ms,mask,rfl,hS,hO,q⟩:=h;obtain ⟨dx,g,t,hp,hH,ht⟩:=id hS
 refine ⟨_,zA2 (zBL PassesOwn.never rfl (zBX (zBW (pv 0) rfl)) (zAD (i:=2) scFirst.nd rfl (Or.inl rfl))
   (zA5 (zBA (zAI zD4 (zA9 zE4 (pv 2) (pv 1)) (pv 2) (zAO _)) (zA5 (zAE (zCQ (zBW (pv 0) rfl) cl M1 O1 hr b1 .nil zAF (zA0 (pv 2) zA3)))) zAG)))
  (zA5 (zAE zCK)),?_⟩
 refine ⟨_,rfl,p,CS,dx,_,_,rfl,hp,clS,nM,rfl,t,rfl,?_⟩
 refine zC4 (K:=K) (ys:=IV ms) (.inr (SqT.of ht)) (λi σ H'=>∃ v2,σ = [some (.ref p),some (.int mask),v2]/\Same H H'/\zJR mask ms = zJR mask (ms.drop i)) ⟨_,rfl,λ_ _ h=>h,rfl⟩
  (λi σ H' hP => ?_) (λi σ H' x hi hx hP => ?_) (λσ H' hP => ?_)
 ·obtain ⟨_,_,g',_⟩:=hP
  exact g'.at1 t
 ·obtain ⟨v2,rfl,g1,e1⟩:=hP
  unfold IV at hx hi;rw [yAC] at hi;rw [yAb,yAB hi] at hx
  cases hx
  refine ⟨_,rfl,_,rfl,_,_,rfl,rfl,_,rfl,rfl,_,rfl,?_⟩;rw [zNE];refine zEN (λc => ?_) (λc => ?_)
  ·have c:=yAl c
   rw [e1,zRX hi c] at q;have hH':=hH.same g1;obtain ⟨gx,t',d,h1,h2,h3⟩:=id hH';have m1:=hO.ok ms[i] (yBI hi);exact ⟨_,rfl,p,CS,dx,_,_,rfl,g1 _ _ hp,clS,nG,rfl,g,gx,_,rfl,h1,rfl,_,rfl,g,xs,ms[i],rfl,hH',hO.gn.hi,m1.1,m1.2,λD6 H6 hD6 g6 l6=>q D6 H6 (g1.free hD6) (g1.trans g6) l6⟩
  ·exact ⟨_,rfl,g1,by rw [e1,zOB hi (λz=>c (yAZ z))]⟩
 ·obtain ⟨v2,rfl,g1,e1⟩:=hP
  have el : (IV ms).length = ms.length:=by unfold IV; rw [yAC]
  rw [el,List.drop_length] at e1;rw [e1] at q;exact q H' g1
theorem zWD {H : Hp} {xs : List V} {x : V} {m : Int} (hx : zUJ H x xs m) : ∃ ys ix,Row H x (some ys)/\ix.Nodup/\ys.length = ix.length/\(∀ (j : Nat) (k : Nat),ix[j]? = some k -> ∃ v,xs[k]? = some v/\ys[j]? = some v)/\((maskN ix : Nat) : Int) = m:=by
 obtain ⟨ix,⟨ys',r',nd,le,at_⟩,em⟩:=hx;exact ⟨ys',ix,r',nd,le,at_,em⟩
noncomputable def Sb (l m : Nat) : Prop:=∀ k,l.testBit k = true -> m.testBit k = true
theorem zLN {l m : Nat} : l &&& m = l ↔ Sb l m:=by
 constructor
 ·intro h k hk
  rw [<- h,yBw,yAk] at hk;exact hk.2
 ·intro h
  refine yBg λk => ?_;rw [yBw]
  cases e : l.testBit k with
  | false=>rfl
  | true=>rw [h k e]; rfl
instance (l m : Nat) : Decidable (Sb l m):=decidable_of_iff _ zLN
noncomputable def fj (ns : List Nat) (j m : Nat) : Bool:=ns.any λl=>decide (Sb l m)&&decide (l >>> j = m >>> j)
theorem zIH {ns : List Nat} {j m : Nat} : fj ns j m = true ↔ ∃ l∈ns,Sb l m/\l >>> j = m >>> j:=by
 unfold fj;rw [yCC];simp only [yAk,yAT]
theorem zTW (ns : List Nat) (m : Nat) : fj ns 0 m = decide (m∈ns):=by
 rw [yAr,zIH,yAT]
 constructor
 ·rintro ⟨l,hl,_,e⟩
  rw [Nat.shiftRight_zero,Nat.shiftRight_zero] at e;rw [<- e]; exact hl
 ·intro h
  exact ⟨m,h,λk hk=>hk,rfl⟩
theorem zYC {ns : List Nat} {n m : Nat} (hn : ∀ l∈ns,l < 2 ^ n) (hm : m < 2 ^ n) : fj ns n m = ns.any λl=>decide (Sb l m):=by
 rw [yAr,zIH,yCC]
 constructor
 ·rintro ⟨l,hl,h,_⟩
  exact ⟨l,hl,yAZ h⟩
 ·rintro ⟨l,hl,h⟩
  refine ⟨l,hl,yAl h,?_⟩;rw [Nat.shiftRight_eq_div_pow,Nat.shiftRight_eq_div_pow,Nat.div_eq_of_lt (hn l hl),Nat.div_eq_of_lt hm]
theorem zQG {l m j : Nat} (h : l >>> j = m >>> j) : l >>> (j + 1) = m >>> (j + 1):=by
 rw [Nat.shiftRight_add,Nat.shiftRight_add,h]
theorem zWZ {l m j : Nat} (h : l >>> (j + 1) = m >>> (j + 1)) (e : l.testBit j = m.testBit j) : l >>> j = m >>> j:=by
 refine yBg λk => ?_;rw [yBj,yBj]
 cases k with
 | zero=>exact e
 | succ k =>
  have : (l >>> (j + 1)).testBit k = (m >>> (j + 1)).testBit k:=by rw [h]
  rw [yBj,yBj] at this;rw [show j + (k + 1) = j + 1 + k by lia];exact this
theorem zKZ (m j k : Nat) : (m ^^^ 2 ^ j).testBit k = (m.testBit k ^^ decide (j = k)):=by
 rw [yER,yDA]
theorem zTU (ns : List Nat) (j m : Nat) : fj ns (j + 1) m = (fj ns j m||(m.testBit j&&fj ns (j + 1) (m ^^^ 2 ^ j))):=by
 rw [yAr,yDP,yAk,zIH,zIH,zIH]
 constructor
 ·rintro ⟨l,hl,sb,e⟩
  by_cases h : l.testBit j = m.testBit j
  ·exact .inl ⟨l,hl,sb,zWZ e h⟩
  ·have l0 : l.testBit j = false:=by
    cases z : l.testBit j with
    | false=>rfl
    | true=>exact absurd (z.trans (sb j z).symm) h
   have m1 : m.testBit j = true:=by
    cases z : m.testBit j with
    | true=>rfl
    | false=>exact absurd (l0.trans z.symm) h
   refine .inr ⟨m1,l,hl,λk hk => ?_,?_⟩
   ·have nk : j≠k:=λz=>by rw [<- z,l0] at hk; cases hk
    rw [zKZ,yAL nk,Bool.xor_false];exact sb k hk
   ·refine e.trans (yBg λk => ?_)
    rw [yBj,yBj,zKZ,yAL (by lia),Bool.xor_false]
 ·rintro (⟨l,hl,sb,e⟩ | ⟨m1,l,hl,sb,e⟩)
  ·exact ⟨l,hl,sb,zQG e⟩
  ·refine ⟨l,hl,λk hk => ?_,e.trans (yBg λk => ?_)⟩
   ·have:=sb k hk
    rw [zKZ] at this
    by_cases z : j = k
    ·rw [<- z]; exact m1
    ·rw [yAL z,Bool.xor_false] at this; exact this
   ·rw [yBj,yBj,zKZ,yAL (by lia),Bool.xor_false]
theorem zYE {m j : Nat} (h : m.testBit j = true) : m ^^^ 2 ^ j < m:=by
 have hp : 0 < 2 ^ j:=Nat.two_pow_pos j;have h1 : (m ^^^ 2 ^ j) / 2 ^ j = m / 2 ^ j ^^^ 1:=by rw [Nat.xor_div_two_pow,Nat.div_self hp]
 have h2 : m / 2 ^ j % 2 = 1:=by
  rw [yCT] at h;exact yAl h
 have h3 : (m / 2 ^ j ^^^ 1) / 2 = m / 2 ^ j / 2:=by rw [Nat.xor_div_two]; simp
 have h4 : (m / 2 ^ j ^^^ 1) % 2 = 0:=by
  have:=Nat.xor_mod_two_eq_one (a:=m / 2 ^ j) (b:=1)
  have n1 : ¬ (m / 2 ^ j ^^^ 1) % 2 = 1:=λz=>(this.mp z) ⟨λ_=>rfl,λ_=>h2⟩;lia
 rcases yBs (m ^^^ 2 ^ j) m with z | z
 ·exact z
 ·have:=Nat.div_le_div_right (c:=2 ^ j) z
  lia
noncomputable def zDR (n : Nat) (f : Nat -> Bool) : List V:=(List.range (2 ^ n)).map λm=>V.bl (f m)
theorem zBY (n : Nat) (f : Nat -> Bool) : (zDR n f).length = 2 ^ n:=by unfold zDR; rw [yAC,yAw]
theorem zC0 {n : Nat} {f g : Nat -> Bool} (h : ∀ m,m < 2 ^ n -> f m = g m) : zDR n f = zDR n g:=by
 unfold zDR;refine yDk λm hm => ?_;rw [h m (yBL.mp hm)]
theorem zCB {n : Nat} {f : Nat -> Bool} {m : Nat} (h : m < 2 ^ n) : (zDR n f)[m]? = some (.bl (f m)):=by
 unfold zDR;rw [yAb,yDl h]; rfl
theorem zVJ {n : Nat} {f : Nat -> Bool} {m : Nat} (h : m < 2 ^ n) : atI (zDR n f) (m : Int) = some (.bl (f m)):=zD5 (zCB h)
theorem zLD {n : Nat} {f : Nat -> Bool} {m : Nat} (h : m < 2 ^ n) : (zDR n f).set m (.bl true) = zDR n (λk=>f k||decide (k = m)):=by
 refine yCt λk => ?_;rw [List.getElem?_set]
 by_cases hk : k < 2 ^ n
 ·rw [zCB hk,zCB hk]
  by_cases e : m = k
  ·subst e
   rw [yAK rfl,yAK (by rw [zBY]; exact h)]
   simp
  ·rw [yAN e,yAL (λz=>e z.symm),Bool.or_false]
 ·have o1 : (zDR n f)[k]? = none:=yBU (by rw [zBY]; lia)
  have o2 : (zDR n (λk=>f k||decide (k = m)))[k]? = none:=yBU (by rw [zBY]; lia);rw [o1,o2,yAN (by lia)]
theorem zRE (n : Nat) : (List.replicate (2 ^ n) [V.bl false]).flatten = zDR n (λ_=>false):=by
 have h : ∀ k,(List.replicate k [V.bl false]).flatten = List.replicate k (V.bl false):=λk=>by
  induction k with
  | zero=>rfl
  | succ k ih=>rw [yCc,yDT,ih]; rfl
 rw [h];unfold zDR;refine yCt λk => ?_;rw [yAb]
 by_cases hk : k < 2 ^ n
 ·rw [yDN,yAK hk,yDl hk]; rfl
 ·rw [yDN,yAN hk,yBU (by rw [yAw]; lia)]; rfl
theorem zQ8 {n k : Nat} (h : k < n) : ixN n (k : Int) = some k:=by
 unfold ixN;rw [yAK (by lia),yAK (by lia),yAS]
theorem zD6 (x y : Nat) : Builtin.bitAnd ((x : Nat) : Int) ((y : Nat) : Int) = ((x &&& y : Nat) : Int):=rfl
theorem zFE : ∀ (n x y : Nat),x <= n -> (x ^^^ y) + (x &&& y) = x ||| y
 | 0,x,y,h=>by
  obtain rfl : x = 0:=by lia
  simp
 | n + 1,x,y,h=>by
  by_cases hx : x = 0
  ·subst hx; simp
  ·have ih:=zFE n (x / 2) (y / 2) (by lia)
   have d1:=Nat.xor_div_two (a:=x) (b:=y);have d2:=Nat.and_div_two (a:=x) (b:=y);have d3:=Nat.or_div_two (a:=x) (b:=y);have m1:=Nat.xor_mod_two_eq_one (a:=x) (b:=y);have m2:=Nat.and_mod_two_eq_one (a:=x) (b:=y);have m3:=Nat.or_mod_two_eq_one (a:=x) (b:=y);rw [<- d1,<- d2,<- d3] at ih;have hx2:=Nat.mod_two_eq_zero_or_one x;have hy2:=Nat.mod_two_eq_zero_or_one y
   rcases hx2 with a | a <;> rcases hy2 with b | b <;> lia
theorem zPI (x y : Nat) : Builtin.bitXor ((x : Nat) : Int) ((y : Nat) : Int) = ((x ^^^ y : Nat) : Int):=by
 have e : Builtin.bitXor ((x : Nat) : Int) ((y : Nat) : Int) = Builtin.bitOr ((x : Nat) : Int) ((y : Nat) : Int) - Builtin.bitAnd ((x : Nat) : Int) ((y : Nat) : Int):=rfl;rw [e,zPK,zD6]
 have:=zFE x x y (yAG _)
 lia
noncomputable def zUT (ms : List Int) (m : Nat) : Bool:=ms.any λl=>decide (Builtin.bitAnd l (m : Int) = l)
theorem zVT {ms : List Int} (h : ∀ m∈ms,0 <= m) : ∃ ns : List Nat,ms = ns.map λ(n : Nat)=>(n : Int):=by
 induction ms with
 | nil=>exact ⟨[],rfl⟩
 | cons m r ih =>
  obtain ⟨ns,e⟩:=ih λx hx=>h x (yAP _ hx);obtain ⟨k,rfl⟩:=yCd (h m (yAQ ..));exact ⟨k::ns,by rw [yAp,<- e]⟩
theorem zL3 (ns : List Nat) (m : Nat) : zUT (ns.map λ(n : Nat)=>(n : Int)) m = ns.any λl=>decide (Sb l m):=by
 unfold zUT;rw [List.any_map]
 congr 1
 funext l
 show decide (Builtin.bitAnd ((l : Nat) : Int) ((m : Nat) : Int) = ((l : Nat) : Int)) = decide (Sb l m);rw [zD6,yAr,yAT,yAT,<- zLN];lia
noncomputable def zIW (K : PySem.W.Frag) : Sp:=λvs H Q _=>∃ a n ms,vs = [.ref a,.int ((n : Nat) : Int)]/\n <= 12/\Sq K H a (IV ms)/\H a≠none/\(∀ m∈ms,0 <= m/\m < 2 ^ n)/\∀ D H',H D = none -> Same H H' -> H' D = some (.lst (zDR n (zUT ms))) -> Q (.ref D) H'
theorem scTableOf : FnScope ["masks","many","table","mask","number","bit"] ["masks","many"] (zA8 zHB):=by trivial
set_option maxHeartbeats 1000000 in
theorem zLW {f : Addr} {fd : FuncData} (F : Fun K "table_of" "table_of" zHB f fd) (T : Txt mg) : FnOk P w K mg base CX0 1 f fd ["masks","many"] (zIW K):=by
 refine F.ok scTableOf (λvs H Q E h => ?_) (λcdv A outer s H vs Q E hr h => ?_)
 ·obtain ⟨a,n,ms,rfl,_⟩:=h
  rfl
 obtain ⟨a,n,ms,rfl,n12,sq,hne,ok,q⟩:=h;obtain ⟨ns,rfl⟩:=zVT λm hm=>(ok m hm).1
 have okn : ∀ l∈ns,l < 2 ^ n:=λl hl=>by
  have:=(ok l (yBA.mpr ⟨l,hl,rfl⟩)).2
  exact_mod_cast this
 refine ⟨_,zA2 (zAB (i:=2) scTableOf.nd rfl (Or.inl rfl) (zA9 zKO (zBK (zA0 zEU zA3)) (zA9 zCM zA4 (pv 1))))
  (zA2 (zBL PassesOwn.never rfl (zBX (pv 0)) (zAD (i:=3) scTableOf.nd rfl (Or.inl rfl)) (zA5 (zPX zEU (zTA (pv 2) (pv 3) zLM))))
  (zA2 (zBL PassesOwn.never rfl (zB5 rfl T.range (zA0 (pv 1) zA3)) (zAD (i:=4) scTableOf.nd rfl (Or.inl rfl))
   (zA2 (zAB (i:=5) scTableOf.nd rfl (Or.inl rfl) (zA9 zCM zA4 (pv 4)))
   (zA5 (zBL PassesOwn.never rfl (zB5 rfl T.range (zA0 (zA9 zCM zA4 (pv 1)) zA3)) (zAD (i:=3) scTableOf.nd rfl (Or.inl rfl))
    (zA5 (zBA (PW.pt (zT8 (zH1 (zA9 zE4 (pv 3) (pv 5)) (λ_=>rfl)) (zP3 (zBU (zBH zAR (pv 2) (zA9 zT7 (pv 3) (pv 5)) (λ_ _=>rfl)))))) (zA5 (zPX zEU (zTA (pv 2) (pv 3) zLM))) zAG))))))
  (zA5 (zAE (pv 2))))),?_⟩
 obtain ⟨N,hN⟩ : ∃ N,N = 2 ^ n:=⟨_,rfl⟩;have p12 : N <= 4096:=by rw [hN]; exact yCF (n:=2) (by decide) n12
 have s1000 : 16000000 <= sizeLine:=by decide
 have hsh : ∀ {k : Int},0 <= k -> k <= 12 -> zVA 1 k:=λh0 h1=>⟨h0,by lia,by decide⟩;have es : (1 : Int) * 2 ^ ((n : Nat) : Int).toNat = ((N : Nat) : Int):=by rw [yAS,yCS,hN,yCY]; rfl
 refine sH λC1 f1 => ?_;refine ⟨(by show 1 <= sizeLine; decide),λl hl => ?_⟩;obtain ⟨H1,g1,c1,e0⟩:=zB4 hl (.lst [.bl false]);rw [e0];clear e0;refine ⟨_,rfl,_,_,rfl,rfl,hsh (by lia) (by lia),l,_,_,rfl,rfl,c1,by rw [es]; lia,by rw [es]; lia,?_,λD hD => ?_⟩
 ·rw [es,yAS]
  show 1 * N <= sizeLine;lia
 have g2:=same_new hD (.lst (List.replicate ((1 : Int) * 2 ^ ((n : Nat) : Int).toNat).toNat [V.bl false]).flatten)
 have c2 : (upd H1 D (.lst (List.replicate ((1 : Int) * 2 ^ ((n : Nat) : Int).toNat).toNat [V.bl false]).flatten)) D = some (.lst (zDR n (λ_=>false))):=by
  rw [zA1,es,yAS,hN,zRE]
 generalize upd H1 D (.lst (List.replicate ((1 : Int) * 2 ^ ((n : Nat) : Int).toNat).toNat [V.bl false]).flatten) = H2 at g2 c2 ⊢;have g12:=g1.trans g2;have hDH : H D = none:=g1.free hD;have naD : a≠D:=λe=>hne (by rw [e]; exact hDH);have el : (IV (ns.map λ(n : Nat)=>(n : Int))).length = ns.length:=by unfold IV; rw [yAC,yAC]
 have sq2 : Sq K H2 a (IV (ns.map λ(n : Nat)=>(n : Int))):=Sq.at1 (g12.at1 a) sq;refine gNs (sR f1 (sfH λbd eb C2 f2 => ?_));refine ⟨_,rfl,a,rfl,?_⟩
 refine zC4 (K:=K) sq2 (λi σ H'=>∃ v3,σ = [some (.ref a),some (.int ((n : Nat) : Int)),some (.ref D),v3,none,none]/\(∀ c,c≠D -> H' c = H2 c)/\H' D = some (.lst (zDR n (λm=>decide (m∈ns.take i))))) ⟨_,rfl,(λ_ _=>rfl),by rw [c2]; simp⟩
  (λi σ H' hP o ho => ?_) (λi σ H' x hi hx hP => ?_) (λσ H' hP => ?_)
 ·obtain ⟨_,_,k,_⟩:=hP
  rw [k a naD]; exact ho
 ·refine gNs (sR eb (dH λD0 eD => ?_))
  obtain ⟨v3,rfl,k,lD⟩:=hP;rw [el] at hi
  have ex : x = .int ((ns[i] : Nat) : Int):=by
   unfold IV at hx;rw [yBp,yAb,yAB hi] at hx;exact (Option.some.inj hx).symm
  subst ex;have hlt:=okn ns[i] (yBI hi);subst eD;refine ⟨_,rfl,_,rfl,D,_,_,ns[i],rfl,rfl,lD,zQ8 (by rw [zBY]; exact hlt),_,rfl,λc hc=>by rw [zA7 hc]; exact k c hc,?_⟩;rw [zA1,zLD hlt]
  congr 2
  refine zC0 λm _ => ?_;have et : ns.take (i + 1) = ns.take i++[ns[i]]:=by rw [List.take_succ,yAB hi]; rfl
  rw [et,yAr,yDP,yAT,yAT,yAT,yAm,yAJ]
 ·refine sR f2 (sfH λbd eb C3 f3 => ?_)
  obtain ⟨v3,rfl,k,lD⟩:=hP;rw [el,yCf] at lD
  have lD : H' D = some (.lst (zDR n (fj ns 0))):=by
   rw [lD]
   congr 2
   exact zC0 λm _=>(zTW ns m).symm
  refine ⟨_,rfl,_,rfl,by lia,by lia,?_⟩;refine zCJ (lo:=0) (λj σ H'=>∃ v3 v4 v5,σ = [some (.ref a),some (.int ((n : Nat) : Int)),some (.ref D),v3,v4,v5]/\(∀ c,c≠D -> H' c = H2 c)/\H' D = some (.lst (zDR n (fj ns j)))) ⟨_,_,_,rfl,k,lD⟩ (λj σ H' hj hP => ?_) (λσ H' hP => ?_)
  ·refine gNs (sR eb (dH λD8 e8 => ?_))
   obtain ⟨v3,v4,v5,rfl,k,lD⟩:=hP;rw [yAS] at hj;have ej : (0 + (j : Int)).toNat = j:=by lia
   have eb : (1 : Int) * 2 ^ (0 + (j : Int)).toNat = ((2 ^ j : Nat) : Int):=by rw [ej,yCS,yCY]; rfl
   refine ⟨_,rfl,_,_,rfl,rfl,hsh (by lia) (by lia),_,rfl,_,_,rfl,rfl,hsh (by lia) (by lia),_,rfl,by rw [es]; lia,by rw [es]; lia,?_⟩;refine zCJ (lo:=0) (λi σ H'=>∃ v3,σ = [some (.ref a),some (.int ((n : Nat) : Int)),some (.ref D),v3,some (.int (0 + (j : Int))),some (.int ((1 : Int) * 2 ^ (0 + (j : Int)).toNat))]/\(∀ c,c≠D -> H' c = H2 c)/\H' D = some (.lst (zDR n (λm=>if m < i then fj ns (j + 1) m else fj ns j m)))) ⟨_,rfl,k,by rw [lD]; congr 2⟩ (λi σ H' hi hP => ?_) (λσ H' hP => ?_)
   ·refine gNs (dH λD9 e9 => ?_)
    obtain ⟨v3,rfl,k,lD⟩:=hP;rw [es,yAS] at hi;have hi2 : i < 2 ^ n:=by rw [<- hN]; exact hi
    have ei : (0 + (i : Int)) = ((i : Nat) : Int):=yDs _;have ea : Builtin.bitAnd (0 + (i : Int)) ((1 : Int) * 2 ^ (0 + (j : Int)).toNat) = ((i &&& 2 ^ j : Nat) : Int):=by rw [ei,eb,zD6]
    have ex : Builtin.bitXor (0 + (i : Int)) ((1 : Int) * 2 ^ (0 + (j : Int)).toNat) = ((i ^^^ 2 ^ j : Nat) : Int):=by rw [ei,eb,zPI]
    have hb : decide (((i &&& 2 ^ j : Nat) : Int)≠0) = i.testBit j:=by
     rw [yAr,yAT]
     constructor
     ·intro h
      cases z : i.testBit j with
      | true=>rfl
      | false =>
       refine absurd ?_ h
       have : i &&& 2 ^ j = 0:=by
        refine yBg λk => ?_;rw [yBw,yDA,yCx]
        by_cases y : j = k
        ·subst y; rw [z]; rfl
        ·rw [yAL y,Bool.and_false]
       rw [this]; rfl
     ·intro h e
      have : i &&& 2 ^ j = 0:=by lia
      have t : (i &&& 2 ^ j).testBit j = true:=by rw [yBw,yDA,h]; simp
      rw [this,yCx] at t
      cases t
    have next : ∀ c : Bool,c = (i.testBit j&&fj ns (j + 1) (i ^^^ 2 ^ j)) -> zDR n (λm=>(if m < i then fj ns (j + 1) m else fj ns j m)||(c&&decide (m = i))) = zDR n (λm=>if m < i + 1 then fj ns (j + 1) m else fj ns j m):=λc hc=>by
     refine zC0 λm _ => ?_
     by_cases e : m = i
     ·subst e
      rw [yAN (yBk _),yAK (yCy _),zTU ns j m,hc]
      simp
     ·rw [yAL e,Bool.and_false,Bool.or_false]
      by_cases z : m < i
      ·rw [yAK z,yAK (by lia)]
      ·rw [yAN z,yAN (by lia)]
    refine ⟨_,rfl,_,rfl,_,_,rfl,rfl,_,rfl,?_⟩;have put : ∀ c : Bool,c = (i.testBit j&&fj ns (j + 1) (i ^^^ 2 ^ j)) -> ∀ H9 : Hp,(∀ c,c≠D -> H9 c = H2 c) -> H9 D = some (.lst (zDR n (λm=>(if m < i then fj ns (j + 1) m else fj ns j m)||(c&&decide (m = i))))) -> H9 D = some (.lst (zDR n (λm=>if m < i + 1 then fj ns (j + 1) m else fj ns j m))):=λc hc H9 _ h=>by rw [h,next c hc]
    have skip : i.testBit j = false \/ fj ns (j + 1) (i ^^^ 2 ^ j) = false -> H' D = some (.lst (zDR n (λm=>if m < i + 1 then fj ns (j + 1) m else fj ns j m))):=λh=>by
     refine put false ?_ H' k ?_
     ·rcases h with z | z
      ·rw [z]; rfl
      ·rw [z,Bool.and_false]
     ·rw [lD]
      congr 2
      exact zC0 λm _=>by rw [yCH,Bool.or_false]
    refine zEN (λc => ?_) (λc => ?_)
    ·have hbit : i.testBit j = true:=by
      rw [<- hb,yAT,<- ea]
      simpa using c
     have hlt:=zYE hbit;refine ⟨_,rfl,_,rfl,_,rfl,_,_,rfl,rfl,D,_,_,_,rfl,rfl,SqL.of lD,(by rw [ex]; exact zVJ (Nat.lt_trans hlt hi2)),_,rfl,?_⟩;rw [yAK hlt];refine zEN (λc2 => ?_) (λc2 => ?_)
     ·subst e9
      refine ⟨_,rfl,_,rfl,D,_,_,i,rfl,rfl,lD,(by rw [ei]; exact zQ8 (by rw [zBY]; exact hi2)),_,rfl,λc hc=>by rw [zA7 hc]; exact k c hc,?_⟩;refine put true (by rw [hbit,c2]; rfl) _ (λc hc=>by rw [zA7 hc]; exact k c hc) ?_;rw [zA1,zLD hi2]
      congr 2
     ·subst e9
      refine ⟨_,rfl,k,skip (.inr (by simpa using c2))⟩
    ·subst e9
     refine zCW ⟨_,rfl,k,skip (.inl ?_)⟩
     cases z : i.testBit j with
     | false=>rfl
     | true =>
      rw [<- hb,yAT,<- ea] at z;exact absurd (by simpa using z) c
   ·obtain ⟨v3,rfl,k,lD⟩:=hP
    subst e8;refine ⟨_,_,_,rfl,k,?_⟩;rw [lD]
    congr 2
    refine zC0 λm hm => ?_;rw [es,yAS,hN,yAK hm]
  ·obtain ⟨v3,v4,v5,rfl,k,lD⟩:=hP
   rw [yAS] at lD;refine sR f3 ?_;refine ⟨_,rfl,q D H' hDH (λc o hc => ?_) ?_⟩
   ·rw [k c (zA6 hc hDH)]; exact g12 _ _ hc
   ·rw [lD]
    congr 2
    refine zC0 λm hm => ?_;rw [zYC okn hm,zL3]
theorem zC6 {K : PySem.W.Frag} {x y : V} {d : PyData} {H : Hp} {Q : VK} (h1 : DV K H x d) (h2 : DV K H y d) (hl : d.canLay0 = true) (hd : d.depth <= 100) (he : PyData.eqv d d = true) (h : Q (.bl false) H) : zYP K true x y H Q:=⟨d,d,h1,h2,hl,hl,hd,by rw [he]; exact h⟩
theorem zGO {H : Hp} {xs : List V} (hG : GN xs) : ∀ (vs : List Addr) (ms : List Int),vs.length = ms.length -> (∀ m∈ms,0 <= m/\m < 2 ^ xs.length) ->
  (∀ (j : Nat) v m,vs[j]? = some v -> ms[j]? = some m -> ∃ ys,Row H (.ref v) (some ys)/\ys.Perm (zCG xs m)) -> ∃ ixs : List (List Nat),zWN H xs (vs.map V.ref) ixs/\(ixs.map maskN).map (λ(m : Nat)=>(m : Int)) = ms
 | [],[],_,_,_=>⟨[],⟨rfl,λi v ix h=>by cases h⟩,rfl⟩
 | [],_::_,h,_,_=>by cases h
 | _::_,[],h,_,_=>by cases h
 | v::vs,m::ms,h,ok,f=>by
  obtain ⟨ixs,⟨l1,l2⟩,e⟩:=zGO hG vs ms (by simpa using h) (λx hx=>ok x (yAP _ hx)) (λj v m a b=>f (j + 1) v m a b);obtain ⟨ys,r,pm⟩:=f 0 v m rfl rfl;have hm:=ok m (yAQ ..);obtain ⟨ix,la,em⟩:=zXK hG hm.1 hm.2 r pm;refine ⟨ix::ixs,⟨by simp at l1 ⊢; exact l1,λi v' ix' a b => ?_⟩,by rw [yAp,yAp,em,e]⟩
  cases i with
  | zero=>cases a; cases b; exact la
  | succ i=>exact l2 i v' ix' (by simpa using a) (by simpa using b)
theorem zMF {l : List Nat} {ms : List Int} (e : l.map (λ(m : Nat)=>(m : Int)) = ms) (nd : ms.Nodup) : l.Nodup:=by
 rw [<- e] at nd;exact (yBY.mp nd).imp λh z=>h (by rw [z])
theorem zV8 {H : Hp} {xs : List V} (h : GN xs) : ∀ v∈xs,Th H v:=λv hv=>by
 rw [h.str v hv];show (zB3 v).length <= 100000
 have:=h.six v hv
 lia
structure Rows1 (b : Addr) (xs : List V) (ms : List Int) (vs : List Addr) (H0 H : Hp) : Prop where
 len : vs.length = ms.length
 new : ∀ v∈vs,H0 v = none
 rows : ∀ (j : Nat) v m,vs[j]? = some v -> ms[j]? = some m -> ∃ ys,Row H (.ref v) (some ys)/\ys.Perm (zCG xs m)
theorem zHC {CS C : Addr} {Hx : Hp} {vx vy : V} {xs : List V} {ms : List Int} {vs : List Addr} {b : Addr} {H0 : Hp} (hG : GN xs) (are : zHL (some xs) = true) (ok : MsOk xs.length ms) (h64 : ms.length <= 1000) (rX : Row Hx vx (some xs)) (rY : Row Hx vy (some (vs.map V.ref))) (R : Rows1 b xs ms vs H0 Hx)
  {p dx : Addr} (hp : Hx p = none) (hdx : Hx dx = none) {Qm : VK} {E : XK} (hQ : ∀ H' zs,Same Hx H' -> SysAt CS C H' p xs zs -> zs.Perm ms -> Ord xs zs -> Qm .non H') :
  zHH CS C [.ref p,vx,vy] (upd (upd Hx dx (.own p)) p (.ins CS dx [])) Qm E:=by
 have k1 : Same Hx (upd (upd Hx dx (.own p)) p (.ins CS dx [])):=λc o hc=>by rw [zA7 (zA6 hc hp),zA7 (zA6 hc hdx)]; exact hc
 obtain ⟨ixs,lo,em⟩:=zGO (H:=Hx) hG vs ms R.len ok.ok R.rows;have lo' : zWN (upd (upd Hx dx (.own p)) p (.ins CS dx [])) xs (vs.map V.ref) ixs:=⟨lo.1,λi v ix a b=>(lo.2 i v ix a b).same k1⟩;refine ⟨p,dx,vx,vy,xs,vs.map V.ref,ixs,rfl,zA1,rX.same k1,zV8 hG,are,rY.same k1,by rw [yAC,R.len]; exact h64,lo',zMF em ok.nd,λH' zs kp pz O hS => ?_⟩;rw [em] at pz;exact hQ H' zs (λc o hc=>kp c o (k1 _ _ hc) (zA6 hc hp)) hS pz O
noncomputable def zOI (CS C : Addr) : Sp:=λvs H Q _=>∃ p xs ms,vs = [.ref p]/\SysAt CS C H p xs ms/\Ord xs ms/\∀ D H',H D = none -> Same H H' -> H' D = some (.lst (zDR xs.length (zUT ms))) -> Q (.ref D) H'
theorem zVK : FnScope ["self"] ["self"] (zA8 zNW):=by trivial
theorem zR3 {f a1 a2 CS C : Addr} {fd d1 d2 : FuncData} (F : Fun K "table" "System.table" zNW f fd) (clS : Cls K CS) (nG : NoAttr K CS "ground") (nM : NoAttr K CS "masks") (cl : Cls K C) (M1 : Meth K C "size" a1) (O1 : FnOk P w K mg base CX0 1 a1 d1 ["self"] (zPU C)) (b1 : Binds K d1 ["self"] [])
  (D2 : Def P w K mg base 1 "table_of" ["masks","many"] (zIW K) a2 d2) : FnOk P w K mg base CX0 2 f fd ["self"] (zOI CS C):=by
 refine F.ok zVK (λvs H Q E h => ?_) (λcdv A outer s H vs Q E hr h => ?_)
 ·obtain ⟨p,xs,ms,rfl,_⟩:=h
  rfl
 obtain ⟨p,xs,ms,rfl,hS,hO,q⟩:=h;obtain ⟨dx,g,t,hp,hH,ht⟩:=id hS;obtain ⟨gx,t',d,h1,h2,h3⟩:=id hH;refine ⟨_,zA5 (zAE (zAA D2.ok hr rfl D2.m D2.k D2.b .nil zAF (zA0 (zBW (pv 0) rfl) (zA0 (zDS (zBW (pv 0) rfl) cl M1 O1 hr b1 .nil zAF) zA3)))),?_⟩;refine ⟨_,rfl,p,CS,dx,_,_,rfl,hp,clS,nM,rfl,_,rfl,p,CS,dx,_,_,rfl,hp,clS,nG,rfl,g,gx,_,rfl,h1,rfl,g,xs,rfl,hH,?_⟩;exact ⟨t,xs.length,ms,rfl,hO.gn.hi,.inr (SqT.of ht),by rw [ht]; simp,hO.ok,q⟩
theorem zMG : FnScope ["self","fallen"] ["self","fallen"] (zA8 zFP):=by trivial
theorem zJC {f a1 a2 a3 CS C : Addr} {fd d1 d2 d3 : FuncData} (F : Fun K "standing" "System.standing" zFP f fd) (clS : Cls K CS) (nG : NoAttr K CS "ground") (cl : Cls K C) (M1 : Meth K C "mask" a1) (O1 : FnOk P w K mg base CX0 2 a1 d1 ["self","names"] (zGH C)) (b1 : Binds K d1 ["self","names"] [])
  (M2 : Meth K CS "first_lot" a2) (O2 : FnOk P w K mg base CX0 4 a2 d2 ["self","mask"] (zPM CS C)) (b2 : Binds K d2 ["self","mask"] []) (D3 : Def P w K mg base 2 "all_of" ["houses"] (zJA C) a3 d3) :
  FnOk P w K mg base CX0 5 f fd ["self","fallen"] (zGK CS C):=by
 refine F.ok zMG (λvs H Q E h => ?_) (λcdv A outer s H vs Q E hr h => ?_)
 ·obtain ⟨p,x,xs,ms,m,rfl,_⟩:=h
  rfl
 obtain ⟨p,x,xs,ms,m,rfl,hS,hO,hx,m0,m1,q⟩:=h;obtain ⟨dx,g,t,hp,hH,ht⟩:=id hS;have hr2 : Room 2 _:=hr.mono (by decide);obtain ⟨gx,t',d,h1,h2,h3⟩:=id hH;refine ⟨_,zA5 (zAE (zCQ (pv 0) clS M2 O2 hr b2 .nil zAF (zA0 (zA9 zT7 (zAA D3.ok hr2 rfl D3.m D3.k D3.b .nil zAF (zA0 (zBW (pv 0) rfl) zA3)) (zCQ (zBW (pv 0) rfl) cl M1 O1 hr2 b1 .nil zAF (zA0 (pv 1) zA3))) zA3))),?_⟩;refine ⟨_,rfl,p,dx,_,rfl,hp,rfl,_,rfl,p,CS,dx,_,_,rfl,hp,clS,nG,rfl,g,xs,rfl,hH,hO.gn.hi,_,rfl,p,CS,dx,_,_,rfl,hp,clS,nG,rfl,g,gx,_,rfl,h1,rfl,_,rfl,?_⟩;obtain ⟨ys,ix,k1,k2,k3,k4,em⟩:=zWD hx;refine ⟨g,xs,x,ys,ix,rfl,hH,hO.gn.str,hO.gn.nd,hO.gn.hi,k1,k2,k3,k4,λH' g'=>⟨_,m,rfl,(by rw [em]),p,xs,ms,_,rfl,hS.same g',hO,q.mono g'⟩⟩
noncomputable def InB (fs sizes : List Int) : Prop:=fs.length = sizes.length/\∀ (i : Nat) f s,fs[i]? = some f -> sizes[i]? = some s -> 0 <= f/\f < s
theorem InB.snoc {sizes fs : List Int} {i : Nat} {s r : Int} (h : InB fs (sizes.take i)) (hs : sizes[i]? = some s) (r0 : 0 <= r) (r1 : r < s) : InB (fs++[r]) (sizes.take (i + 1)):=by
 have hi:=(yAE.mp hs).1;have lf : fs.length = i:=by rw [h.1,yAf]; lia
 refine ⟨by rw [yAU,lf,yAf]; simp; lia,λj f t hj ht => ?_⟩
 rcases yBs j i with c | c
 ·rw [yBF (by lia)] at hj
  rw [yBz] at ht;rw [yAK (by lia)] at ht;exact h.2 j f t hj (by rw [yBz,yAK c]; exact ht)
 ·have e : j = i:=by
   have:=(yAE.mp hj).1
   rw [yAU,lf] at this
   simp at this
   lia
  subst e;rw [yBC (by lia),lf,yDW] at hj;rw [yBz,yAK (by lia),hs] at ht
  cases hj
  cases ht
  exact ⟨r0,r1⟩
noncomputable def zF0 (K : PySem.W.Frag) : Sp:=λvs H Q _=>∃ c a sizes,vs = [.int c,.ref a]/\H a = some (.lst (IV sizes))/\sizes.length <= 100/\(∀ s∈sizes,0 < s/\s <= 70000)/\∀ D H' fs,H D = none -> Same H H' -> H' D = some (.lst (IV fs)) -> InB fs sizes -> Q (.ref D) H'
theorem scFDrawn : FnScope ["_law_cell","_law_sizes","_law_found","_law_many","_law_one","_law_other"] ["_law_cell","_law_sizes"] (zA8 zDF):=by trivial
set_option maxHeartbeats 2000000 in
theorem zNC {f : Addr} {fd : FuncData} (F : Fun K "_law_drawn" "_law_drawn" zDF f fd) : FnOk P w K mg base CX0 1 f fd ["_law_cell","_law_sizes"] (zF0 K):=by
 refine F.ok scFDrawn (λvs H Q E h => ?_) (λcdv A outer s H vs Q E hr h => ?_)
 ·obtain ⟨c,a,sizes,rfl,_⟩:=h
  rfl
 obtain ⟨c,a,sizes,rfl,sq,h100,hs,q⟩:=h
 refine ⟨_,zA2 (zAB (i:=2) scFDrawn.nd rfl (Or.inl rfl) (zBK zA3))
  (zA2 (zBA (zAI za4 (pv 0) (zA9 zLO zA4 zA4) (zAO _))
   (zA2 (zAB (i:=0) scFDrawn.nd rfl (Or.inl rfl) (zA9 zI0 (pv 0) (zA9 zLO zA4 zA4)))
   (zA2 (zBL PassesOwn.never rfl (zBX (pv 1)) (zAD (i:=3) scFDrawn.nd rfl (Or.inl rfl))
    (zA2 (zBO (zFA yBE yBS yBR zBC (pv 2) (zA0 (zA9 zAY (pv 0) (pv 3)) zA3)))
    (zA5 (zAB (i:=0) scFDrawn.nd rfl (Or.inl rfl) (zA9 zN6 (pv 0) (pv 3))))))
   (zA5 (zAE (pv 2))))) zAG)
  (zA2 (zAB (i:=4) scFDrawn.nd rfl (Or.inl rfl) (zA9 zAY (zA9 zAX (zA9 zCA (pv 0) zA4) zA4) zA4))
  (zA2 (zAB (i:=5) scFDrawn.nd rfl (Or.inl rfl) (zA9 zAY (zA9 zAX (zA9 zCA (pv 0) zA4) zA4) zA4))
  (zA2 (zAB (i:=4) scFDrawn.nd rfl (Or.inl rfl) (zA9 zAY (zA9 zAX (zA9 zAX (zA9 zCA (pv 4) (pv 4)) (zA9 zCA zA4 (pv 4))) zA4) zA4))
  (zA2 (zBL PassesOwn.never rfl (zBX (pv 1)) (zAD (i:=3) scFDrawn.nd rfl (Or.inl rfl))
    (zA2 (zAB (i:=4) scFDrawn.nd rfl (Or.inl rfl) (zA9 zAY (zA9 zAX (zA9 zAX (zA9 zCA (pv 4) (pv 4)) (zA9 zCA zA4 (pv 4))) zA4) zA4))
    (zA2 (zAB (i:=5) scFDrawn.nd rfl (Or.inl rfl) (zA9 zAY (zA9 zAX (zA9 zAX (zA9 zCA (pv 5) zA4) (zA9 zCA zA4 (zA9 zAY (pv 4) zA4))) zA4) zA4))
    (zA5 (zBO (zFA yBE yBS yBR zBC (pv 2) (zA0 (zA9 zAY (zA9 zAX (zA9 zCA (pv 4) zA4) (pv 5)) (pv 3)) zA3)))))))
  (zA5 (zAE (pv 2)))))))),?_⟩
 refine ⟨(by show 0 <= sizeLine; decide),λD hD => ?_⟩;have g1:=same_new hD (.lst []);have c1 : (upd H D (.lst [])) D = some (.lst (IV [])):=zA1;generalize upd H D (.lst []) = H1 at g1 c1 ⊢;have la:=g1 _ _ sq;have aD : a≠D:=λe=>by rw [e,hD] at sq; cases sq
 have lI : ∀ l : List Int,(IV l).length = l.length:=λl=>by unfold IV; rw [yAC]
 have p18 : zVA 10 18:=⟨by decide,by decide,by decide⟩
 have put : ∀ (H' : Hp) (fs : List Int) (i : Nat) (r : Int) (s : Int),sizes[i]? = some s -> Same H H' -> H' a = some (.lst (IV sizes)) -> H' D = some (.lst (IV fs)) -> InB fs (sizes.take i) -> 0 <= r -> r < s ->
   (IV fs).length + 1 <= sizeLine/\Same H (upd H' D (.lst (IV fs++[.int r])))/\(upd H' D (.lst (IV fs++[.int r]))) a = some (.lst (IV sizes))/\(upd H' D (.lst (IV fs++[.int r]))) D = some (.lst (IV (fs++[r])))/\InB (fs++[r]) (sizes.take (i + 1)):=λH' fs i r s hs g l1 l2 hB r0 r1=>by
  have hi:=(yAE.mp hs).1
  have:=hB.1
  rw [yAf] at this;refine ⟨by rw [lI]; show _ <= 16777216; lia,λc o hc => ?_,?_,?_,hB.snoc hs r0 r1⟩
  ·rw [zA7 (zA6 hc hD)]; exact g _ _ hc
  ·rw [zA7 aD]; exact l1
  ·rw [zA1]; unfold IV; rw [yAa]; rfl
 have b0 : InB [] (sizes.take 0):=⟨rfl,λi f s h=>by simp at h⟩;have at1 : ∀ H',H' a = some (.lst (IV sizes)) -> At1 a H1 H':=λH' h o e=>by rw [la] at e; cases e; exact h
 have fin : ∀ (H' : Hp) (fs : List Int),Same H H' -> H' D = some (.lst (IV fs)) -> InB fs (sizes.take (IV sizes).length) -> Q (.ref D) H':=λH' fs g l hB=>by
  rw [lI,yCf] at hB;exact q D H' fs hD g l hB
 have sz : ∀ (i : Nat) (x : V),(IV sizes)[i]? = some x -> ∃ s,x = .int s/\sizes[i]? = some s/\0 < s/\s <= 70000:=λi x h=>by
  unfold IV at h;rw [yAb] at h
  cases e : sizes[i]? with
  | none=>rw [e] at h; cases h
  | some s=>rw [e] at h; cases h; exact ⟨s,rfl,rfl,hs s (yAn e)⟩
 refine ⟨_,rfl,_,_,rfl,rfl,p18,_,_,rfl,rfl,_,rfl,?_⟩;refine zEN (λy => ?_) (λy => ?_)
 ·refine ⟨_,rfl,_,_,rfl,rfl,p18,_,_,rfl,rfl,?_⟩
  refine ⟨_,rfl,a,rfl,?_⟩;refine zC4 (K:=K) (ys:=IV sizes) (.inl (SqL.of la)) (λi σ H'=>∃ c v3 fs,σ = [some (.int c),some (.ref a),some (.ref D),v3,none,none]/\Same H H'/\H' a = some (.lst (IV sizes))/\H' D = some (.lst (IV fs))/\InB fs (sizes.take i)) ⟨_,_,[],rfl,g1,la,c1,b0⟩ (λi σ H' hP => ?_) (λi σ H' x hi hx hP => ?_) (λσ H' hP => ?_)
  ·obtain ⟨_,_,_,_,_,h,_⟩:=hP
   exact at1 H' h
  ·obtain ⟨c,v3,fs,rfl,g,l1,l2,hB⟩:=hP
   obtain ⟨s,rfl,es,s0,s1⟩:=sz i x hx;obtain ⟨k1,k2,k3,k4,k5⟩:=put H' fs i (c % s) s es g l1 l2 hB (yBJ _ (by lia)) (yAv _ s0);refine ⟨_,rfl,.inl ⟨rfl,_,SqL.of l2⟩,_,rfl,_,rfl,_,_,rfl,rfl,s0,D,_,_,rfl,rfl,l2,k1,?_⟩;exact ⟨_,rfl,_,rfl,_,_,rfl,rfl,⟨s0,by lia⟩,_,_,_,rfl,k2,k3,k4,k5⟩
  ·obtain ⟨c,v3,fs,rfl,g,l1,l2,hB⟩:=hP
   exact ⟨_,rfl,fin H' fs g l2 hB⟩
 ·have P31 : (0 : Int) < 2147483647:=by decide
  have P99 : (0 : Int) < 998244353:=by decide
  refine ⟨_,rfl,_,_,rfl,rfl,.inr ⟨by decide,by decide⟩,_,_,rfl,rfl,_,_,rfl,rfl,P31,?_⟩;refine ⟨_,rfl,_,_,rfl,rfl,.inr ⟨by decide,by decide⟩,_,_,rfl,rfl,_,_,rfl,rfl,P99,?_⟩;have a0:=yBJ (c * 48271 + 11) (b:=2147483647) (by decide);have a1:=yAv (c * 48271 + 11) P31;have o0:=yBJ (c * 69621 + 7) (b:=998244353) (by decide);have o1:=yAv (c * 69621 + 7) P99;refine ⟨_,rfl,_,rfl,_,_,rfl,rfl,.inl ⟨by lia,by lia⟩,_,rfl,_,_,rfl,rfl,.inl ⟨by decide,by decide⟩,_,_,rfl,rfl,_,_,rfl,rfl,_,_,rfl,rfl,P31,?_⟩;have b0':=yBJ ((c * 48271 + 11) % 2147483647 * ((c * 48271 + 11) % 2147483647) + 40692 * ((c * 48271 + 11) % 2147483647) + 3) (b:=2147483647) (by decide);have b1':=yAv ((c * 48271 + 11) % 2147483647 * ((c * 48271 + 11) % 2147483647) + 40692 * ((c * 48271 + 11) % 2147483647) + 3) P31;refine ⟨_,rfl,a,rfl,?_⟩;refine zC4 (K:=K) (ys:=IV sizes) (.inl (SqL.of la)) (λi σ H'=>∃ v3 x y fs,σ = [some (.int c),some (.ref a),some (.ref D),v3,some (.int x),some (.int y)]/\(0 <= x/\x < 2147483647)/\(0 <= y/\y < 998244353)/\Same H H'/\H' a = some (.lst (IV sizes))/\H' D = some (.lst (IV fs))/\InB fs (sizes.take i)) ⟨_,_,_,[],rfl,⟨b0',b1'⟩,⟨o0,o1⟩,g1,la,c1,b0⟩ (λi σ H' hP => ?_) (λi σ H' x hi hx hP => ?_) (λσ H' hP => ?_)
  ·obtain ⟨_,_,_,_,_,_,_,_,h,_⟩:=hP
   exact at1 H' h
  ·obtain ⟨v3,x',y',fs,rfl,⟨x0,x1⟩,⟨y0,y1⟩,g,l1,l2,hB⟩:=hP
   obtain ⟨s,rfl,es,s0,s1⟩:=sz i x hx;refine ⟨_,rfl,_,rfl,_,_,rfl,rfl,.inl ⟨by lia,by lia⟩,_,rfl,_,_,rfl,rfl,.inl ⟨by decide,by decide⟩,_,_,rfl,rfl,_,_,rfl,rfl,_,_,rfl,rfl,P31,?_⟩;have u0:=yBJ (x' * x' + 48271 * x' + 13) (b:=2147483647) (by decide);have u1:=yAv (x' * x' + 48271 * x' + 13) P31;refine ⟨_,rfl,_,_,rfl,rfl,.inr ⟨by decide,by decide⟩,_,rfl,_,_,rfl,rfl,(by show (0 : Int) < 65536; decide),_,_,rfl,rfl,.inl ⟨by decide,by decide⟩,_,_,rfl,rfl,_,_,rfl,rfl,_,_,rfl,rfl,P99,?_⟩;have w0:=yBJ (y' * 16807 + 48611 * (((x' * x' + 48271 * x' + 13) % 2147483647) % 65536) + 5) (b:=998244353) (by decide);have w1:=yAv (y' * 16807 + 48611 * (((x' * x' + 48271 * x' + 13) % 2147483647) % 65536) + 5) P99;obtain ⟨k1,k2,k3,k4,k5⟩:=put H' fs i ((((x' * x' + 48271 * x' + 13) % 2147483647) * 998244353 + (y' * 16807 + 48611 * (((x' * x' + 48271 * x' + 13) % 2147483647) % 65536) + 5) % 998244353) % s) s es g l1 l2 hB (yBJ _ (by lia)) (yAv _ s0);refine ⟨_,rfl,.inl ⟨rfl,_,SqL.of l2⟩,_,rfl,_,_,rfl,rfl,.inr ⟨by decide,by decide⟩,_,rfl,_,_,rfl,rfl,_,rfl,_,_,rfl,rfl,s0,D,_,_,rfl,rfl,l2,k1,?_⟩;exact ⟨_,_,_,_,rfl,⟨u0,u1⟩,⟨w0,w1⟩,k2,k3,k4,k5⟩
  ·obtain ⟨v3,x,y,fs,rfl,_,_,g,l1,l2,hB⟩:=hP
   exact ⟨_,rfl,fin H' fs g l2 hB⟩
end
end S
namespace L2
open PySem PySem.Spec PyProof.Rows
variable {X : Cx}
theorem zTS : OpR X (binaryOp .Mult) (λx y H Q=>∃ z n,x = .str z/\y = .int n/\0 <= n/\n <= 10000/\z.length <= 1000/\Q (.str (Txt.mul z n)) H):=by
 intro pins s σ H x y v u Q I rx ry h;obtain ⟨z,n,rfl,rfl,n0,n1,hz,q⟩:=h;obtain ⟨t,rfl⟩:=rx;obtain ⟨t',rfl⟩:=ry;have hlen:=len_mul z n;rw [yAN (by simp; lia)] at hlen;refine SB.mul ⟨by simp; lia,λh1 _ => ?_,λh1 _=>zWM ?_⟩ λt'' k=>⟨.str _,H,I.tok _,⟨_,rfl⟩,q⟩
 ·have : (2 ^ 63 - 1 : Int) / 10000 <= (2 ^ 63 - 1) / n:=by
   apply Int.le_ediv_of_mul_le (by lia);have e : (2 ^ 63 - 1 : Int) / 10000 = 922337203685477:=by decide
   rw [e];lia
  have e : (2 ^ 63 - 1 : Int) / 10000 = 922337203685477:=by decide
  lia
 ·have : n.toNat <= 10000:=by lia
  have:=Nat.mul_le_mul hz this
  lia
end L2
namespace S
open PySem L2
structure Goods (ls : List (List Nat)) : Prop where
 nd : ls.Nodup
 ok : ∀ l∈ls,zC9 (.str (mkS l)) = true
noncomputable abbrev nV (l : List Nat) : V := .str (mkS l)
theorem zQY {ls : List (List Nat)} (h1 : 1 <= ls.length) (h12 : ls.length <= 12) (g : Goods ls) : zHL (some (ls.map nV)) = true:=by
 have e : ls.map nV = (List.range ls.length).map λk=>V.str (mkS (ls.getD k [])):=by
  refine List.ext_getElem (by simp) λi h _ => ?_;rw [yAC] at h;rw [yDb,yDb,List.getElem_range,yAc,yAB h];rfl
 rw [e];have eg : ∀ {k : Nat} (h : k < ls.length),ls.getD k [] = ls[k]:=λh=>by rw [yAc,yAB h]; rfl
 refine zX1 (λk=>ls.getD k []) h1 h12 (λk hk => ?_) (λj k hjk hk z => ?_)
 ·rw [eg hk]
  exact g.ok _ (yBI hk)
 ·rw [eg hk,eg (by lia)] at z
  have:=(yCh g.nd).mp z
  lia
theorem Goods.take {ls : List (List Nat)} (g : Goods ls) (n : Nat) : Goods (ls.take n):=⟨g.nd.sublist (yCW n ls),λl hl=>g.ok l (List.mem_of_mem_take hl)⟩
noncomputable def SOMES : List Str:=["a","b","ab","aa","lot","man","walls","tre","putt","read","write","nones","stand","fall","alls","z","abcdef"]
noncomputable def ALPH : Str:="abcdefghijklmnopqrstuvwxyz"
noncomputable def ltr (i : Nat) : Nat:=ALPH.cps.toList.getD (i % 26) 0
noncomputable def zJQ (a s : Nat) : List Nat:=if s % 2 = 1 then [ltr (11 * a + 5 * s)] else []
noncomputable def nmF (a s k : Nat) : List Nat:=if (a + s) % 3 = 0 then ltr (7 * a + s + 3 * k)::zJQ a s else (SOMES.getD ((a + (1 + s) * k) % 17) "").cps.toList
theorem zQB : ∀ (a : Fin 17) (s : Fin 16),((List.range 12).map (nmF a.val s.val)).Nodup/\∀ l∈(List.range 12).map (nmF a.val s.val),zC9 (.str (mkS l)) = true:=by decide +kernel
theorem zRO {a s : Nat} (ha : a < 17) (hs : s < 16) : Goods ((List.range 12).map (nmF a s)):=⟨(zQB ⟨a,ha⟩ ⟨s,hs⟩).1,(zQB ⟨a,ha⟩ ⟨s,hs⟩).2⟩
theorem zY4 {a s n : Nat} (ha : a < 17) (hs : s < 16) (n1 : 1 <= n) (n12 : n <= 12) : zHL (some (((List.range n).map (nmF a s)).map nV)) = true:=by
 have e : (List.range n).map (nmF a s) = ((List.range 12).map (nmF a s)).take n:=by
  rw [<- List.map_take,List.take_range,Nat.min_eq_left n12]
 rw [e];have l : (((List.range 12).map (nmF a s)).take n).length = n:=by rw [yAf,yAC,yAw]; lia
 exact zQY (by lia) (by lia) ((zRO ha hs).take n)
theorem zMJ : Txt.split "a b ab aa lot man walls tre putt read write nones stand fall alls z abcdef" " " = SOMES:=by decide +kernel
theorem mul_one (c : Nat) : Txt.mul (⟨#[c]⟩ : Str) 1 = ⟨#[c]⟩:=by rfl
theorem mul_zero (z : Str) : Txt.mul z 0 = ⟨#[]⟩:=by rfl
noncomputable def zGZ : Sp:=λvs H Q _=>∃ a s n,vs = [.int a,.int s,.int n]/\0 <= a/\a < 17/\0 <= s/\s < 16/\1 <= n/\n <= 12/\∀ D H' xs,H D = none -> Same H H' -> H' D = some (.lst xs) -> (xs.length : Int) = n -> zHL (some xs) = true -> Q (.ref D) H'
theorem zT3 {i : Int} (i0 : 0 <= i) : atI ALPH.cps.toList (i % 26) = some (ltr i.toNat):=by
 have e : i % 26 = ((i.toNat % 26 : Nat) : Int):=by lia
 rw [e]
 have l : i.toNat % 26 < ALPH.cps.toList.length:=by
  have : ALPH.cps.toList.length = 26:=by decide +kernel
  lia
 unfold ltr;rw [zD5 (yAB l),yAc,yAB l];rfl
section
variable {P : Program} {w : World} {K : PySem.W.Frag} {mg : Str -> Option Value} {base : Heap}
theorem scFNames : FnScope ["_law_at","_law_step","_law_many","_law_some","_law_letters","_law_tail"] ["_law_at","_law_step","_law_many"] (zA8 zJS):=by trivial
set_option maxHeartbeats 2000000 in
theorem zPL {f : Addr} {fd : FuncData} (F : Fun K "_law_names" "_law_names" zJS f fd) (T : Txt mg) : FnOk P w K mg base CX0 1 f fd ["_law_at","_law_step","_law_many"] zGZ:=by
 refine F.ok scFNames (λvs H Q E h => ?_) (λcdv A outer s H vs Q E hr h => ?_)
 ·obtain ⟨a,s,n,rfl,_⟩:=h
  rfl
 obtain ⟨a,st,n,rfl,a0,a1,s0,s1,n1,n12,q⟩:=h
 refine ⟨_,zA2 (zAB (i:=3) scFNames.nd rfl (Or.inr rfl) (zFA PySem.F.plainAttrs_str PySem.F.slot_str_split PySem.F.type_str_split zNH zDT (zA0 zDT zA3)))
  (zA2 (zAB (i:=4) scFNames.nd rfl (Or.inr rfl) zDT)
  (zA2 (zBA (zAI zD4 (zA9 zAY (zA9 zAX (pv 0) (pv 1)) zA4) zA4 (zAO _))
   (zA2 (zAB (i:=5) scFNames.nd rfl (Or.inr rfl) (zA9 zTS (zBH zT6 (pv 4) (zA9 zAY (zA9 zAX (zA9 zCA zA4 (pv 0)) (zA9 zCA zA4 (pv 1))) zA4) (λ_ _=>rfl)) (zA9 zAY (pv 1) zA4)))
   (zA5 (zAE (zB8 (xs:=["_law_k"]) (fv:=[("_law_at",0),("_law_letters",4),("_law_step",1),("_law_tail",5)]) rfl (by decide +kernel) ⟨⟨rfl,Or.inl rfl,rfl⟩,⟨rfl,Or.inl rfl,rfl⟩,⟨rfl,Or.inl rfl,rfl⟩,⟨rfl,Or.inl rfl,rfl⟩,trivial⟩ (zB5 rfl T.range (zA0 (pv 2) zA3)) (λ_ _ _ _ _=>zAD (i:=0) (ndT (by decide +kernel)) rfl (Or.inl rfl)) (λ_ _ _ _ _=>zCH)
    (λ_ _ _ _ _=>zA9 zM1 (zBH zT6 (pv 2) (zA9 zAY (zA9 zAX (zA9 zAX (zA9 zCA zA4 (pv 1)) (pv 3)) (zA9 zCA zA4 (pv 0))) zA4) (λ_ _=>rfl)) (pv 4)))))) zAG)
  (zA5 (zAE (zB8 (xs:=["_law_k"]) (fv:=[("_law_at",0),("_law_some",3),("_law_step",1)]) rfl (by decide +kernel) ⟨⟨rfl,Or.inl rfl,rfl⟩,⟨rfl,Or.inl rfl,rfl⟩,⟨rfl,Or.inl rfl,rfl⟩,trivial⟩ (zB5 rfl T.range (zA0 (pv 2) zA3)) (λ_ _ _ _ _=>zAD (i:=0) (ndT (by decide +kernel)) rfl (Or.inl rfl)) (λ_ _ _ _ _=>zCH)
    (λ_ _ _ _ _=>zBH (zKY rfl) (pv 2) (zA9 zAY (zA9 zAX (pv 1) (zA9 zCA (zA9 zAX zA4 (pv 3)) (pv 0))) zA4) (λ_ _=>rfl))))))),?_⟩
 have s1000 : 100000 <= sizeLine:=by decide
 have C26 : (0 : Int) < 26:=by decide
 refine ⟨rfl,_,_,rfl,rfl,rfl,by decide,λD hD => ?_⟩;rw [zMJ];obtain ⟨H1,g1,c1,e0⟩:=zB4 hD (.lst (SOMES.map V.str));rw [e0];clear e0;obtain ⟨m,rfl⟩ : ∃ m : Nat,n = m:=⟨n.toNat,by lia⟩;obtain ⟨a,rfl⟩ : ∃ k : Nat,a = k:=⟨a.toNat,by lia⟩;obtain ⟨st,rfl⟩ : ∃ k : Nat,st = k:=⟨st.toNat,by lia⟩
 have fin : ∀ (D' : Addr) (H' : Hp),H1 D' = none -> Same H1 H'/\H' D' = some (.lst (((List.range m).map (nmF a st)).map nV)) -> Q (.ref D') H':=λD' H' h ⟨g,l⟩ =>
  q D' H' _ (g1.free h) (g1.trans g) l (by rw [yAC,yAC,yAw]) (zY4 (by lia) (by lia) (by lia) (by lia))
 have step : ∀ (i : Nat) (D' : Addr) (H' : Hp) (z : Str),i < m -> H1 D' = none -> Same H1 H' -> H' D' = some (.lst (((List.range i).map (nmF a st)).map nV)) -> z = mkS (nmF a st i) ->
   ∃ ys,H' D' = some (.lst ys)/\ys.length < sizeLine/\(Same H1 (upd H' D' (.lst (ys++[.str z])))/\(upd H' D' (.lst (ys++[.str z]))) D' = some (.lst (((List.range (i + 1)).map (nmF a st)).map nV))):=λi D' H' z hi hD' g l e=>by
  refine ⟨_,l,?_,λc o hc => ?_,?_⟩
  ·rw [yAC,yAC,yAw]; lia
  ·rw [zA7 (zA6 hc hD')]; exact g _ _ hc
  ·rw [zA1,yDK,yAa,yAa,e]; rfl
 refine ⟨_,rfl,_,rfl,_,_,rfl,rfl,_,_,rfl,rfl,(by show (0 : Int) < 3; decide),rfl,_,rfl,?_⟩;rw [zNE];refine zEN (λc => ?_) (λc => ?_)
 ·have c:=yAl c
  refine ⟨_,rfl,_,rfl,_,_,rfl,rfl,.inl ⟨by decide,by decide⟩,_,rfl,_,_,rfl,rfl,.inl ⟨by decide,by decide⟩,_,_,rfl,rfl,_,_,rfl,rfl,C26,ALPH,_,_,rfl,rfl,by decide,zT3 (by lia),_,rfl,_,_,rfl,rfl,(by show (0 : Int) < 2; decide),_,_,rfl,rfl,by lia,by lia,(by show 1 <= 1000; decide),?_⟩
  have et : Txt.mul ⟨#[ltr ((11 : Int) * (a : Nat) + 5 * (st : Nat)).toNat]⟩ (((st : Nat) : Int) % 2) = mkS (zJQ a st):=by
   rw [show ((11 : Int) * (a : Nat) + 5 * (st : Nat)).toNat = 11 * a + 5 * st by lia];unfold zJQ
   by_cases h : st % 2 = 1
   ·rw [show ((st : Nat) : Int) % 2 = 1 by lia,mul_one,yAK h]
   ·rw [show ((st : Nat) : Int) % 2 = 0 by lia,mul_zero,yAN h]
  rw [et];refine ⟨_,rfl,_,rfl,by lia,by lia,?_⟩;rw [yAS];refine zCN (λi D' H'=>Same H1 H'/\H' D' = some (.lst (((List.range i).map (nmF a st)).map nV))) (λD' hD'=>⟨same_new hD' _,zA1⟩) (λi D' H' hD' hi hP => ?_) (λD' H' hD' hP=>fin D' H' hD' hP);obtain ⟨g,l⟩:=hP;refine ⟨rfl,?_⟩;unfold zKA
  (try dsimp only)
  rw [yAK rfl];have lt : (zJQ a st).length <= 1:=by unfold zJQ; split <;> simp
  refine ⟨_,rfl,_,rfl,_,_,rfl,rfl,.inl ⟨by decide,by decide⟩,_,rfl,_,_,rfl,rfl,_,rfl,_,_,rfl,rfl,.inl ⟨by decide,by decide⟩,_,_,rfl,rfl,_,_,rfl,rfl,C26,ALPH,_,_,rfl,rfl,by decide,zT3 (by lia),_,rfl,_,_,rfl,rfl,?_,?_⟩
  ·have:=zUV (zJQ a st)
   show 1 + (mkS (zJQ a st)).length <= sizeLine;lia
  ·refine step i D' H' _ hi hD' g l ?_
   unfold nmF;rw [yAK (by lia),show ((7 : Int) * (a : Nat) + (st : Nat) + 3 * (0 + (i : Nat))).toNat = 7 * a + st + 3 * i by lia];exact zVC [_] _
 ·have c : ¬ (a + st) % 3 = 0:=λe=>by
   apply c;rw [yAT];lia
  refine ⟨_,rfl,_,rfl,by lia,by lia,?_⟩;rw [yAS];refine zCN (λi D' H'=>Same H1 H'/\H' D' = some (.lst (((List.range i).map (nmF a st)).map nV))) (λD' hD'=>⟨same_new hD' _,zA1⟩) (λi D' H' hD' hi hP => ?_) (λD' H' hD' hP=>fin D' H' hD' hP);obtain ⟨g,l⟩:=hP;refine ⟨rfl,?_⟩;unfold zKA
  (try dsimp only)
  rw [yAK rfl];have hk : (a + (1 + st) * i) % 17 < 17:=Nat.mod_lt _ (by decide)
  have ei : (((a : Nat) : Int) + (1 + ((st : Nat) : Int)) * (0 + ((i : Nat) : Int))) % 17 = (((a + (1 + st) * i) % 17 : Nat) : Int):=by
   rw [yDs]
   push_cast
   rfl
  have hx : atI (SOMES.map V.str) ((((a : Nat) : Int) + (1 + ((st : Nat) : Int)) * (0 + ((i : Nat) : Int))) % 17) = some (.str (SOMES.getD ((a + (1 + st) * i) % 17) "")):=by
   rw [ei];have l17 : SOMES.length = 17:=rfl;rw [zD5 (yAB (by rw [yAC,l17]; exact hk)),yDb,yAc,yAB (by rw [l17]; exact hk)];rfl
  refine ⟨_,rfl,_,rfl,_,rfl,_,_,rfl,rfl,_,rfl,_,_,rfl,rfl,.inl ⟨by lia,by lia⟩,_,_,rfl,rfl,_,_,rfl,rfl,(by show (0 : Int) < 17; decide),D,_,_,_,rfl,rfl,SqL.of (g _ _ c1),hx,?_⟩;refine step i D' H' _ hi hD' g l ?_;unfold nmF;rw [yAN c,zWO]
end
end S
namespace L2
open PySem PySem.Spec PyProof.Rows
noncomputable def zXD (K : PySem.W.Frag) : List V -> Hp -> VK -> Prop:=λus H Q=>∃ kf,zTJ K (λH v=>DV K H v (zQ4 (kf v))/\zZ9 (kf v)) kf us H Q
theorem zN2 {X : Cx} {k : Nat} (hr : Room (k + 2) X.A) : zCZ X (.builtin "sorted") (zXD X.K):=by
 intro pins s σ H xs us Q I r h;obtain ⟨kf,h⟩:=h;exact zMR zY0 hr pins s σ H xs us Q I r h
end L2
namespace S
open PySem L2
theorem zFD {X : Cx} {K : PySem.W.Frag} (hK : X.K = K) : zCZ X (.builtin "len") (λxs H Q=>∃ p ys,xs = [.ref p]/\(SqL K H p ys \/ SqT K H p ys)/\Q (.int ys.length) H):=by subst hK; exact zAH
noncomputable def zRW (ms : List Int) : Prop:=ms.Pairwise (λa b=>zB2 (kOf (.int b)) (kOf (.int a)) = false)
noncomputable def k3 (m : Int) : Int × List Int:=(((zC1 m).length : Int),zC1 m++[m])
theorem zY7 {a b : Int} (ha : OkM a) (hb : OkM b) (h : zB2 (k3 b) (k3 a) = false) : zB2 (kOf (.int b)) (kOf (.int a)) = false:=by
 have ek : ∀ m : Int,kOf (.int m) = (((zC1 m).length : Int),zC1 m):=λm=>rfl;rw [ek,ek];unfold zB2 k3 at *;dsimp only at *
 by_cases e : ((zC1 b).length : Int) = ((zC1 a).length : Int)
 ·rw [yAK e] at h ⊢
  rw [zK6 (by lia)] at h
  by_cases e2 : zC1 b = zC1 a
  ·rw [e2]; exact zH2 _
  ·rw [yAN e2] at h; exact h
 ·rw [yAN e] at h ⊢; exact h
noncomputable def zO1 : Sp:=λvs H Q _=>∃ m,vs = [.int m]/\∀ D H',H D = none -> Same H H' -> H' D = some (.lst ((zC1 m).map V.int)) -> Q (.ref D) H'
noncomputable def zLU (K : PySem.W.Frag) : Sp:=λvs H Q _=>∃ a ms,vs = [.ref a]/\Sq K H a (IV ms)/\ms.length <= 5000/\(∀ m∈ms,OkM m)/\∀ D H' zs,H D = none -> Same H H' -> H' D = some (.lst (IV zs)) -> zs.Perm ms -> zRW zs -> Q (.ref D) H'
section
variable {P : Program} {w : World} {K : PySem.W.Frag} {mg : Str -> Option Value} {base : Heap}
theorem zXX : FnScope ["_law_mask"] ["_law_mask"] (zA8 zCU):=by trivial
theorem zTR {f : Addr} {fd : FuncData} (F : Fun K "_law_numbers" "_law_numbers" zCU f fd) (T : Txt mg) : FnOk P w K mg base CX0 1 f fd ["_law_mask"] zO1:=by
 refine F.ok zXX (λvs H Q E h => ?_) (λcdv A outer s H vs Q E hr h => ?_)
 ·obtain ⟨m,rfl,_⟩:=h
  rfl
 obtain ⟨m,rfl,q⟩:=h
 refine ⟨_,zA5 (zAE (zB8 (xs:=["_law_k"]) (fv:=[("_law_mask",0)]) rfl (by decide +kernel) ⟨⟨rfl,Or.inl rfl,rfl⟩,trivial⟩ (zB5 rfl T.range (zA0 zA4 zA3)) (λ_ _ _ _ _=>zAD (i:=0) (ndT (by decide +kernel)) rfl (Or.inl rfl))
   (λ_ _ _ _ _=>zFL (zAI zD4 (zA9 zE4 (zA9 zLA (pv 1) (pv 0)) zA4) zA4 (zAO _))) (λ_ _ _ _ _=>pv 0))),?_⟩
 refine ⟨12,rfl,by decide,by decide,?_⟩;refine zCN (λi D H'=>Same H H'/\H' D = some (.lst ((zBN m i).map V.int))) (λD hD=>⟨same_new hD _,zA1⟩) (λi D H' hD hi hP => ?_) (λD H' hD hP=>q D H' hD hP.1 hP.2);obtain ⟨g,hl⟩:=hP;have hi : i < 12:=hi;refine ⟨rfl,_,rfl,_,rfl,_,_,rfl,rfl,(by show (0 : Int) <= 0 + (i : Int); lia),_,_,rfl,rfl,rfl,_,rfl,?_⟩;rw [zLL];have hz:=zCL m i;refine zEN (λc => ?_) (λc => ?_)
 ·refine ⟨_,rfl,_,hl,?_,λb o e => ?_,?_⟩
  ·rw [yAC]
   have : 1000 < sizeLine:=by decide
   lia
  ·rw [zA7 (zA6 e hD)]; exact g _ _ e
  ·rw [zA1,zBG,yAK c,yAa,yDs]; rfl
 ·refine ⟨g,?_⟩
  rw [zBG,yAN c,yBq];exact hl
theorem scFOrd : FnScope ["_law_masks_here","_law_rows"] ["_law_masks_here"] (zA8 zCF):=by trivial
set_option maxHeartbeats 2000000 in
theorem zWB {f a1 : Addr} {fd d1 : FuncData} (F : Fun K "_law_in_order" "_law_in_order" zCF f fd) (T : Txt mg) (msr : mg "sorted" = none) (D1 : Def P w K mg base 1 "_law_numbers" ["_law_mask"] zO1 a1 d1) : FnOk P w K mg base CX0 3 f fd ["_law_masks_here"] (zLU K):=by
 refine F.ok scFOrd (λvs H Q E h => ?_) (λcdv A outer s H vs Q E hr h => ?_)
 ·obtain ⟨a,ms,rfl,_⟩:=h
  rfl
 obtain ⟨a,ms,rfl,sq,h5,okm,q⟩:=h;have hr1 : Room 1 _:=hr.mono (by decide)
 refine ⟨_,zA2 (zAB (i:=1) scFOrd.nd rfl (Or.inl rfl) (zAC (zN2 (k:=0) hr) rfl msr PyProof.Rows.boot_sorted (zA0 (zB8 (xs:=["_law_mask"]) (fv:=[]) rfl (by decide +kernel) trivial (zBX (pv 0)) (λ_ _ _ _ _=>zAD (i:=0) (ndT (by decide +kernel)) rfl (Or.inl rfl)) (λ_ _ _ _ _=>zCH)
    (λ_ _ _ _ _=>zEQ (zA0 (zAC (zFD rfl) rfl T.len yBH (zA0 (zAA D1.ok hr1 rfl D1.m D1.k D1.b .nil zAF (zA0 (pv 0) zA3)) zA3)) (zA0 (zAA D1.ok hr1 rfl D1.m D1.k D1.b .nil zAF (zA0 (pv 0) zA3)) (zA0 (pv 0) zA3))))) zA3)))
  (zA5 (zAE (zB8 (xs:=["_law_row"]) (fv:=[]) rfl (by decide +kernel) trivial (zBX (pv 1)) (λ_ _ _ _ _=>zAD (i:=0) (ndT (by decide +kernel)) rfl (Or.inl rfl)) (λ_ _ _ _ _=>zCH) (λ_ _ _ _ _=>zBH (zNN rfl) (pv 0) zA4 (λ_ _=>rfl))))),?_⟩
 have s1000 : 100000 <= sizeLine:=by decide
 refine ⟨_,rfl,a,rfl,?_⟩
 refine zGU (K:=K) (ys:=IV ms) sq (λi D H'=>Same H H'/\∃ ps : List (Addr × Int),ps.map (·.2) = ms.take i/\H' D = some (.lst (ps.map λp=>V.ref p.1))/\(ps.map (·.1)).Nodup/\∀ p∈ps,H p.1 = none/\p.1≠D/\∃ l,l≠D/\H' p.1 = some (.tup [.int ((zC1 p.2).length : Int),.ref l,.int p.2])/\H' l = some (.lst ((zC1 p.2).map V.int)))
  (λD hD=>⟨same_new hD _,[],rfl,zA1,.nil,λ_ h=>nomatch h⟩) (λi D H' hD hP=>hP.1.at1 a) (λi D H' x hD hi hx hP => ?_) (λD H' hD hP => ?_)
 ·obtain ⟨g,ps,e1,lD,nd,rows⟩:=hP
  unfold IV at hx hi;rw [yAC] at hi;rw [yAb,yAB hi] at hx
  cases hx
  refine ⟨rfl,?_⟩;unfold zKA
  (try dsimp only)
  rw [yAK rfl];refine ⟨_,rfl,ms[i],rfl,λl1 H1 hl1 g1 c1=>⟨l1,_,rfl,.inl (SqL.of c1),_,rfl,ms[i],rfl,λl2 H2 hl2 g2 c2=>⟨_,rfl,(by show 3 <= sizeLine; decide),λt ht => ?_⟩⟩⟩;rw [yAC];obtain ⟨H3,g3,c3,e0⟩:=zB4 ht (.tup [.int ((zC1 ms[i]).length : Int),.ref l2,.int ms[i]]);rw [e0];clear e0;have g13:=(g1.trans g2).trans g3;have tD : t≠D:=λe=>by rw [e,(g1.trans g2) _ _ lD] at ht; cases ht
  have lD2 : l2≠D:=λe=>by rw [e,g1 _ _ lD] at hl2; cases hl2
  have tn : t∉ps.map (·.1):=λhm=>by
   obtain ⟨p,hp,e⟩:=yBA.mp hm;obtain ⟨_,_,l,_,h1,_⟩:=rows p hp;rw [<- e,(g1.trans g2) _ _ h1] at ht; cases ht
  have lp : ps.length = i:=by
   have:=congrArg List.length e1
   rw [yAC,yAf] at this;lia
  refine ⟨_,g13 _ _ lD,by rw [yAC,lp]; lia,λc o hc => ?_,ps++[(t,ms[i])],?_,?_,?_,λp hp => ?_⟩
  ·rw [zA7 (zA6 hc hD)]; exact g13 _ _ (g _ _ hc)
  ·rw [yAa,e1,yBX,yAB hi]; rfl
  ·rw [zA1,yAa]; rfl
  ·rw [yAa,yDS]
   exact ⟨nd,by simp,λa ha b hb e=>tn (by have h : b = t:=yAJ.mp hb; rw [<- h,<- e]; exact ha)⟩
  ·rcases yAm.mp hp with hp | hp
   ·obtain ⟨h0,h1,l,h2,h3,h4⟩:=rows p hp
    exact ⟨h0,h1,l,h2,by rw [zA7 h1]; exact g13 _ _ h3,by rw [zA7 h2]; exact g13 _ _ h4⟩
   ·rw [yAJ.mp hp]
    exact ⟨g.free (g1.free (g2.free ht)),tD,l2,lD2,by rw [zA7 tD]; exact c3,by rw [zA7 lD2]; exact g3 _ _ c2⟩
 ·obtain ⟨g,ps,e1,lD,nd,rows⟩:=hP
  have eI : (IV ms).length = ms.length:=by unfold IV; rw [yAC]
  rw [eI,yCf] at e1;have lp : ps.length = ms.length:=by rw [<- e1,yAC]
  have fnd : ∀ p∈ps,ps.find? (λq=>decide (q.1 = p.1)) = some p:=λp hp=>by
   have key : ∀ l : List (Addr × Int),(l.map (·.1)).Nodup -> p∈l -> l.find? (λq=>decide (q.1 = p.1)) = some p:=λl=>by
    induction l with
    | nil=>exact λ_ h=>nomatch h
    | cons q r ih =>
     intro nd hp;rw [yAp,yDj] at nd
     rcases yAd.mp hp with rfl | hp
     ·rw [yEM (by simp)]
     ·have : q.1≠p.1:=λe=>nd.1 (e ▸ yBA.mpr ⟨p,hp,rfl⟩)
      rw [yEN (by simpa using this)];exact ih nd.2 hp
   exact key ps nd hp
  obtain ⟨kf,hkf⟩ : ∃ kf : V -> Int × List Int,∀ p∈ps,kf (.ref p.1) = k3 p.2:=⟨λv=>match v with
   | .ref r=>match ps.find? (λq=>decide (q.1 = r)) with
    | some p=>k3 p.2
    | none=>(0,[])
   | _=>(0,[]),λp hp=>by
    show (match ps.find? (λq=>decide (q.1 = p.1)) with | some p=>k3 p.2 | none=>(0,[])) = _;rw [fnd p hp]⟩
  have hG : ∀ y∈ps.map (λp=>V.ref p.1),DV K H' y (zQ4 (kf y))/\zZ9 (kf y):=λy hy=>by
   obtain ⟨p,hp,rfl⟩:=yBA.mp hy;obtain ⟨_,_,l,_,h3,h4⟩:=rows p hp;rw [hkf p hp];refine ⟨?_,_,_,rfl,rfl⟩;unfold zQ4 k3;dsimp only;rw [List.dropLast_concat,List.getLastD_concat];exact .tup (SqT.of h3) (.cons (.int _) (.cons (.lst (SqL.of h4) (DVs.ints _)) (.cons (.int _) .nil)))
  refine ⟨kf,D,_,rfl,.inl (SqL.of lD),by rw [yAC]; lia,hG,λD2 H2 ys hD2 g2 l2 pm so => ?_⟩;obtain ⟨qs,pq,rfl⟩:=zL7 pm ps rfl
  have so' : qs.Pairwise λa b=>zB2 (k3 b.2) (k3 a.2) = false:=by
   rw [yBY] at so;refine so.imp_of_mem λ{a b} ha hb h => ?_;rw [hkf a (pq.mem_iff.mp ha),hkf b (pq.mem_iff.mp hb)] at h;exact h
  have pz : (qs.map (·.2)).Perm ms:=e1 ▸ pq.map (·.2);have okq : ∀ p∈qs,OkM p.2:=λp hp=>okm _ (pz.mem_iff.mp (yBA.mpr ⟨p,hp,rfl⟩))
  have sz : zRW (qs.map (·.2)):=by
   unfold zRW;rw [yBY];exact so'.imp_of_mem λ{a b} ha hb h=>zY7 (okq a ha) (okq b hb) h
  refine ⟨_,rfl,D2,rfl,?_⟩;refine zGU (K:=K) (ys:=qs.map λp=>V.ref p.1) (.inl (SqL.of l2)) (λi D H3=>Same H2 H3/\H3 D = some (.lst (IV ((qs.map (·.2)).take i)))) (λD hD=>⟨same_new hD _,zA1⟩) (λi D H3 hD hP=>hP.1.at1 D2) (λi D H3 x hD hi hx hP => ?_) (λD3 H3 hD3 hP => ?_)
  ·obtain ⟨g3,lD3⟩:=hP
   rw [yAC] at hi;rw [yAb,yAB hi] at hx
   cases hx
   obtain ⟨_,_,l,_,h3,_⟩:=rows qs[i] (pq.mem_iff.mp (yBI hi));refine ⟨rfl,?_⟩;unfold zKA
   (try dsimp only)
   rw [yAK rfl];refine ⟨_,rfl,qs[i].1,_,2,_,rfl,rfl,SqT.of (g3 _ _ (g2 _ _ h3)),rfl,_,lD3,?_,λc o hc => ?_,?_⟩
   ·have:=pq.length_eq
    unfold IV;rw [yAC,yAf,yAC]; lia
   ·rw [zA7 (zA6 hc hD)]; exact g3 _ _ hc
   ·have hi2 : i < (qs.map (·.2)).length:=by rw [yAC]; exact hi
    rw [zA1,yBX,yAB hi2,yDb];unfold IV;rw [yAa]; rfl
  ·obtain ⟨g3,lD3⟩:=hP
   rw [yAC] at lD3;rw [yAt (by rw [yAC]; exact yAG _)] at lD3;exact q D3 H3 _ (g.free (g2.free hD3)) ((g.trans g2).trans g3) lD3 pz sz
noncomputable def zYO : Option Int -> V
 | none => .non
 | some m => .int m
noncomputable def zBV (ms : List Int) (f : Int) : Option Int:=ms.find? λm=>decide (Builtin.bitAnd m f = 0)
noncomputable def zGY (K : PySem.W.Frag) : Sp:=λvs H Q _=>∃ a ms f,vs = [.ref a,.int f]/\Sq K H a (IV ms)/\∀ H',Same H H' -> Q (zYO (zBV ms f)) H'
theorem zJH (ms : List Int) (lo hi : Option Int) : ∃ ms',zFZ (IV ms) lo hi = IV ms'/\ms'.Sublist ms:=by
 refine ⟨(ms.drop (HT.sIx (IV ms).length 0 lo)).take (HT.sIx (IV ms).length (IV ms).length hi - HT.sIx (IV ms).length 0 lo),?_,(yCW _ _).trans (List.drop_sublist _ _)⟩;unfold zFZ IV;rw [List.map_take,List.map_drop]
theorem MsOk.sub {n : Nat} {ms ms' : List Int} (h : MsOk n ms) (s : ms'.Sublist ms) : MsOk n ms':=⟨h.nd.sublist s,λm hm=>h.ok m (s.subset hm)⟩
theorem zYZ : FnScope ["_law_names_here","_law_mask"] ["_law_names_here","_law_mask"] (zA8 zDK):=by trivial
theorem zSQ {f : Addr} {fd : FuncData} (F : Fun K "_law_named" "_law_named" zDK f fd) (me : mg "enumerate" = none) : FnOk P w K mg base CX0 1 f fd ["_law_names_here","_law_mask"] (zQV K):=by
 refine F.ok zYZ (λvs H Q E h => ?_) (λcdv A outer s H vs Q E hr h => ?_)
 ·obtain ⟨a,xs,m,rfl,_⟩:=h
  rfl
 obtain ⟨a,xs,m,rfl,sq,h12,m0,m1,q⟩:=h
 refine ⟨_,zA5 (zAE (zB8 (xs:=["_law_k","_law_name"]) (fv:=[("_law_mask",1)]) rfl (by decide +kernel) ⟨⟨rfl,Or.inl rfl,rfl⟩,trivial⟩ (zE2 rfl me (zA0 (pv 0) zA3))
   (λ_ _ _ _ _=>zHF (K:=K) (n:=2) rfl rfl (zBD (zAD (i:=0) (ndT (by decide +kernel)) rfl (Or.inl rfl)) (zBD (zAD (i:=1) (ndT (by decide +kernel)) rfl (Or.inl rfl)) zEG)))
   (λ_ _ _ _ _=>zFL (zAI zD4 (zA9 zE4 (zA9 zLA (pv 2) (pv 0)) zA4) zA4 (zAO _))) (λ_ _ _ _ _=>pv 1))),?_⟩
 refine ⟨_,rfl,a,rfl,?_⟩;refine zFM (ys:=xs) sq (λi D H'=>Same H H'/\H' D = some (.lst ((zBN m i).map λk=>xs.getD k.toNat .non))) (λD hD=>⟨same_new hD _,zA1⟩) (λi D H' hD hP=>hP.1.at1 a) (λi D H' x r hD hi hx hP hr' => ?_) (λD H' hD hP => ?_)
 ·obtain ⟨g,hl⟩:=hP
  have g2:=same_new hr' (.tup [.int (i : Nat),x]);have c2 : (upd H' r (.tup [.int (i : Nat),x])) r = some (.tup [.int (i : Nat),x]):=zA1;generalize upd H' r (.tup [.int (i : Nat),x]) = H2 at g2 c2 ⊢;refine ⟨r,_,rfl,SqT.of c2,rfl,_,_,rfl,_,_,rfl,rfl,rfl,_,rfl,_,rfl,_,_,rfl,rfl,(by show (0 : Int) <= ((i : Nat) : Int); lia),_,_,rfl,rfl,rfl,_,rfl,?_⟩;rw [zOT];have hz:=zCL m i;refine zEN (λc => ?_) (λc => ?_)
  ·refine ⟨_,rfl,_,g2 _ _ hl,?_,λb o e => ?_,?_⟩
   ·rw [yAC]
    have : 1000 < sizeLine:=by decide
    lia
   ·rw [zA7 (zA6 e hD)]; exact g2 _ _ (g _ _ e)
   ·rw [zA1,zBG,yAK c,yAa]
    have : xs.getD ((i : Int)).toNat .non = x:=by rw [yAS,yAc,hx]; rfl
    show _ = some (HO.lst (_++[xs.getD ((i : Int)).toNat .non]));rw [this]
  ·refine ⟨g.trans g2,?_⟩
   rw [zBG,yAN c,yBq];exact g2 _ _ hl
 ·obtain ⟨g,hl⟩:=hP
  have e : m / 2 ^ xs.length = 0:=yCk m0 m1;rw [zCC m0 (by lia) h12] at hl;exact q D H' hD g hl
theorem scStands : FnScope ["_law_masks_here","_law_fallen","_law_mask"] ["_law_masks_here","_law_fallen"] (zA8 zD2):=by trivial
theorem zOH {f : Addr} {fd : FuncData} (F : Fun K "_law_stands" "_law_stands" zD2 f fd) : FnOk P w K mg base CX0 1 f fd ["_law_masks_here","_law_fallen"] (zGY K):=by
 refine F.ok scStands (λvs H Q E h => ?_) (λcdv A outer s H vs Q E hr h => ?_)
 ·obtain ⟨a,ms,f,rfl,_⟩:=h
  rfl
 obtain ⟨a,ms,fl,rfl,sq,q⟩:=h
 refine ⟨_,zA2 (zBL PassesOwn.never rfl (zBX (pv 0)) (zAD (i:=2) scStands.nd rfl (Or.inl rfl))
   (zA5 (zBA (zAI zD4 (zA9 zE4 (pv 2) (pv 1)) zA4 (zAO _)) (zA5 (zAE (pv 2))) zAG)))
  (zA5 (zAE zCK)),?_⟩
 refine ⟨_,rfl,a,rfl,?_⟩;refine zC4 (K:=K) (ys:=IV ms) sq (λi σ H'=>∃ v2,σ = [some (.ref a),some (.int fl),v2]/\Same H H'/\zBV ms fl = zBV (ms.drop i) fl) ⟨_,rfl,Same.refl _,rfl⟩ (λi σ H' hP => ?_) (λi σ H' x hi hx hP => ?_) (λσ H' hP => ?_)
 ·obtain ⟨_,_,g,_⟩:=hP
  exact g.at1 a
 ·obtain ⟨v2,rfl,g,e1⟩:=hP
  unfold IV at hx hi;rw [yAC] at hi;rw [yAb,yAB hi] at hx
  cases hx
  refine ⟨_,rfl,_,rfl,_,_,rfl,rfl,rfl,_,rfl,?_⟩;rw [zNE];rw [yBv hi] at e1;unfold zBV at e1;refine zEN (λc => ?_) (λc => ?_)
  ·rw [yEM (p:=λm=>decide (Builtin.bitAnd m fl = 0)) c] at e1
   refine ⟨_,rfl,?_⟩;have h:=q H' g;unfold zBV at h;rw [e1] at h;exact h
  ·rw [yEN (p:=λm=>decide (Builtin.bitAnd m fl = 0)) c] at e1
   exact ⟨_,rfl,g,e1⟩
 ·obtain ⟨v2,rfl,g,e1⟩:=hP
  have eI : (IV ms).length = ms.length:=by unfold IV; rw [yAC]
  rw [eI,List.drop_length] at e1;have h:=q H' g;rw [e1] at h;exact h
noncomputable def zL9 (K : PySem.W.Frag) : Sp:=λvs H Q _=>∃ a n ds,vs = [.ref a,.int ((n : Nat) : Int)]/\H a = some (.lst (IV ds))/\2 <= ds.length/\ds.length <= 100/\(∀ d∈ds,0 <= d)/\1 <= n/\n <= 8/\∀ D H' ms,H D = none -> Same H H' -> H' D = some (.lst (IV ms)) -> MsOk n ms -> ms.length <= 256 -> Q (.ref D) H'
theorem zVS (ms : List Int) : (IV ms).all zFO = true:=by
 rw [yCD]; intro v hv;obtain ⟨i,_,rfl⟩:=yBA.mp hv;rfl
theorem zTN {n : Nat} (n8 : n <= 8) {ms : List Int} (h : MsOk n ms) : ms.length <= 256:=by
 have p8 : 2 ^ n <= 256:=yCF (n:=2) (by decide) n8;have nr : ((List.range (2 ^ n)).map λ(k : Nat)=>(k : Int)).Nodup:=yBY.mpr (List.nodup_range.imp λh e=>h (Int.ofNat.inj e))
 have p : ms.Perm (((List.range (2 ^ n)).map λ(k : Nat)=>(k : Int)).filter λm=>decide (m∈ms)):=(yCM h.nd (nr.sublist yCK)).mpr λm=>by
  rw [yBx,yAT];refine ⟨λhm=>⟨?_,hm⟩,λhm=>hm.2⟩
  have:=h.ok m hm
  have h2 : ((2 ^ n : Nat) : Int) = (2 : Int) ^ n:=by norm_cast
  exact yBA.mpr ⟨m.toNat,yBL.mpr (by lia),by lia⟩
 have l1:=p.length_eq;have l2:=yBc (λm=>decide (m∈ms)) ((List.range (2 ^ n)).map λ(k : Nat)=>(k : Int));rw [yAC,yAw] at l2;lia
theorem scFMasks : FnScope ["_law_draws","_law_many","_law_found","_law_size","_law_number","_law_mask"] ["_law_draws","_law_many"] (zA8 zNI):=by trivial
set_option maxHeartbeats 4000000 in
theorem zP6 {f a1 : Addr} {fd d1 : FuncData} (F : Fun K "_law_masks" "_law_masks" zNI f fd) (T : Txt mg) (D1 : Def P w K mg base 1 "_law_numbers" ["_law_mask"] zO1 a1 d1) : FnOk P w K mg base CX0 2 f fd ["_law_draws","_law_many"] (zL9 K):=by
 refine F.ok scFMasks (λvs H Q E h => ?_) (λcdv A outer s H vs Q E hr h => ?_)
 ·obtain ⟨a,n,ds,rfl,_⟩:=h
  rfl
 obtain ⟨a,n,ds,rfl,ha,l2,l100,d0,n1,n8,q⟩:=h
 refine ⟨_,zA2 (zAB (i:=2) scFMasks.nd rfl (Or.inl rfl) (zBK zA3))
  (zA2 (zBA (zAI zD4 (zA9 zAY (zBH zAR (pv 0) zA4 (λ_ _=>rfl)) zA4) zA4 (zAO _))
   (zA2 (zAB (i:=3) scFMasks.nd rfl (Or.inr rfl) (zA9 zAY (zBH zAR (pv 0) zA4 (λ_ _=>rfl)) (zA9 zAX (pv 1) zA4)))
   (zA5 (zAE (zB8 (xs:=["_law_mask"]) (fv:=[("_law_size",3)]) rfl (by decide +kernel) ⟨⟨rfl,Or.inl rfl,rfl⟩,trivial⟩ (zB5 rfl T.range (zA0 (zA9 zCM zA4 (pv 1)) zA3)) (λ_ _ _ _ _=>zAD (i:=0) (ndT (by decide +kernel)) rfl (Or.inl rfl))
    (λ_ _ _ _ _=>zFL (zAI zD4 (zAC (zFD rfl) rfl T.len yBH (zA0 (zAA D1.ok hr rfl D1.m D1.k D1.b .nil zAF (zA0 (pv 0) zA3)) zA3)) (pv 1) (zAO _))) (λ_ _ _ _ _=>pv 0))))) zAG)
  (zA2 (zBL PassesOwn.never rfl (zBX (zAJ zAT (pv 0) (zAL zA4) (zAL (zA9 zAX zA4 (zBH zAR (pv 0) zA4 (λ_ _=>rfl)))))) (zAD (i:=4) scFMasks.nd rfl (Or.inl rfl))
   (zA2 (zAB (i:=5) scFMasks.nd rfl (Or.inl rfl) (zA9 zAY (pv 4) (zA9 zCM zA4 (pv 1))))
   (zA2 (zBA (zAI zD4 (zA9 zAY (zBH zAR (pv 0) zA4 (λ_ _=>rfl)) zA4) zA4 (zAO _)) (zA5 (zAB (i:=5) scFMasks.nd rfl (Or.inl rfl) (zA9 zTY (pv 5) (zA9 zCM zA4 (zA9 zAY (zBH zAR (pv 0) zA4 (λ_ _=>rfl)) (pv 1)))))) zAG)
   (zA2 (zBA (zAI zD4 (zA9 zAY (zBH zAR (pv 0) zA4 (λ_ _=>rfl)) zA4) zA4 (zAO _)) (zA5 (zAB (i:=5) scFMasks.nd rfl (Or.inl rfl) (zA9 zTY (pv 5) (zA9 zAY (zA9 zN6 (pv 4) zA4) (zA9 zCM zA4 (pv 1)))))) zAG)
   (zA5 (zBA (zAI zEO (pv 5) (pv 2) (by with_unfolding_all rfl)) (zA5 (zBO (zFA yBE yBS yBR zBC (pv 2) (zA0 (pv 5) zA3)))) zAG))))))
  (zA5 (zAE (zAJ zAT (pv 2) (zAL (zB0 zI1 rfl T.int yEP (zA0 (zGM (zD0 zD4 (zA9 zAY (zBH zAR (pv 0) zA4 (λ_ _=>rfl)) zA4) zA4 (zAO _)) (zGB (zD0 zD4 (zBH zAR (pv 0) zA4 (λ_ _=>rfl)) zA4 (zAO _)))) zA3))) zAN))))),?_⟩
 have s1000 : 100000 <= sizeLine:=by decide
 refine ⟨(by show 0 <= sizeLine; decide),λD hD => ?_⟩;have g1:=same_new hD (.lst []);have c1 : (upd H D (.lst [])) D = some (.lst (IV [])):=zA1;generalize upd H D (.lst []) = H1 at g1 c1 ⊢;have la:=g1 _ _ ha
 obtain ⟨x0,x1,hx0,hx1,x00,x10⟩ : ∃ x0 x1,atI (IV ds) 0 = some (.int x0)/\atI (IV ds) 1 = some (.int x1)/\0 <= x0/\0 <= x1 :=
  ⟨ds[0],ds[1],zGR (ms:=ds) (i:=0) (by lia),zGR (ms:=ds) (i:=1) (by lia),d0 _ (yBI _),d0 _ (yBI _)⟩
 have hsh : zVA 1 (n : Int):=⟨by lia,by lia,by decide⟩;have es : ((1 : Int) * 2 ^ ((n : Nat) : Int).toNat) = ((2 ^ n : Nat) : Int):=by rw [yAS,yCS,yCY]; rfl
 have p8 : 2 ^ n <= 256:=yCF (n:=2) (by decide) n8;have p0 : 0 < 2 ^ n:=Nat.two_pow_pos n;have pc : ((2 ^ n : Nat) : Int) = (2 : Int) ^ n:=by norm_cast
 have P4 : (0 : Int) < 4:=by decide
 have PN : (0 : Int) < 1 * 2 ^ ((n : Nat) : Int).toNat:=by rw [es]; lia
 refine ⟨_,rfl,a,_,_,_,rfl,rfl,SqL.of la,hx0,_,_,rfl,rfl,P4,rfl,_,rfl,?_⟩;rw [zNE];refine zEN (λc => ?_) (λc => ?_)
 ·refine ⟨_,rfl,a,_,_,_,rfl,rfl,SqL.of la,hx1,_,rfl,_,_,rfl,rfl,_,_,rfl,rfl,(by show (0 : Int) < (n : Nat) + 1; lia),?_⟩
  refine ⟨_,rfl,_,_,rfl,rfl,hsh,?_⟩;refine ⟨_,rfl,by rw [es]; lia,by rw [es]; lia,?_⟩;rw [es,yAS]
  have pre : ∀ i,((List.range (i + 1)).map λ(k : Nat)=>(k : Int)).filter (λm=>decide (((zC1 m).length : Int) = x1 % ((n : Nat) + 1))) = ((List.range i).map λ(k : Nat)=>(k : Int)).filter (λm=>decide (((zC1 m).length : Int) = x1 % ((n : Nat) + 1)))++if decide (((zC1 (i : Nat)).length : Int) = x1 % ((n : Nat) + 1)) = true then [((i : Nat) : Int)] else []:=λi=>by
   rw [yDK,yAa,yDO]
   congr 1
   by_cases h : decide (((zC1 (i : Nat)).length : Int) = x1 % ((n : Nat) + 1)) = true
   ·rw [yAK h]; exact List.filter_cons_of_pos (p:=λm=>decide (((zC1 m).length : Int) = x1 % ((n : Nat) + 1))) h
   ·rw [yAN h]; exact List.filter_cons_of_neg (p:=λm=>decide (((zC1 m).length : Int) = x1 % ((n : Nat) + 1))) h
  refine zCN (λi D' H'=>Same H1 H'/\H' D' = some (.lst (IV (((List.range i).map λ(k : Nat)=>(k : Int)).filter (λm=>decide (((zC1 m).length : Int) = x1 % ((n : Nat) + 1))))))) (λD' hD'=>⟨same_new hD' _,zA1⟩) (λi D' H' hD' hi hP => ?_) (λD' H' hD' hP => ?_)
  ·obtain ⟨g,l⟩:=hP
   have hz : (((List.range i).map λ(k : Nat)=>(k : Int)).filter (λm=>decide (((zC1 m).length : Int) = x1 % ((n : Nat) + 1)))).length <= i:=by
    have:=yBc (λm=>decide (((zC1 m).length : Int) = x1 % ((n : Nat) + 1))) ((List.range i).map λ(k : Nat)=>(k : Int))
    rw [yAC,yAw] at this;exact this
   refine ⟨rfl,_,rfl,_,rfl,λl1 H2 hl1 g2 c2=>⟨l1,_,rfl,.inl (SqL.of c2),_,rfl,rfl,_,rfl,?_⟩⟩;rw [yAC,zNE,yDs];have e:=pre i;refine zEN (λd => ?_) (λd => ?_)
   ·rw [yAK d] at e
    refine ⟨_,rfl,_,g2 _ _ l,?_,λc' o hc => ?_,?_⟩
    ·unfold IV
     rw [yAC]; lia
    ·rw [zA7 (zA6 hc hD')]; exact g2 _ _ (g _ _ hc)
    ·rw [zA1,e]; unfold IV; rw [yAa]; rfl
   ·rw [yAN d,yBq] at e
    exact ⟨g.trans g2,by rw [e]; exact g2 _ _ l⟩
  ·obtain ⟨g,l⟩:=hP
   have ok : MsOk n (((List.range (2 ^ n)).map λ(k : Nat)=>(k : Int)).filter (λm=>decide (((zC1 m).length : Int) = x1 % ((n : Nat) + 1)))):=by
    refine ⟨List.Nodup.sublist yCK (yBY.mpr (List.nodup_range.imp λh e=>h (Int.ofNat.inj e))),λm hm => ?_⟩;obtain ⟨k,hk,rfl⟩:=yBA.mp (yBx.mp hm).1
    have:=yBL.mp hk
    exact ⟨by lia,by exact_mod_cast this⟩
   exact q D' H' _ (g1.free hD') (g1.trans g) l ok (zTN n8 ok)
 ·refine ⟨_,rfl,2,rfl,_,rfl,a,_,_,_,rfl,rfl,SqL.of la,hx1,_,_,rfl,rfl,?_⟩
  refine ⟨_,rfl,a,_,rfl,SqL.of la,λL hL => ?_⟩;obtain ⟨zs,ez,sz⟩:=zJH ds (some 2) (some (3 + x1));rw [ez];have g2:=same_new hL (.lst (IV zs));have c2 : (upd H1 L (.lst (IV zs))) L = some (.lst (IV zs)):=zA1;have LD : L≠D:=λe=>by rw [e,c1] at hL; cases hL
  have lz : zs.length <= 100:=yAz sz.length_le l100;generalize upd H1 L (.lst (IV zs)) = H2 at g2 c2 ⊢;refine ⟨L,rfl,?_⟩
  refine zC4 (K:=K) (ys:=IV zs) (.inl (SqL.of c2)) (λi σ H'=>∃ v4 v5 fs,σ = [some (.ref a),some (.int (n : Nat)),some (.ref D),none,v4,v5]/\Same H H'/\H' L = some (.lst (IV zs))/\H' D = some (.lst (IV fs))/\MsOk n fs/\fs.length <= i)
   ⟨_,_,[],rfl,g1.trans g2,c2,g2 _ _ c1,⟨.nil,λ_ h=>nomatch h⟩,yAG _⟩ (λi σ H' hP => ?_) (λi σ H' x hi hx hP => ?_) (λσ H' hP => ?_)
  ·obtain ⟨_,_,_,_,_,h,_⟩:=hP
   exact λo e=>by rw [c2] at e; cases e; exact h
  ·obtain ⟨v4,v5,fs,rfl,g,lL,lD,ok,lf⟩:=hP
   obtain ⟨z,hz,rfl⟩:=yBA.mp (yAn hx);have z0:=d0 z (sz.subset hz);unfold IV at hi;rw [yAC] at hi;have la':=g _ _ ha;refine ⟨_,rfl,_,rfl,_,_,rfl,rfl,hsh,_,_,rfl,rfl,PN,?_⟩;have u0:=yBJ z (b:=1 * 2 ^ ((n : Nat) : Int).toNat) (by lia);have u1:=yAv z PN;refine ⟨_,rfl,a,_,_,_,rfl,rfl,SqL.of la',hx0,_,_,rfl,rfl,P4,rfl,_,rfl,?_⟩;rw [zNE];refine zEN (λe1 => ?_) (λe1 => ?_)
   case' refine_1 =>
    have y0:=yBJ x1 (b:=(n : Nat)) (by lia);have y1:=yAv x1 (b:=(n : Nat)) (by lia);refine ⟨_,rfl,_,rfl,a,_,_,_,rfl,rfl,SqL.of la',hx1,_,rfl,_,_,rfl,rfl,(by show (0 : Int) < (n : Nat); lia),_,_,rfl,rfl,⟨y0,by lia,by decide⟩,_,_,rfl,rfl,?_⟩;have pl:=zXJ (k:=(x1 % (n : Nat)).toNat) (n:=n) (by lia)
    obtain ⟨m,em,m0,m1⟩ : ∃ m,m = Builtin.bitOr (z % (1 * 2 ^ ((n : Nat) : Int).toNat)) (1 * 2 ^ (x1 % (n : Nat)).toNat)/\0 <= m/\m < (2 : Int) ^ n:=by
     have h:=zWH (n:=n) u0 (by lia) (b:=1 * 2 ^ (x1 % (n : Nat)).toNat) (by rw [yCS]; exact Int.le_of_lt (pow_pos _)) (by rw [yCS]; exact pl);exact ⟨_,rfl,h.1,h.2⟩
   case' refine_2 =>
    obtain ⟨m,em,m0,m1⟩ : ∃ m,m = z % (1 * 2 ^ ((n : Nat) : Int).toNat)/\0 <= m/\m < (2 : Int) ^ n:=⟨_,rfl,u0,by lia⟩
   all_goals
    dsimp only;rw [<- em];clear em;refine ⟨_,rfl,a,_,_,_,rfl,rfl,SqL.of la',hx0,_,_,rfl,rfl,P4,rfl,_,rfl,?_⟩;rw [zNE];refine zEN (λe2 => ?_) (λe2 => ?_)
    case' refine_1 =>
     refine ⟨_,rfl,_,rfl,_,_,rfl,rfl,⟨by decide,by decide⟩,_,rfl,_,_,rfl,rfl,hsh,_,_,rfl,rfl,PN,_,_,rfl,rfl,?_⟩;have w0:=yBJ (z / 256) (b:=1 * 2 ^ ((n : Nat) : Int).toNat) (by lia);have w1:=yAv (z / 256) PN
     obtain ⟨k,ek,k0,k1⟩ : ∃ k,k = Builtin.bitOr m (z / 256 % (1 * 2 ^ ((n : Nat) : Int).toNat))/\0 <= k/\k < (2 : Int) ^ n:=by
      have h:=zWH (n:=n) m0 m1 w0 (by lia);exact ⟨_,rfl,h.1,h.2⟩
    case' refine_2 =>
     obtain ⟨k,ek,k0,k1⟩ : ∃ k,k = m/\0 <= k/\k < (2 : Int) ^ n:=⟨_,rfl,m0,m1⟩
    all_goals
     (try dsimp only)
     rw [<- ek];clear ek;refine ⟨_,rfl,_,rfl,D,IV fs,rfl,.inl (SqL.of lD),rfl,zVS fs,_,rfl,?_⟩;rw [yAK rfl,zOY];refine zEN (λe3 => ?_) (λe3 => ?_)
     case' refine_1 =>
      have nk : k∉fs:=by simpa using e3
      refine ⟨_,rfl,.inl ⟨rfl,_,SqL.of lD⟩,_,rfl,D,_,_,rfl,rfl,lD,by unfold IV; rw [yAC]; lia,?_⟩;refine ⟨_,_,fs++[k],rfl,λc' o hc => ?_,?_,?_,ok.snoc nk k0 k1,by rw [yAU]; exact Nat.succ_le_succ lf⟩
      ·rw [zA7 (zA6 hc hD)]; exact g _ _ hc
      ·rw [zA7 LD]; exact lL
      ·rw [zA1]; unfold IV; rw [yAa]; rfl
     case' refine_2 =>
      exact ⟨_,_,fs,rfl,g,lL,lD,ok,Nat.le_succ_of_le lf⟩
  ·obtain ⟨v4,v5,fs,rfl,g,lL,lD,ok,lf⟩:=hP
   have la':=g _ _ ha
   have fin : ∀ j : Int,∀ p,H' p = none -> Q (.ref p) (upd H' p (.lst (zFZ (IV fs) (some j) none))):=λj p hp=>by
    obtain ⟨fs',ef,sf⟩:=zJH fs (some j) none;rw [ef];exact q p _ fs' (g.free hp) (g.trans (same_new hp _)) zA1 (ok.sub sf) (zTN n8 (ok.sub sf))
   refine ⟨_,rfl,_,rfl,a,_,_,_,rfl,rfl,SqL.of la',hx0,_,_,rfl,rfl,P4,rfl,_,rfl,?_⟩;rw [zNE];refine zEN (λe1 => ?_) (λe1 => ?_)
   ·exact ⟨_,rfl,a,_,_,_,rfl,rfl,SqL.of la',hx1,rfl,.inr ⟨_,rfl,_,rfl,D,_,rfl,SqL.of lD,fin _⟩⟩
   ·exact .inr ⟨_,rfl,_,rfl,D,_,rfl,SqL.of lD,fin _⟩
noncomputable def zJ0 (K : PySem.W.Frag) : Sp:=λvs H Q _=>∃ nm M xs ms at',vs = [.ref nm,.ref M,.int at']/\H nm = some (.lst xs)/\GN xs/\H M = some (.lst (IV ms))/\ms.length <= 256/\MsOk xs.length ms /\
 ∀ L H' vs' ns,H L = none -> Same H H' -> H' L = some (.lst (vs'.map V.ref)) -> ns.Perm ms -> Rows1 0 xs ns vs' (λ_=>none) H' -> Q (.ref L) H'
theorem zC7 (xs : List V) {k : Nat} (h : k <= xs.length) : zFZ xs (some (k : Int)) none = xs.drop k/\zFZ xs none (some (k : Int)) = xs.take k:=by
 refine ⟨zIL h,?_⟩;unfold zFZ;have e1 : HT.sIx xs.length 0 none = 0:=rfl
 have e2 : HT.sIx xs.length xs.length (some (k : Int)) = k:=by
  unfold HT.sIx;show (if (k : Int) < 0 then ((k : Int) + (xs.length : Int)).toNat else min (k : Int).toNat xs.length) = k;rw [yAN (by lia)];lia
 rw [e1,e2,List.drop_zero,Nat.sub_zero]
theorem scFHanded : FnScope ["_law_names_here","_law_masks_here","_law_at","_law_rows","_law_first","_law_turned","_law_k","_law_mask","_law_row"] ["_law_names_here","_law_masks_here","_law_at"] (zA8 zJ6):=by trivial
set_option maxHeartbeats 4000000 in
theorem zMC {f a1 : Addr} {fd d1 : FuncData} (F : Fun K "_law_handed" "_law_handed" zJ6 f fd) (T : Txt mg) (mt : mg "tuple" = none) (me : mg "enumerate" = none) (D1 : Def P w K mg base 1 "_law_named" ["_law_names_here","_law_mask"] (zQV K) a1 d1) :
  FnOk P w K mg base CX0 2 f fd ["_law_names_here","_law_masks_here","_law_at"] (zJ0 K):=by
 refine F.ok scFHanded (λvs H Q E h => ?_) (λcdv A outer s H vs Q E hr h => ?_)
 ·obtain ⟨nm,M,xs,ms,at',rfl,_⟩:=h
  rfl
 obtain ⟨nm,M,xs,ms,at',rfl,hnm,hG,hM,l256,ok,q⟩:=h
 refine ⟨_,zA2 (zAB (i:=3) scFHanded.nd rfl (Or.inl rfl) (zBK zA3))
  (zA2 (zAB (i:=4) scFHanded.nd rfl (Or.inl rfl) (zA9 zAY (pv 2) (zA9 zAX (zAC zAH rfl T.len yBH (zA0 (pv 1) zA3)) zA4)))
  (zA2 (zAB (i:=5) scFHanded.nd rfl (Or.inl rfl) (zA9 zIY (zAJ zAT (pv 1) (zAL (pv 4)) zAN) (zAJ zAT (pv 1) zAN (zAL (pv 4)))))
  (zA2 (zBL PassesOwn.never rfl (zE2 rfl me (zA0 (pv 5) zA3)) (zP7 (n:=2) rfl (zBD (zAD (i:=6) scFHanded.nd rfl (Or.inl rfl)) (zBD (zAD (i:=7) scFHanded.nd rfl (Or.inl rfl)) zEG)))
   (zA2 (zAB (i:=8) scFHanded.nd rfl (Or.inl rfl) (zAA D1.ok hr rfl D1.m D1.k D1.b .nil zAF (zA0 (pv 0) (zA0 (pv 7) zA3))))
   (zA2 (zAB (i:=8) scFHanded.nd rfl (Or.inl rfl) (zF3 (zAI zD4 (zA9 zAY (zA9 zAX (pv 2) (pv 6)) zA4) zA4 (zAO _)) (zTH (p4:=⟨0,0,0,0⟩) (pv 8)) (pv 8)))
   (zA5 (zBO (zFA yBE yBS yBR zBC (pv 3) (zA0 (zF3 (zAI zD4 (zA9 zAY (zA9 zAX (pv 2) (pv 6)) zA4) zA4 (zAO _)) (zB0 zB9 rfl mt yBW (zA0 (pv 8) zA3)) (pv 8)) zA3)))))))
  (zA5 (zAE (pv 3)))))),?_⟩
 have s1000 : 100000 <= sizeLine:=by decide
 have lI : ∀ l : List Int,(IV l).length = l.length:=λl=>by unfold IV; rw [yAC]
 refine ⟨(by show 0 <= sizeLine; decide),λD hD => ?_⟩;have g1:=same_new hD (.lst []);have c1 : (upd H D (.lst [])) D = some (.lst (([] : List Addr).map V.ref)):=zA1;generalize upd H D (.lst []) = H1 at g1 c1 ⊢;have hM1:=g1 _ _ hM;have pos : (0 : Int) < ((IV ms).length : Nat) + 1:=by lia
 refine ⟨_,rfl,_,rfl,M,_,rfl,.inl (SqL.of hM1),_,_,rfl,rfl,_,_,rfl,rfl,pos,?_⟩;have k0:=yBJ at' (b:=((IV ms).length : Nat) + 1) (by lia);have k1:=yAv at' pos;obtain ⟨k,ek⟩ : ∃ k : Nat,at' % (((IV ms).length : Nat) + 1) = k:=⟨(at' % (((IV ms).length : Nat) + 1)).toNat,by lia⟩;dsimp only;rw [ek];have kl : k <= (IV ms).length:=by lia
 obtain ⟨cf,ct⟩:=zC7 (IV ms) kl;refine ⟨_,rfl,_,rfl,_,rfl,M,_,rfl,SqL.of hM1,λA1 hA1 => ?_⟩;rw [cf];obtain ⟨H2,gA,cA,e0⟩:=zB4 hA1 (.lst ((IV ms).drop k));rw [e0];clear e0;refine ⟨_,rfl,_,rfl,_,rfl,M,_,rfl,SqL.of (gA _ _ hM1),λA2 hA2 => ?_⟩;rw [ct];obtain ⟨H3,gB,cB,e0⟩:=zB4 hA2 (.lst ((IV ms).take k));rw [e0];clear e0;have eT : (IV ms).drop k++(IV ms).take k = IV (ms.drop k++ms.take k):=by unfold IV; rw [yAa,List.map_drop,List.map_take]
 have pT : (ms.drop k++ms.take k).Perm ms:=yDX.trans (yEW (yCP k ms));refine ⟨_,_,_,_,rfl,rfl,gB _ _ cA,cB,by rw [yCg,yAf,lI]; lia,λL hL => ?_⟩;rw [eT];have gC:=same_new hL (.lst (IV (ms.drop k++ms.take k)));have cL : (upd H3 L (.lst (IV (ms.drop k++ms.take k)))) L = some (.lst (IV (ms.drop k++ms.take k))):=zA1;have DL : D≠L:=λe=>by rw [<- e,gB _ _ (gA _ _ c1)] at hL; cases hL
 generalize upd H3 L (.lst (IV (ms.drop k++ms.take k))) = H4 at gC cL ⊢;generalize ms.drop k++ms.take k = ns at pT cL ⊢;have lD4:=gC _ _ (gB _ _ (gA _ _ c1));have g4:=((g1.trans gA).trans gB).trans gC;have ln:=pT.length_eq;refine ⟨_,rfl,L,rfl,?_⟩
 refine zQT (K:=K) (ys:=IV ns) (.inl (SqL.of cL)) (λi σ H'=>∃ v6 v7 v8 vs',σ = [some (.ref nm),some (.ref M),some (.int at'),some (.ref D),some (.int (k : Nat)),some (.ref L),v6,v7,v8]/\Same H H'/\H' L = some (.lst (IV ns))/\H' D = some (.lst (vs'.map V.ref))/\vs'.length = i/\(∀ v∈vs',v≠D)/\∀ (j : Nat) v m,vs'[j]? = some v -> ns[j]? = some m -> ∃ ys,Row H' (.ref v) (some ys)/\ys.Perm (zCG xs m))
  ⟨_,_,_,[],rfl,g4,cL,lD4,rfl,(λ_ h=>nomatch h),λj v m h=>by simp at h⟩ (λi σ H' hP => ?_) (λi σ H' x r hi hx hP hr' => ?_) (λσ H' hP => ?_)
 ·obtain ⟨_,_,_,_,_,_,h,_⟩:=hP
  exact λo e=>by rw [cL] at e; cases e; exact h
 ·obtain ⟨v6,v7,v8,vs',rfl,g,lL,lD,lv,nD,rows⟩:=hP
  unfold IV at hx hi;rw [yAC] at hi;rw [yAb,yAB hi] at hx
  cases hx
  have hm:=ok.ok ns[i] (pT.mem_iff.mp (yBI hi));have g5:=same_new hr' (.tup [.int (i : Nat),.int ns[i]]);have c5 : (upd H' r (.tup [.int (i : Nat),.int ns[i]])) r = some (.tup [.int (i : Nat),.int ns[i]]):=zA1;generalize upd H' r (.tup [.int (i : Nat),.int ns[i]]) = H5 at g5 c5 ⊢;refine ⟨r,_,rfl,SqT.of c5,rfl,_,_,rfl,_,_,rfl,rfl,?_⟩;refine ⟨_,rfl,_,rfl,nm,xs,ns[i],rfl,.inl (SqL.of (g5 _ _ (g _ _ hnm))),hG.hi,hm.1,hm.2,λS1 H6 hS1 g6 l6 => ?_⟩;have g56:=g5.trans g6;have S1D : S1≠D:=λe=>by rw [e,g5 _ _ lD] at hS1; cases hS1
  have S1L : S1≠L:=λe=>by rw [e,g5 _ _ lL] at hS1; cases hS1
  have fin : ∀ (t : Addr) (H7 : Hp) (ys : List V),Same H6 H7 -> t≠D -> t≠L -> Row H7 (.ref t) (some ys) -> ys.Perm (zCG xs ns[i]) ->
    (vs'.map V.ref).length + 1 <= sizeLine/\∀ v6 v7 v8 : Option V,∃ (v6' v7' v8' : Option V) (vs'' : List Addr),[some (V.ref nm),some (.ref M),some (.int at'),some (.ref D),some (.int (k : Nat)),some (.ref L),v6,v7,v8] = [some (V.ref nm),some (.ref M),some (.int at'),some (.ref D),some (.int (k : Nat)),some (.ref L),v6',v7',v8']/\Same H (upd H7 D (.lst (vs'.map V.ref++[.ref t])))/\(upd H7 D (.lst (vs'.map V.ref++[.ref t]))) L = some (.lst (IV ns))/\(upd H7 D (.lst (vs'.map V.ref++[.ref t]))) D = some (.lst (vs''.map V.ref))/\vs''.length = i + 1/\(∀ v∈vs'',v≠D)/\∀ (j : Nat) v m,vs''[j]? = some v -> ns[j]? = some m -> ∃ ys,Row (upd H7 D (.lst (vs'.map V.ref++[.ref t]))) (.ref v) (some ys)/\ys.Perm (zCG xs m):=λt H7 ys g7 tD tL rt pt=>by
   have g57:=g56.trans g7
   have kp : ∀ {v : Addr} {zs : List V},v≠D -> Row H7 (.ref v) (some zs) -> Row (upd H7 D (.lst (vs'.map V.ref++[.ref t]))) (.ref v) (some zs):=λ{v zs} nv rv=>by
    generalize hw : V.ref v = u at rv
    cases rv with
    | lst r'=>cases hw; exact .lst (by rw [zA7 nv]; exact r')
    | tup r'=>cases hw; exact .tup (by rw [zA7 nv]; exact r')
    | _=>cases hw
   refine ⟨by rw [yAC]; lia,λv6 v7 v8=>⟨_,_,_,vs'++[t],rfl,λc o hc => ?_,?_,?_,by rw [yAU,lv]; rfl,λv hv => ?_,λj v m hj hmj => ?_⟩⟩
   ·rw [zA7 (zA6 hc hD)]; exact g57 _ _ (g _ _ hc)
   ·rw [zA7 DL.symm]; exact g57 _ _ lL
   ·rw [zA1,yAa]; rfl
   ·rcases yAm.mp hv with z | z
    ·exact nD v z
    ·rw [yAJ.mp z]; exact tD
   ·rcases yBs j i with c | c
    ·rw [yBF (by lia)] at hj
     obtain ⟨zs,rz,pz⟩:=rows j v m hj hmj;exact ⟨zs,kp (nD v (yAn hj)) (rz.same g57),pz⟩
    ·have ej : j = i:=by
      have:=(yAE.mp hj).1
      rw [yAU,lv] at this
      simp at this
      lia
     subst ej;rw [yBC (by lia),lv,yDW] at hj
     cases hj
     rw [yAB hi] at hmj
     cases hmj
     exact ⟨ys,kp tD rt,pt⟩
  refine ⟨_,rfl,_,rfl,_,_,rfl,rfl,_,_,rfl,rfl,(by show (0 : Int) < 2; decide),rfl,_,rfl,?_⟩;rw [zNE];refine zEN (λe1 => ?_) (λe1 => ?_)
  case' refine_1 =>
   refine ⟨_,rfl,S1,_,rfl,SqL.of l6,λR hR => ?_⟩;have g7:=same_new hR (.lst (zCG xs ns[i]).reverse);have c7 : (upd H6 R (.lst (zCG xs ns[i]).reverse)) R = some (.lst (zCG xs ns[i]).reverse):=zA1;have RD : R≠D:=λe=>by rw [e,g56 _ _ lD] at hR; cases hR
   have RL : R≠L:=λe=>by rw [e,g56 _ _ lL] at hR; cases hR
   have pR : (zCG xs ns[i]).reverse.Perm (zCG xs ns[i]):=yEC _;generalize (zCG xs ns[i]).reverse = ys at g7 c7 pR ⊢;generalize upd H6 R (.lst ys) = H7 at g7 c7 ⊢
  case' refine_2 =>
   refine ⟨_,rfl,?_⟩;have g7:=Same.refl H6;have c7:=l6;have RD:=S1D;have RL:=S1L;have pR:=List.Perm.refl (zCG xs ns[i]);generalize hys : zCG xs ns[i] = ys at c7;rw [hys] at pR;have pR : ys.Perm (zCG xs ns[i]):=by rw [hys]
   clear hys;revert g7 c7;generalize hH : H6 = H7;intro g7 c7;have g7 : Same H6 H7:=by rw [hH]; exact Same.refl _
   clear hH;revert RD RL c7;generalize S1 = R;intro RD RL c7
  all_goals
   have lD7:=g7 _ _ (g56 _ _ lD);refine ⟨_,rfl,.inl ⟨rfl,_,SqL.of lD7⟩,_,rfl,_,rfl,_,_,rfl,rfl,_,_,rfl,rfl,(by show (0 : Int) < 3; decide),rfl,_,rfl,?_⟩;rw [zNE];refine zEN (λe2 => ?_) (λe2 => ?_)
   ·refine ⟨_,rfl,R,ys,rfl,.inl ⟨SqL.of c7,λt ht => ?_⟩⟩
    have g8:=same_new ht (.tup ys);have tD : t≠D:=λe=>by rw [e,lD7] at ht; cases ht
    have tL : t≠L:=λe=>by rw [e,g7 _ _ (g56 _ _ lL)] at ht; cases ht
    obtain ⟨f1,f2⟩:=fin t _ ys (g7.trans g8) tD tL (.tup zA1) pR;exact ⟨D,_,_,rfl,rfl,g8 _ _ lD7,f1,f2 _ _ _⟩
   ·obtain ⟨f1,f2⟩:=fin R _ ys g7 RD RL (.lst c7) pR
    exact ⟨_,rfl,D,_,_,rfl,rfl,lD7,f1,f2 _ _ _⟩
 ·obtain ⟨v6,v7,v8,vs',rfl,g,lL,lD,lv,nD,rows⟩:=hP
  rw [lI] at lv;exact ⟨_,rfl,q D H' vs' ns hD g lD pT ⟨lv,λ_ _=>rfl,rows⟩⟩
theorem InB.get {fs sizes : List Int} (h : InB fs sizes) {j : Nat} {s : Int} (hs : sizes[j]? = some s) : ∃ f,fs[j]? = some f/\atI (IV fs) (j : Int) = some (.int f)/\0 <= f/\f < s:=by
 have hj : j < fs.length:=by rw [h.1]; exact (yAE.mp hs).1
 refine ⟨fs[j],yAB hj,zGR hj,h.2 j _ s (yAB hj) hs⟩
noncomputable def zGE : List Int:=[8,6,8,17,16,8,8,65536,65536,65536,65536,65536,65536,65536,65536,65536]
noncomputable def zKP : Sp:=λvs H Q _=>∃ c,vs = [.int c]/\∀ t nm M xs ms H',H t = none -> H nm = none -> H M = none -> Same H H' -> H' t = some (.tup [.ref nm,.ref M]) -> H' nm = some (.lst xs) -> zHL (some xs) = true -> xs.length <= 8 -> H' M = some (.lst (IV ms)) -> MsOk xs.length ms -> ms.length <= 256 -> Q (.ref t) H'
theorem scFWorld : FnScope ["_law_cell","_law_draws","_law_many"] ["_law_cell"] (zA8 zDL):=by trivial
set_option maxHeartbeats 4000000 in
theorem zPZ {f a1 a2 a3 : Addr} {fd d1 d2 d3 : FuncData} (F : Fun K "_law_world" "_law_world" zDL f fd) (T : Txt mg) (D1 : Def P w K mg base 1 "_law_drawn" ["_law_cell","_law_sizes"] (zF0 K) a1 d1)
  (D2 : Def P w K mg base 1 "_law_names" ["_law_at","_law_step","_law_many"] zGZ a2 d2) (D3 : Def P w K mg base 2 "_law_masks" ["_law_draws","_law_many"] (zL9 K) a3 d3) : FnOk P w K mg base CX0 3 f fd ["_law_cell"] zKP:=by
 refine F.okH scFWorld (λvs H Q E h => ?_) (λcdv A outer s H vs Q E hr h => ?_)
 ·obtain ⟨c,rfl,_⟩:=h
  rfl
 obtain ⟨c,rfl,q⟩:=h;have hr1 : Room 1 _:=hr.mono (by decide)
 refine ⟨_,zL6 (PS1.mk (zAB (i:=1) scFWorld.nd rfl (Or.inl rfl) (zAA D1.ok hr1 rfl D1.m D1.k D1.b .nil zAF (zA0 (pv 0) (zA0 (zA9 zIY (zBK (zUS [.int 8,.int 6,.int 8,.int 17,.int 16,.int 8,.int 8])) (zA9 zKO (zBK (zA0 zA4 zA3)) zA4)) zA3)))))
  (zL6 (PS1.mk (zAB (i:=2) scFWorld.nd rfl (Or.inl rfl) (zA9 zAX zA4 (zBH zAR (zBK (zA0 (zBH zAR (pv 1) zA4 (λ_ _=>rfl)) (zA0 (zBH zAR (pv 1) zA4 (λ_ _=>rfl)) zA3))) (zB0 zI1 rfl T.int yEP (zA0 (zD0 zD4 (zBH zAR (pv 1) zA4 (λ_ _=>rfl)) zA4 (zAO _)) zA3)) (λ_ _=>rfl)))))
  (zRT (PS1.mk (zAE (zEQ (zA0 (zAA D2.ok hr1 rfl D2.m D2.k D2.b .nil zAF (zA0 (zBH zAR (pv 1) zA4 (λ_ _=>rfl)) (zA0 (zBH zAR (pv 1) zA4 (λ_ _=>rfl)) (zA0 (pv 2) zA3)))) (zA0 (zAA D3.ok hr rfl D3.m D3.k D3.b .nil zAF (zA0 (zAJ zAT (pv 1) (zAL zA4) zAN) (zA0 (pv 2) zA3))) zA3))))))),?_⟩
 have s1000 : 100000 <= sizeLine:=by decide
 refine ⟨_,rfl,(by show 7 <= sizeLine; decide),λl1 hl1 => ?_⟩;obtain ⟨H1,g1,c1,e0⟩:=zB4 hl1 (.lst [.int 8,.int 6,.int 8,.int 17,.int 16,.int 8,.int 8]);rw [e0];clear e0;refine ⟨(by show 1 <= sizeLine; decide),λl2 hl2 => ?_⟩;obtain ⟨H2,g2,c2,e0⟩:=zB4 hl2 (.lst [.int 65536]);rw [e0];clear e0;refine ⟨l2,9,_,rfl,rfl,c2,by decide,by decide,(by show 9 <= sizeLine; decide),λl3 hl3 => ?_⟩;obtain ⟨H3,g3,c3,e0⟩:=zB4 hl3 (.lst (List.replicate (9 : Int).toNat [V.int 65536]).flatten);rw [e0];clear e0;refine ⟨_,_,_,_,rfl,rfl,(g2.trans g3) _ _ c1,c3,(by show 16 <= sizeLine; decide),λl4 hl4 => ?_⟩;have g4:=same_new hl4 (.lst (IV zGE));have c4 : (upd H3 l4 (.lst (IV zGE))) l4 = some (.lst (IV zGE)):=zA1;refine ⟨c,l4,zGE,rfl,c4,by decide,by decide +kernel,λD H5 fs hD5 g5 l5 hB => ?_⟩;have gA:=(((g1.trans g2).trans g3).trans g4).trans g5;have lf : fs.length = 16:=hB.1;clear g1 g2 g3 g4 g5 c1 c2 c3 c4;obtain ⟨f0,_,a0,_,_⟩:=hB.get (j:=0) rfl;obtain ⟨f1,_,a1',p1,q1⟩:=hB.get (j:=1) rfl;obtain ⟨f2,_,a2',p2,q2⟩:=hB.get (j:=2) rfl;obtain ⟨f3,_,a3',p3,q3⟩:=hB.get (j:=3) rfl;obtain ⟨f4,_,a4',p4,q4⟩:=hB.get (j:=4) rfl;refine ⟨_,rfl,D,_,_,_,rfl,rfl,SqL.of l5,a1',_,rfl,D,_,_,_,rfl,rfl,SqL.of l5,a2',(by show 2 <= sizeLine; decide),λl6 hl6 => ?_⟩;obtain ⟨H6,g6,c6,e0⟩:=zB4 hl6 (.lst [.int f1,.int f2]);rw [e0];clear e0;have l6':=g6 _ _ l5;refine ⟨_,rfl,D,_,_,_,rfl,rfl,SqL.of l6',a0,rfl,.inr ⟨_,rfl,?_⟩⟩
 obtain ⟨n,hn,n0,n1⟩ : ∃ n : Int,atI [V.int f1,.int f2] (if decide (V.int f0 = V.int 0) = true then 1 else 0) = some (.int n)/\0 <= n/\n < 8:=by
  by_cases h : decide (V.int f0 = V.int 0) = true
  ·rw [yAK h]; exact ⟨f2,rfl,p2,q2⟩
  ·rw [yAN h]; exact ⟨f1,rfl,p1,by lia⟩
 refine ⟨l6,_,_,_,rfl,rfl,SqL.of c6,hn,_,_,rfl,rfl,?_⟩;obtain ⟨m,em⟩ : ∃ m : Nat,1 + n = m:=⟨(1 + n).toNat,by lia⟩;dsimp only;rw [em];have gB:=gA.trans g6;refine ⟨_,rfl,D,_,_,_,rfl,rfl,SqL.of l6',a3',_,rfl,D,_,_,_,rfl,rfl,SqL.of l6',a4',_,rfl,f3,f4,_,rfl,p3,q3,p4,q4,by lia,by lia,λnm H7 xs hnm g7 l7 xl are => ?_⟩;have l7':=g7 _ _ l6';refine ⟨_,rfl,_,rfl,D,_,rfl,SqL.of l7',λl8 hl8 => ?_⟩
 have ec : zFZ (IV fs) (some 5) none = IV (fs.drop 5):=by
  have h:=zIL (xs:=IV fs) (i:=5) (by unfold IV; rw [yAC,lf]; decide);rw [show ((5 : Nat) : Int) = 5 from rfl] at h;rw [h]; unfold IV; rw [List.map_drop]
 rw [ec];obtain ⟨H8,g8,c8,e0⟩:=zB4 hl8 (.lst (IV (fs.drop 5)));rw [e0];clear e0;have exm : xs.length = m:=by exact_mod_cast xl
 have ds : (fs.drop 5).length = 11:=by rw [yCg,lf]
 have d0 : ∀ d∈fs.drop 5,0 <= d:=λd hd=>by
  obtain ⟨j,hj⟩:=yAi (List.mem_of_mem_drop hd);have hj16 : j < 16:=by have:=(yAE.mp hj).1; lia
  have hs : zGE[j]? = some (zGE[j]'hj16):=yAB hj16;exact (hB.2 j d _ hj hs).1
 refine ⟨_,rfl,l8,m,fs.drop 5,rfl,c8,by lia,by lia,d0,by lia,by lia,λM H9 ms hM g9 l9 okm lm=>⟨(by show 2 <= sizeLine; decide),λt ht => ?_⟩⟩;have gt:=same_new ht (.tup [.ref nm,.ref M]);have g89:=(g8.trans g9).trans gt;have g79:=g7.trans g89;refine q t nm M xs ms _ (gB.free (g7.free ((g8.trans g9).free ht))) (gB.free hnm) (gB.free (g7.free (g8.free hM))) (gB.trans g79) zA1 (g89 _ _ l7) are (by lia) (gt _ _ l9) (by rw [exm]; exact okm) lm
end
end S
namespace L2
open PySem PySem.Spec PyProof.Rows
noncomputable def zXO (K : PySem.W.Frag) : V -> Option Int -> Option Int -> Hp -> VK -> Prop:=λx lo hi H Q=>zaC K x lo hi H Q \/ zYF K x lo hi H Q
theorem zWX {X : Cx} {K : PySem.W.Frag} (hK : X.K = K) : SlR X (zXO K):=by
 subst hK;intro pins s σ H x v vl vu lo hi sl Q I rx hs pl pu h
 rcases h with h | h
 ·exact zAT pins s σ H x v vl vu lo hi sl Q I rx hs pl pu h
 ·exact zW3 pins s σ H x v vl vu lo hi sl Q I rx hs pl pu h
end L2
namespace S
open PySem L2
theorem zQF (n : Nat) (f : Nat -> Bool) : (zDR n f).reverse = zDR n λm=>f (2 ^ n - 1 - m):=by
 have p0:=Nat.two_pow_pos n;refine yCt λi => ?_
 rcases yBs i (2 ^ n) with h | h
 ·rw [yEV (by rw [zBY]; exact h),zBY,zCB (show 2 ^ n - 1 - i < 2 ^ n by lia),zCB h]
 ·rw [yBU (by rw [yBn,zBY]; exact h),yBU (by rw [zBY]; exact h)]
noncomputable def zAZ (n : Nat) (ms : List Int) (m : Nat) : Bool:=zUT ms (2 ^ n - 1 - m)
noncomputable def zFI (CS C : Addr) : Sp:=λvs H Q _=>∃ p xs ms,vs = [.ref p]/\SysAt CS C H p xs ms/\Ord xs ms/\∀ D H',H D = none -> Same H H' -> H' D = some (.lst (zDR xs.length (zAZ xs.length ms))) -> Q (.ref D) H'
structure RowIx (H : Hp) (r : Addr) (xs ys : List V) (ix : List Nat) : Prop where
 row : H r = some (.lst ys) \/ H r = some (.tup ys)
 nd : ix.Nodup
 len : ys.length = ix.length
 at_ : ∀ (j k : Nat),ix[j]? = some k -> ∃ y,xs[k]? = some y/\ys[j]? = some y
theorem RowIx.same {H H' : Hp} {r : Addr} {xs ys : List V} {ix : List Nat} (g : Same H H') (h : RowIx H r xs ys ix) : RowIx H' r xs ys ix:=⟨h.row.imp (g _ _) (g _ _),h.nd,h.len,h.at_⟩
theorem RowIx.lot {H : Hp} {r : Addr} {xs ys : List V} {ix : List Nat} (h : RowIx H r xs ys ix) : zUJ H (.ref r) xs ((maskN ix : Nat) : Int):=⟨ix,⟨ys,h.row.elim .lst .tup,h.nd,h.len,h.at_⟩,rfl⟩
theorem RowIx.take {H : Hp} {r : Addr} {xs ys : List V} {ix : List Nat} (h : RowIx H r xs ys ix) (k : Nat) {r' : Addr} (e : H r' = some (.lst (ys.take k)) \/ H r' = some (.tup (ys.take k))) : RowIx H r' xs (ys.take k) (ix.take k):=by
 refine ⟨e,h.nd.sublist (yCW _ _),by rw [yAf,yAf,h.len],λj m hj => ?_⟩;rw [yBz] at hj
 by_cases c : j < k
 ·rw [yAK c] at hj
  obtain ⟨y,h1,h2⟩:=h.at_ j m hj;exact ⟨y,h1,by rw [yBz,yAK c]; exact h2⟩
 ·rw [yAN c] at hj; cases hj
theorem RowIx.lt {H : Hp} {r : Addr} {xs ys : List V} {ix : List Nat} (h : RowIx H r xs ys ix) : maskN ix < 2 ^ xs.length:=zHD _ ix rfl h.nd λk hk=>by
 obtain ⟨j,hj⟩:=yAi hk;obtain ⟨y,h1,_⟩:=h.at_ j k hj;exact (yAE.mp h1).1
noncomputable def FallRow (H H' : Hp) (xs : List V) (v : V) : Option Int -> Prop
 | none=>v = .non
 | some l=>∃ r,v = .ref r/\H r = none/\H' r = some (.lst (zCG xs l))
noncomputable def zGG (n : Nat) (ms : List Int) (m : Nat) : Option Int:=zJR (Builtin.bitXor (2 ^ n - 1) (m : Int)) ms
noncomputable def zF8 (CS C : Addr) : Sp:=λvs H Q _=>∃ p r xs ms ys ix,vs = [.ref p,.ref r]/\SysAt CS C H p xs ms/\Ord xs ms/\RowIx H r xs ys ix /\
 ∀ D H' rs,H D = none -> Same H H' -> H' D = some (.lst rs) -> rs.length = ys.length + 1 -> (∀ (k : Nat) v,rs[k]? = some v -> v ≠ .ref D/\FallRow H H' xs v (zGG xs.length ms (maskN (ix.take k)))) -> Q (.ref D) H'
noncomputable def zBB (xs : List V) (ms : List Int) (m : Nat) : List V:=((List.range xs.length).filter λk => !zAZ xs.length ms (m ||| 2 ^ k)).map λk=>xs.getD k .non
noncomputable def zJ4 (CS C : Addr) : Sp:=λvs H Q _=>∃ p r xs ms ys ix,vs = [.ref p,.ref r]/\SysAt CS C H p xs ms/\Ord xs ms/\RowIx H r xs ys ix/\zAZ xs.length ms (maskN ix) = true /\
 ∀ D H',H D = none -> Same H H' -> H' D = some (.lst (zBB xs ms (maskN ix))) -> Q (.ref D) H'
theorem ToldOne.fall {H : Hp} {Q : VK} {xs : List V} : ∀ {o : Option Int},(∀ v H',Same H H' -> FallRow H H' xs v o -> Q v H') -> ToldOne H Q xs o
 | none,h=>λH' g=>h _ H' g rfl
 | some _,h=>λD H' hD g l=>h _ H' g ⟨D,rfl,hD,l⟩
theorem FallRow.step {H0 H H' H2 : Hp} {D : Addr} {ys : List V} {xs : List V} {v : V} : ∀ {o : Option Int},FallRow H0 H xs v o -> v ≠ .ref D -> Same H H' -> H2 = upd H' D (.lst ys) -> FallRow H0 H2 xs v o
 | none,h,_,_,_=>h
 | some _,⟨r,e,h0,h1⟩,n,g,e2=>⟨r,e,h0,by
   have : r≠D:=λz=>n (by rw [e,z]);rw [e2,zA7 this]; exact g _ _ h1⟩
theorem zNP {K : PySem.W.Frag} {H1 : Hp} {r : Addr} {xs ys : List V} {ix : List Nat} {k : Nat} {Q : VK} (hR : RowIx H1 r xs ys ix) (hk : k <= ys.length) (q : ∀ r' H2,Same H1 H2 -> RowIx H2 r' xs (ys.take k) (ix.take k) -> Q (.ref r') H2) : zXO K (.ref r) none (some (k : Int)) H1 Q:=by
 have ct:=(zC7 ys hk).2
 rcases hR.row with h | h
 ·refine .inl ⟨r,ys,rfl,SqL.of h,λp hp => ?_⟩
  rw [ct];exact q p _ (same_new hp _) ((hR.same (same_new hp _)).take k (.inl zA1))
 ·refine .inr ⟨r,ys,rfl,SqT.of h,λc => ?_,λc p hp => ?_⟩
  ·have e : k = ys.length:=by
    have:=c.2
    unfold HT.sIx at this;have t : (if (k : Int) < 0 then ((k : Int) + (ys.length : Int)).toNat else min (k : Int).toNat ys.length) = ys.length:=this;rw [yAN (by lia)] at t;lia
   exact q r H1 (Same.refl _) (hR.take k (.inr (by rw [e,yCf]; exact h)))
  ·rw [ct]
   exact q p _ (same_new hp _) ((hR.same (same_new hp _)).take k (.inr zA1))
section
variable {P : Program} {w : World} {K : PySem.W.Frag} {mg : Str -> Option Value} {base : Heap}
theorem zQ1 : FnScope ["system"] ["system"] (zA8 zHJ):=by trivial
theorem zMU {f a1 CS C : Addr} {fd d1 : FuncData} (F : Fun K "leaving_table" "leaving_table" zHJ f fd) (clS : Cls K CS) (M1 : Meth K CS "table" a1) (O1 : FnOk P w K mg base CX0 2 a1 d1 ["self"] (zOI CS C)) (b1 : Binds K d1 ["self"] []) : FnOk P w K mg base CX0 3 f fd ["system"] (zFI CS C):=by
 refine F.ok zQ1 (λvs H Q E h => ?_) (λcdv A outer s H vs Q E hr h => ?_)
 ·obtain ⟨p,xs,ms,rfl,_⟩:=h
  rfl
 obtain ⟨p,xs,ms,rfl,hS,hO,q⟩:=h;obtain ⟨dx,_,_,hp,_⟩:=id hS;refine ⟨_,zA5 (zAE (zTH (p4:=⟨0,0,0,0⟩) (zDS (pv 0) clS M1 O1 hr b1 .nil zAF))),?_⟩;refine ⟨_,rfl,p,dx,_,rfl,hp,rfl,p,xs,ms,rfl,hS,hO,λD H1 hD g1 l1=>⟨D,_,rfl,SqL.of l1,λl hl => ?_⟩⟩;have g2:=same_new hl (.lst (zDR xs.length (zUT ms)).reverse);refine q l _ (g1.free hl) (g1.trans g2) ?_;rw [zA1,zQF];rfl
theorem zOZ : FnScope ["system","order"] ["system","order"] (zA8 zGX):=by trivial
set_option maxHeartbeats 2000000 in
theorem zLX {f a1 a2 CS C : Addr} {fd d1 d2 : FuncData} (F : Fun K "falling" "falling" zGX f fd) (T : Txt mg) (clS : Cls K CS) (nG : NoAttr K CS "ground") (cl : Cls K C) (M1 : Meth K C "mask" a1) (O1 : FnOk P w K mg base CX0 2 a1 d1 ["self","names"] (zGH C)) (b1 : Binds K d1 ["self","names"] [])
  (M2 : Meth K CS "standing" a2) (O2 : FnOk P w K mg base CX0 5 a2 d2 ["self","fallen"] (zGK CS C)) (b2 : Binds K d2 ["self","fallen"] []) : FnOk P w K mg base CX0 6 f fd ["system","order"] (zF8 CS C):=by
 refine F.ok zOZ (λvs H Q E h => ?_) (λcdv A outer s H vs Q E hr h => ?_)
 ·obtain ⟨p,r,xs,ms,ys,ix,rfl,_⟩:=h
  rfl
 obtain ⟨p,r,xs,ms,ys,ix,rfl,hS,hO,hR,q⟩:=h;have hr2 : Room 2 _:=hr.mono (by decide);obtain ⟨dx,gg,t,hp,hH,ht⟩:=id hS;obtain ⟨gx,t',d,h1,h2,h3⟩:=id hH
 refine ⟨_,zA2 (zBO (zCQ (zBW (pv 0) rfl) cl M1 O1 hr2 b1 .nil zAF (zA0 (pv 1) zA3)))
  (zA5 (zAE (zB8 (xs:=["many"]) (fv:=[("order",1),("system",0)]) rfl (by decide +kernel) ⟨⟨rfl,Or.inl rfl,rfl⟩,⟨rfl,Or.inl rfl,rfl⟩,trivial⟩ (zB5 rfl T.range (zA0 (zA9 zAX (zAC zAH rfl T.len yBH (zA0 (pv 1) zA3)) zA4) zA3)) (λ_ _ _ _ _=>zAD (i:=0) (ndT (by decide +kernel)) rfl (Or.inl rfl)) (λ_ _ _ _ _=>zCH)
   (λ_ _ _ _ _=>zCQ (pv 2) clS M2 O2 hr b2 .nil zAF (zA0 (zAJ (zWX (K:=K) rfl) (pv 1) zAN (zAL (pv 0))) zA3))))),?_⟩
 have s1000 : 100000 <= sizeLine:=by decide
 have hG:=hO.gn;have hhi:=hG.hi;have sq : ∀ {H' : Hp},Same H H' -> SqL K H' r ys \/ SqT K H' r ys:=λg=>hR.row.elim (λh => .inl (SqL.of (g _ _ h))) (λh => .inr (SqT.of (g _ _ h)))
 have ly : ys.length <= 12:=by
  have h1:=hR.lt
  have hs : ix ⊆ List.range xs.length:=λk hk=>by
   obtain ⟨j,hj⟩:=yAi hk;obtain ⟨y,h1,_⟩:=hR.at_ j k hj;exact yBL.mpr (yAE.mp h1).1
  have p : ix.Perm ((List.range xs.length).filter λk=>decide (k∈ix)):=(yCM hR.nd (List.nodup_range.sublist yCK)).mpr λk=>by
   rw [yBx,yAT];exact ⟨λh=>⟨hs h,h⟩,λh=>h.2⟩
  have l1:=p.length_eq;have l2:=yBc (λk=>decide (k∈ix)) (List.range xs.length);rw [yAw] at l2
  have:=hR.len
  lia
 refine ⟨_,rfl,p,CS,dx,_,_,rfl,hp,clS,nG,rfl,gg,gx,_,rfl,h1,rfl,_,rfl,gg,xs,.ref r,ys,ix,rfl,hH,hG.str,hG.nd,hhi,hR.row.elim .lst .tup,hR.nd,hR.len,hR.at_,λH1 g1 => ?_⟩;refine ⟨_,rfl,r,ys,rfl,sq g1,_,_,rfl,rfl,_,rfl,by lia,by lia,?_⟩;rw [show (((ys.length : Nat) : Int) + 1).toNat = ys.length + 1 by lia];refine zCN (λi D H'=>Same H1 H'/\∃ rs : List V,H' D = some (.lst rs)/\rs.length = i/\∀ (k : Nat) v,rs[k]? = some v -> v ≠ .ref D/\FallRow H1 H' xs v (zGG xs.length ms (maskN (ix.take k)))) (λD hD=>⟨same_new hD _,[],zA1,rfl,λk v h=>by simp at h⟩) (λi D H' hD hi hP => ?_) (λD H' hD hP => ?_)
 ·obtain ⟨g,rs,lD,lr,rows⟩:=hP
  refine ⟨rfl,?_⟩;unfold zKA
  (try dsimp only)
  rw [yAK rfl];have gH:=g1.trans g;refine ⟨_,rfl,p,dx,_,rfl,gH _ _ hp,rfl,_,rfl,_,rfl,_,rfl,?_⟩;rw [yDs];refine zNP (hR.same gH) (by lia) λr' H2 g2 R' => ?_;have gH2:=gH.trans g2;refine ⟨p,.ref r',xs,ms,((maskN (ix.take i) : Nat) : Int),rfl,hS.same gH2,hO,R'.lot,by lia,by exact_mod_cast R'.lt,ToldOne.fall λv H3 g3 fr => ?_⟩;have g23:=g2.trans g3
  have vD : v ≠ .ref D:=λe=>by
   cases ho : zJR (Builtin.bitXor (2 ^ xs.length - 1) ((maskN (ix.take i) : Nat) : Int)) ms with
   | none =>
    rw [ho] at fr;rw [fr] at e; cases e
   | some l =>
    rw [ho] at fr;obtain ⟨r2,e2,h0,_⟩:=fr;rw [e2] at e
    cases e
    rw [g2 _ _ lD] at h0; cases h0
  refine ⟨_,g23 _ _ lD,by lia,λc o hc => ?_,rs++[v],zA1,by rw [yAU,lr]; rfl,λk u hk => ?_⟩
  ·rw [zA7 (zA6 hc hD)]; exact g23 _ _ (g _ _ hc)
  ·rcases yBs k i with c | c
   ·rw [yBF (by lia)] at hk
    obtain ⟨n,f⟩:=rows k u hk;exact ⟨n,f.step n g23 rfl⟩
   ·have ek : k = i:=by
     have:=(yAE.mp hk).1
     rw [yAU,lr] at this
     simp at this
     lia
    subst ek;rw [yBC (by lia),lr,yDW] at hk
    cases hk
    refine ⟨vD,?_⟩
    have f2 : FallRow H1 H3 xs v (zGG xs.length ms (maskN (ix.take k))):=by
     show FallRow H1 H3 xs v (zJR (Builtin.bitXor (2 ^ xs.length - 1) ((maskN (ix.take k) : Nat) : Int)) ms);revert fr
     cases zJR (Builtin.bitXor (2 ^ xs.length - 1) ((maskN (ix.take k) : Nat) : Int)) ms with
     | none=>exact id
     | some l=>exact λ⟨r2,e,h0,h1⟩=>⟨r2,e,g.free (g2.free h0),h1⟩
    exact f2.step vD (Same.refl _) rfl
 ·obtain ⟨g,rs,lD,lr,rows⟩:=hP
  refine q D H' rs (g1.free hD) (g1.trans g) lD lr λk v hk => ?_;obtain ⟨n,f⟩:=rows k v hk;refine ⟨n,?_⟩;revert f
  cases zGG xs.length ms (maskN (ix.take k)) with
  | none=>exact id
  | some l=>exact λ⟨r2,e,h0,h1⟩=>⟨r2,e,g1.free h0,h1⟩
structure DefE (P : Program) (w : World) (K : PySem.W.Frag) (mg : Str -> Option Value) (base : Heap) (k : Nat) (x : Str) (ps : List Str) (sp : Sp) (g : Addr) (gd : FuncData) : Prop where
 ok : FnOk P w K mg base (CXE P w) k g gd ps sp
 b : Binds K gd ps []
 k : PySem.W.keepIn K (.ref g) = true
 m : mg x = some (.ref g)
structure ErK (P : Program) (w : World) (K : PySem.W.Frag) (mg : Str -> Option Value) (base : Heap) (x fld : Str) (C : Addr) : Prop where
 ex : ∃ f bm fd,ErrC K C f bm/\FnOk P w K mg base CX0 2 f fd ["self",fld] (zND C fld)/\Binds K fd ["self",fld] []
 m : mg x = some (.ref C)
 nf : PySem.W.findIn K (.ref C) fld = some none
noncomputable def zE6 (xs : List V) (ms : List Int) (m i : Nat) : List V:=((List.range i).filter λk => !zAZ xs.length ms (m ||| 2 ^ k)).map λk=>xs.getD k .non
theorem zET (xs : List V) (ms : List Int) (m i : Nat) : zE6 xs ms m (i + 1) = zE6 xs ms m i++if zAZ xs.length ms (m ||| 2 ^ i) = true then [] else [xs.getD i .non]:=by
 unfold zE6;rw [yDK,yDO,yAa]
 congr 1
 rw [List.filter_cons]
 cases zAZ xs.length ms (m ||| 2 ^ i) <;> rfl
theorem zJI (xs : List V) (ms : List Int) (m i : Nat) : (zE6 xs ms m i).length <= i:=by
 unfold zE6;rw [yAC];exact yAz (yBc _ _) (Nat.le_of_eq yAw)
noncomputable def zUF (H : Hp) (E : XK) (C : Addr) : Prop:=∀ dx H',Same H H' -> H dx = none -> H' dx = some (.xd [("kind",.str "lots")]) -> E (.ref C) (some dx) H'
noncomputable def zKF (CS C Cn : Addr) : Sp:=λvs H _ E=>∃ p r xs ms ys ix,vs = [.ref p,.ref r]/\SysAt CS C H p xs ms/\Ord xs ms/\RowIx H r xs ys ix/\zAZ xs.length ms (maskN ix) = false/\zUF H E Cn
theorem zYW : FnScope ["self","kind"] ["self","kind"] (zA8 zC3):=by trivial
theorem zXL {f C CM fM : Addr} {bm : List Value} {fd fdM : FuncData} (F : Fun K "__init__" "NoneStands.__init__" zC3 f fd) (ec : ErrC K C f bm) (nf : PySem.W.findIn K (.ref C) "kind" = some none) (cf : ClsFn K CM fM) (OM : FnOk P w K mg base CX0 1 fM fdM ["self","text"] (zSZ K)) (bM : Binds K fdM ["self","text"] []) (mM : mg "MeetError" = some (.ref CM)) :
  FnOk P w K mg base CX0 2 f fd ["self","kind"] (zND C "kind"):=by
 refine F.ok zYW (λvs H Q E h => ?_) (λcdv A outer s H vs Q E hr h => ?_)
 ·obtain ⟨e,v,rfl,_⟩:=h
  rfl
 obtain ⟨e,v,rfl,hH,q⟩:=h;refine ⟨_,zA2 (zBO (zSB cf OM hr bM zAF rfl mM (zA0 (pv 0) (zA0 zDT zA3)))) (zA5 (zU7 (pv 0) (pv 1) rfl)),?_⟩;refine ⟨_,rfl,e,C,_,f,bm,rfl,ec,hH,?_⟩;exact ⟨_,rfl,_,rfl,e,C,f,bm,rfl,ec,nf,hH,λdx hdx ne=>q dx hdx ne⟩
theorem zVW : FnScope ["self","text"] ["self","text"] (zA8 zCI):=by trivial
theorem zSJ {f : Addr} {fd : FuncData} (F : Fun K "__init__" "MeetError.__init__" zCI f fd) (mv : mg "ValueError" = none) : FnOk P w K mg base CX0 1 f fd ["self","text"] (zSZ K):=by
 refine F.ok zVW (λvs H Q E h => ?_) (λcdv A outer s H vs Q E hr h => ?_)
 ·obtain ⟨e,C,u,f,bm,rfl,_⟩:=h
  rfl
 obtain ⟨e,C,u,f,bm,rfl,ec,hH,q⟩:=h;refine ⟨_,zA5 (zBO (zSE rfl mv (zA0 (pv 0) (zA0 (pv 1) zA3)))),?_⟩;exact ⟨_,rfl,_,rfl,e,C,u,f,bm,rfl,ec,hH,q⟩
theorem scHopes : FnScope ["system","fallen","down","leaves"] ["system","fallen"] (zA8 zLI):=by trivial
set_option maxHeartbeats 2000000 in
theorem zR1 {f a1 a2 a3 CS C : Addr} {fd d1 d2 d3 : FuncData} (F : Fun K "last_hopes" "last_hopes" zLI f fd) (me : mg "enumerate" = none) (clS : Cls K CS) (nG : NoAttr K CS "ground") (cl : Cls K C) (M1 : Meth K C "mask" a1) (O1 : FnOk P w K mg base CX0 2 a1 d1 ["self","names"] (zGH C)) (b1 : Binds K d1 ["self","names"] [])
  (D2 : Def P w K mg base 3 "leaving_table" ["system"] (zFI CS C) a2 d2) (M3 : Meth K CS "houses" a3) (O3 : FnOk P w K mg base CX0 2 a3 d3 ["self"] (zIV CS C)) (b3 : Binds K d3 ["self"] []) : FnOk P w K mg base CX0 4 f fd ["system","fallen"] (zJ4 CS C):=by
 refine F.ok scHopes (λvs H Q E h => ?_) (λcdv A outer s H vs Q E hr h => ?_)
 ·obtain ⟨p,r,xs,ms,ys,ix,rfl,_⟩:=h
  rfl
 obtain ⟨p,r,xs,ms,ys,ix,rfl,hS,hO,hR,hl,q⟩:=h;have hr2 : Room 2 _:=hr.mono (by decide);obtain ⟨dx,gg,t,hp,hH,ht⟩:=id hS;obtain ⟨gx,t',d,h1,h2,h3⟩:=id hH;have hG:=hO.gn;have hhi:=hG.hi;have s1000 : 1000 < sizeLine:=by decide
 have mlt:=hR.lt
 refine ⟨_,zA2 (zAB (i:=2) scHopes.nd rfl (Or.inr rfl) (zCQ (zBW (pv 0) rfl) cl M1 O1 hr2 b1 .nil zAF (zA0 (pv 1) zA3)))
  (zA2 (zAB (i:=3) scHopes.nd rfl (Or.inr rfl) (zAA D2.ok hr rfl D2.m D2.k D2.b .nil zAF (zA0 (pv 0) zA3)))
  (zA2 (zBA (zBS (zBU (zBH zAR (pv 3) (pv 2) (λ_ _=>rfl)))) zAP zAG)
  (zA5 (zAE (zB8 (xs:=["number","name"]) (fv:=[("down",2),("leaves",3)]) rfl (by decide +kernel) ⟨⟨rfl,Or.inl rfl,rfl⟩,⟨rfl,Or.inl rfl,rfl⟩,trivial⟩ (zE2 rfl me (zA0 (zDS (pv 0) clS M3 O3 hr2 b3 .nil zAF) zA3))
   (λ_ _ _ _ _=>zHF (K:=K) (n:=2) rfl rfl (zBD (zAD (i:=0) (ndT (by decide +kernel)) rfl (Or.inl rfl)) (zBD (zAD (i:=1) (ndT (by decide +kernel)) rfl (Or.inl rfl)) zEG)))
   (λ_ _ _ _ _=>zFL (zBS (zBU (zBH (zKY (K:=K) rfl) (pv 3) (zA9 zTY (pv 2) (zA9 zCM zA4 (pv 0))) (λ_ _=>rfl))))) (λ_ _ _ _ _=>pv 1)))))),?_⟩
 refine ⟨_,rfl,p,CS,dx,_,_,rfl,hp,clS,nG,rfl,gg,gx,_,rfl,h1,rfl,_,rfl,gg,xs,.ref r,ys,ix,rfl,hH,hG.str,hG.nd,hhi,hR.row.elim .lst .tup,hR.nd,hR.len,hR.at_,λH1 g1 => ?_⟩;refine ⟨_,rfl,p,xs,ms,rfl,hS.same g1,hO,λL H2 hL g2 l2 => ?_⟩;refine ⟨_,rfl,_,rfl,L,_,_,_,rfl,rfl,SqL.of l2,zD5 (zCB mlt),_,rfl,?_⟩;rw [hl];refine zCW ?_;have g12:=g1.trans g2;refine ⟨_,rfl,p,dx,_,rfl,g12 _ _ hp,rfl,p,xs,ms,rfl,hS.same g12,λA hA => ?_⟩;obtain ⟨H3,g3,cA,e0⟩:=zB4 hA (.lst xs);rw [e0];clear e0;have g13:=g12.trans g3;have l3:=g3 _ _ l2;refine ⟨A,rfl,?_⟩;refine zFM (ys:=xs) (.inl (SqL.of cA)) (λi D H'=>Same H3 H'/\H' D = some (.lst (zE6 xs ms (maskN ix) i))) (λD hD=>⟨same_new hD _,zA1⟩) (λi D H' hD hP=>hP.1.at1 A) (λi D H' x r' hD hi hx hP hr' => ?_) (λD H' hD hP => ?_)
 ·obtain ⟨g,hl'⟩:=hP
  have g4:=same_new hr' (.tup [.int (i : Nat),x]);have c4 : (upd H' r' (.tup [.int (i : Nat),x])) r' = some (.tup [.int (i : Nat),x]):=zA1;generalize upd H' r' (.tup [.int (i : Nat),x]) = H4 at g4 c4 ⊢;have olt : maskN ix ||| 2 ^ i < 2 ^ xs.length:=Nat.or_lt_two_pow mlt (Nat.pow_lt_pow_right (by decide) hi);refine ⟨r',_,rfl,SqT.of c4,rfl,_,_,rfl,_,_,rfl,rfl,rfl,_,rfl,_,rfl,_,rfl,_,_,rfl,rfl,⟨by show (0 : Int) <= ((i : Nat) : Int); lia,by show ((i : Nat) : Int) <= 1000000; lia,by decide⟩,_,_,rfl,rfl,?_⟩
  have eo : Builtin.bitOr ((maskN ix : Nat) : Int) ((1 : Int) * 2 ^ ((i : Nat) : Int).toNat) = ((maskN ix ||| 2 ^ i : Nat) : Int):=by
   rw [yCS,yAS,show (2 : Int) ^ i = ((2 ^ i : Nat) : Int) by push_cast; rfl,zPK]
  refine ⟨L,_,_,_,rfl,rfl,SqL.of (g4 _ _ (g _ _ l3)),by rw [eo]; exact zD5 (zCB olt),_,rfl,?_⟩;have hz:=zJI xs ms (maskN ix) i;refine zEN (λc => ?_) (λc => ?_)
  ·have c' : zAZ xs.length ms (maskN ix ||| 2 ^ i) = false:=by simpa using c
   refine ⟨_,rfl,_,g4 _ _ hl',by lia,λb o e => ?_,?_⟩
   ·rw [zA7 (zA6 e hD)]; exact g4 _ _ (g _ _ e)
   ·rw [zA1,zET,c']
    have : xs.getD i .non = x:=by rw [yAc,hx]; rfl
    rw [this]; rfl
  ·have c' : zAZ xs.length ms (maskN ix ||| 2 ^ i) = true:=by simpa using c
   refine ⟨g.trans g4,?_⟩;rw [zET,c',yAK rfl,yBq];exact g4 _ _ hl'
 ·obtain ⟨g,hl'⟩:=hP
  exact q D H' (g13.free hD) (g13.trans g) hl'
set_option maxHeartbeats 2000000 in
theorem zPW {f a1 a2 CS C Cn : Addr} {fd d1 d2 : FuncData} (F : Fun K "last_hopes" "last_hopes" zLI f fd) (clS : Cls K CS) (nG : NoAttr K CS "ground") (cl : Cls K C) (M1 : Meth K C "mask" a1) (O1 : FnOk P w K mg base CX0 2 a1 d1 ["self","names"] (zGH C)) (b1 : Binds K d1 ["self","names"] [])
  (D2 : Def P w K mg base 3 "leaving_table" ["system"] (zFI CS C) a2 d2) (er : ErK P w K mg base "NoneStands" "kind" Cn) : FnOk P w K mg base (CXE P w) 4 f fd ["system","fallen"] (zKF CS C Cn):=by
 obtain ⟨fI,bm,dI,ec,OI,bI⟩:=er.ex;refine F.okE scHopes (λvs H Q E h => ?_) (λcdv A outer s H vs Q E hr h => ?_)
 ·obtain ⟨p,r,xs,ms,ys,ix,rfl,_⟩:=h
  rfl
 obtain ⟨p,r,xs,ms,ys,ix,rfl,hS,hO,hR,hl,q⟩:=h;have hr2 : Room 2 _:=hr.mono (by decide);have hr3 : Room (2 + 1) _:=hr.mono (by decide);obtain ⟨dx,gg,t,hp,hH,ht⟩:=id hS;obtain ⟨gx,t',d,h1,h2,h3⟩:=id hH;have hG:=hO.gn;have hhi:=hG.hi;have mlt:=hR.lt
 refine ⟨_,zA2 (zAB (i:=2) scHopes.nd rfl (Or.inr rfl) (zCQ (zBW (pv 0) rfl) cl M1 O1 hr2 b1 .nil zAF (zA0 (pv 1) zA3)))
  (zA2 (zAB (i:=3) scHopes.nd rfl (Or.inr rfl) (zAA D2.ok hr rfl D2.m D2.k D2.b .nil zAF (zA0 (pv 0) zA3)))
  (zA2 (zBA (zBS (zBU (zBH zAR (pv 3) (pv 2) (λ_ _=>rfl)))) (zA5 (zP1 (E:=E) rfl ec OI hr3 bI rfl er.m zYA (zA0 zDT zA3))) zAG) zAP)),?_⟩
 refine ⟨_,rfl,p,CS,dx,_,_,rfl,hp,clS,nG,rfl,gg,gx,_,rfl,h1,rfl,_,rfl,gg,xs,.ref r,ys,ix,rfl,hH,hG.str,hG.nd,hhi,hR.row.elim .lst .tup,hR.nd,hR.len,hR.at_,λH1 g1 => ?_⟩;refine ⟨_,rfl,p,xs,ms,rfl,hS.same g1,hO,λL H2 hL g2 l2 => ?_⟩;refine ⟨_,rfl,_,rfl,L,_,_,_,rfl,rfl,SqL.of l2,zD5 (zCB mlt),_,rfl,?_⟩;rw [hl];refine zIF ⟨_,rfl,?_⟩;have g12:=g1.trans g2;exact λdx' hd=>q dx' _ (g12.trans (same_new hd _)) (g12.free hd) zA1
theorem zS5 {ys : List V} {v : V} (hy : ∀ y∈ys,y = kV (.inr (zB3 y))) (hv : v = kV (.inr (zB3 v))) : inV v ys = decide (v∈ys):=by
 unfold inV;rw [yAr,yCC,yAT]
 constructor
 ·rintro ⟨y,h1,h2⟩
  have e:=hy y h1;rw [hv,e] at h2;have : zB3 y = zB3 v:=by simpa [eqV,kV] using h2
  rw [hv,<- this,<- e]; exact h1
 ·intro h
  refine ⟨v,h,?_⟩;rw [hv]
  simp [eqV,kV]
theorem zFV {α : Type} : ∀ (l : List α) (i : Nat) (h : i < l.length),(l[i]::l.eraseIdx i).Perm l
 | a::r,0,_ => .refl _
 | a::r,i + 1,h=>by
  have hr : i < r.length:=by simpa using h
  exact (List.Perm.swap a (r[i]'hr) _).trans ((zFV r i hr).cons a)
theorem zHW {α β : Type} (f : α -> β) : ∀ (l : List α) (i : Nat),(l.map f).eraseIdx i = (l.eraseIdx i).map f
 | [],_=>rfl
 | _::_,0=>rfl
 | _::r,i + 1=>congrArg (_ :: ·) (zHW f r i)
noncomputable def zLK : Sp:=λvs H Q _=>∃ nm A xs ds,vs = [.ref nm,.ref A]/\H nm = some (.lst xs)/\xs.length <= 8/\H A = some (.lst (IV ds))/\ds.length = 9/\(∀ d∈ds,0 <= d)/\∀ D H' ys ix,H D = none -> Same H H' -> H' D = some (.lst ys) -> RowIx H' D xs ys ix -> Q (.ref D) H'
theorem zL5 {H : Hp} {D : Addr} {xs : List V} {ix rest : List Nat} (pm : (ix++rest).Perm (List.range xs.length)) (e : H D = some (.lst (ix.map λk=>xs.getD k .non))) : RowIx H D xs (ix.map λk=>xs.getD k .non) ix:=by
 refine ⟨.inl e,(yDS.mp (pm.nodup_iff.mpr List.nodup_range)).1,by rw [yAC],λj k hj => ?_⟩;have hk : k < xs.length:=yBL.mp (pm.mem_iff.mp (yBa _ (yAn hj)));refine ⟨xs[k],yAB hk,?_⟩;rw [yAb,hj];show some (xs.getD k .non) = _;rw [yAc,yAB hk]; rfl
theorem RowIx.mem {H : Hp} {r : Addr} {xs ys : List V} {ix : List Nat} (h : RowIx H r xs ys ix) (nd : xs.Nodup) {k : Nat} {x : V} (hx : xs[k]? = some x) : x∈ys ↔ k∈ix:=by
 constructor
 ·intro hm
  obtain ⟨j,hj⟩:=yAi hm;have hlt : j < ix.length:=by rw [<- h.len]; exact (yAE.mp hj).1
  obtain ⟨y,h1,h2⟩:=h.at_ j ix[j] (yAB hlt);rw [hj] at h2
  cases h2
  obtain ⟨l1,e1⟩:=yAE.mp hx;obtain ⟨l2,e2⟩:=yAE.mp h1;have : k = ix[j]:=(yCh nd).mp (e1.trans e2.symm);rw [this];exact yBI _
 ·intro hk
  obtain ⟨j,hj⟩:=yAi hk;obtain ⟨y,h1,h2⟩:=h.at_ j k hj;rw [hx] at h1
  cases h1
  exact yAn h2
theorem RowIx.sub {H : Hp} {r : Addr} {xs ys : List V} {ix : List Nat} (h : RowIx H r xs ys ix) : ∀ y∈ys,y∈xs:=λy hy=>by
 obtain ⟨j,hj⟩:=yAi hy;have hlt : j < ix.length:=by rw [<- h.len]; exact (yAE.mp hj).1
 obtain ⟨y',h1,h2⟩:=h.at_ j ix[j] (yAB hlt);rw [hj] at h2
 cases h2
 exact yAn h1
theorem zKL : ∀ ns : List Nat,((ns.map λn=>((n : Nat) : Int)).sum) = ((ns.sum : Nat) : Int)
 | []=>rfl
 | n::ns=>by rw [yAp,yDe,yDe,zKL ns]; push_cast; rfl
theorem zS4 {ix : List Nat} (nd : ix.Nodup) {n : Nat} (lt : ∀ k∈ix,k < n) : (((List.range n).filter λk=>decide (k∈ix)).map (2 ^ ·)).sum = maskN ix:=by
 have p : ((List.range n).filter λk=>decide (k∈ix)).Perm ix:=(yCM (List.nodup_range.sublist yCK) nd).mpr λk=>by
  rw [yBx,yAT,yBL];exact ⟨λh=>h.2,λh=>⟨lt k h,h⟩⟩
 rw [<- zFF];exact zED p
noncomputable def zFJ : Sp:=λvs H Q _=>∃ nm r xs ys ix,vs = [.ref nm,.ref r]/\H nm = some (.lst xs)/\GN xs/\RowIx H r xs ys ix/\∀ H',Same H H' -> Q (.int ((maskN ix : Nat) : Int)) H'
theorem zX3 {X : Cx} {K : PySem.W.Frag} (hK : X.K = K) : OpR X (compareOp .In) (rIn K false):=by subst hK; exact zQ7
theorem scRowOf : FnScope ["_law_names_here","_law_draws","_law_left","_law_found","_law_k"] ["_law_names_here","_law_draws"] (zA8 zD1):=by trivial
set_option maxHeartbeats 2000000 in
theorem zNO {f : Addr} {fd : FuncData} (F : Fun K "_law_row_of" "_law_row_of" zD1 f fd) (T : Txt mg) : FnOk P w K mg base CX0 1 f fd ["_law_names_here","_law_draws"] zLK:=by
 refine F.ok scRowOf (λvs H Q E h => ?_) (λcdv A outer s H vs Q E hr h => ?_)
 ·obtain ⟨nm,A,xs,ds,rfl,_⟩:=h
  rfl
 obtain ⟨nm,A,xs,ds,rfl,hnm,h8,hA,d9,d0,q⟩:=h
 refine ⟨_,zA2 (zAB (i:=2) scRowOf.nd rfl (Or.inl rfl) (zB0 zCE rfl T.list yBB (zA0 (pv 0) zA3)))
  (zA2 (zAB (i:=3) scRowOf.nd rfl (Or.inl rfl) (zBK zA3))
  (zA2 (zBL PassesOwn.never rfl (zB5 rfl T.range (zA0 (zA9 zAY (zBH zAR (pv 1) zA4 (λ_ _=>rfl)) (zA9 zAX (zAC zAH rfl T.len yBH (zA0 (pv 0) zA3)) zA4)) zA3)) (zAD (i:=4) scRowOf.nd rfl (Or.inl rfl))
   (zA5 (zBO (zFA yBE yBS yBR zBC (pv 3) (zA0 (zFA yBE PySem.F.slot_list_pop PySem.F.type_list_pop zRU (pv 2) (zA0 (zA9 zAY (zBH zAR (pv 1) (zA9 zAX zA4 (pv 4)) (λ_ _=>rfl)) (zAC zAH rfl T.len yBH (zA0 (pv 2) zA3))) zA3)) zA3)))))
  (zA5 (zAE (pv 3))))),?_⟩
 refine ⟨_,rfl,nm,xs,rfl,.inl (SqL.of hnm),λl hl=>⟨(by show 0 <= sizeLine; decide),λfo hfo => ?_⟩⟩;have g1 : Same H (upd (upd H l (.lst xs)) fo (.lst [])):=(same_new hl _).trans (same_new hfo _);have fl : fo≠l:=λe=>by rw [e,zA1] at hfo; cases hfo
 have l1 : (upd (upd H l (.lst xs)) fo (.lst [])) l = some (.lst xs):=by rw [zA7 fl.symm,zA1]
 have f1 : (upd (upd H l (.lst xs)) fo (.lst [])) fo = some (.lst []):=zA1;have foH : H fo = none:=by rw [zA7 fl] at hfo; exact hfo
 generalize upd (upd H l (.lst xs)) fo (.lst []) = H1 at g1 l1 f1 ⊢;have nml : ∀ b o,H b = some o -> b≠l:=λb o e=>zA6 e hl;have nmf : ∀ b o,H b = some o -> b≠fo:=λb o e=>zA6 e foH;have s1000 : 1000 < sizeLine:=by decide
 have at0 : atI (IV ds) 0 = some (.int ds[0]):=zGR (i:=0) (by lia);have pos : (0 : Int) < ((xs.length : Nat) : Int) + 1:=by lia
 refine ⟨_,rfl,A,_,_,_,rfl,rfl,SqL.of (g1 _ _ hA),at0,_,rfl,nm,_,rfl,.inl (SqL.of (g1 _ _ hnm)),_,_,rfl,rfl,_,_,rfl,rfl,pos,?_⟩;have j0:=yBJ ds[0] (b:=((xs.length : Nat) : Int) + 1) (by lia);have j1:=yAv ds[0] pos;obtain ⟨j,ej⟩ : ∃ j : Nat,ds[0] % (((xs.length : Nat) : Int) + 1) = (j : Nat):=⟨(ds[0] % (((xs.length : Nat) : Int) + 1)).toNat,by lia⟩;refine ⟨(j : Nat),congrArg (λz=>[V.int z]) ej,by lia,by lia,?_⟩;rw [yAS]
 have exs : xs = (List.range xs.length).map λk=>xs.getD k .non:=by
  refine yCt λi => ?_;rw [yAb]
  rcases yBs i xs.length with h | h
  ·rw [yDl h,yAB h,yCU,yAc,yAB h]; rfl
  ·rw [yBU h,yBU (by rw [yAw]; exact h)]; rfl
 refine zCJ (lo:=0) (λi σ H'=>∃ v4 ix rest,σ = [some (.ref nm),some (.ref A),some (.ref l),some (.ref fo),v4]/\Same H H'/\H' l = some (.lst (rest.map λk=>xs.getD k .non))/\H' fo = some (.lst (ix.map λk=>xs.getD k .non))/\ix.length = i/\(ix++rest).Perm (List.range xs.length))
  ⟨_,[],List.range xs.length,rfl,g1,by rw [<- exs]; exact l1,f1,rfl,List.Perm.refl _⟩ (λi σ H' hi hP => ?_) (λσ H' hP => ?_)
 ·obtain ⟨v4,ix,rest,rfl,g,hl',hf',li,pm⟩:=hP
  have hlen : ix.length + rest.length = xs.length:=by rw [<- yAU,pm.length_eq,yAw]
  have e1 : (1 : Int) + (0 + (i : Nat)) = ((1 + i : Nat) : Int):=by lia
  have at1 : atI (IV ds) ((1 : Int) + (0 + (i : Nat))) = some (.int ds[1 + i]):=by rw [e1]; exact zGR (by lia)
  have rp : (0 : Int) < ((rest.map λk=>xs.getD k V.non).length : Nat):=by rw [yAC]; lia
  refine ⟨_,rfl,.inl ⟨rfl,_,SqL.of hf'⟩,_,rfl,.inl ⟨rfl,_,SqL.of hl'⟩,_,rfl,_,rfl,_,_,rfl,rfl,A,_,_,_,rfl,rfl,SqL.of (g _ _ hA),at1,_,rfl,l,_,rfl,.inl (SqL.of hl'),_,_,rfl,rfl,rp,?_⟩;have i0:=yBJ ds[1 + i] (b:=((rest.map λk=>xs.getD k V.non).length : Nat)) (by lia);have i1:=yAv ds[1 + i] rp;obtain ⟨d,ed⟩ : ∃ d : Int,ds[1 + i] % (((rest.map λk=>xs.getD k V.non).length : Nat) : Int) = d:=⟨_,rfl⟩;rw [ed] at i0 i1;have hk : d.toNat < (rest.map λk=>xs.getD k V.non).length:=by lia
  have hk' : d.toNat < rest.length:=by rw [yAC] at hk; exact hk
  refine ⟨l,_,d,d.toNat,(rest.map λk=>xs.getD k V.non)[d.toNat],rfl,congrArg (λz=>[V.int z]) ed,hl',by lia,by rw [yAC] at i1; lia,seqIndex_of i0 i1,yAB hk,?_⟩;refine ⟨fo,_,_,rfl,rfl,by rw [zA7 fl]; exact hf',by rw [yAC]; lia,?_⟩;refine ⟨_,ix++[rest[d.toNat]],rest.eraseIdx d.toNat,rfl,λc o hc => ?_,?_,?_,by rw [yAU,li]; rfl,?_⟩
  ·rw [zA7 (nmf c o hc),zA7 (nml c o hc)]; exact g _ _ hc
  ·rw [zA7 fl.symm,zA1,zHW]
  ·rw [zA1,yAa,yDb]; rfl
  ·rw [yBf]
   exact (List.Perm.append_left ix (zFV _ _ hk')).trans pm
 ·obtain ⟨v4,ix,rest,rfl,g,hl',hf',li,pm⟩:=hP
  exact ⟨_,rfl,q fo H' _ ix foH g hf' (zL5 pm hf')⟩
theorem zRF : FnScope ["_law_names_here","_law_some"] ["_law_names_here","_law_some"] (zA8 zCR):=by trivial
set_option maxHeartbeats 2000000 in
theorem zN3 {f : Addr} {fd : FuncData} (F : Fun K "_law_mask_of" "_law_mask_of" zCR f fd) (me : mg "enumerate" = none) (msu : mg "sum" = none) : FnOk P w K mg base CX0 1 f fd ["_law_names_here","_law_some"] zFJ:=by
 refine F.ok zRF (λvs H Q E h => ?_) (λcdv A outer s H vs Q E hr h => ?_)
 ·obtain ⟨nm,r,xs,ys,ix,rfl,_⟩:=h
  rfl
 obtain ⟨nm,r,xs,ys,ix,rfl,hnm,hG,hR,q⟩:=h
 refine ⟨_,zA5 (zAE (zAC (zQ6 rfl) rfl msu PyProof.Rows.boot_sum (zA0 (zB8 (xs:=["_law_k","_law_name"]) (fv:=[("_law_some",1)]) rfl (by decide +kernel) ⟨⟨rfl,Or.inl rfl,rfl⟩,trivial⟩ (zE2 rfl me (zA0 (pv 0) zA3))
   (λ_ _ _ _ _=>zHF (K:=K) (n:=2) rfl rfl (zBD (zAD (i:=0) (ndT (by decide +kernel)) rfl (Or.inl rfl)) (zBD (zAD (i:=1) (ndT (by decide +kernel)) rfl (Or.inl rfl)) zEG)))
   (λ_ _ _ _ _=>zFL (zAI (zX3 (K:=K) rfl) (pv 1) (pv 2) (by with_unfolding_all rfl))) (λ_ _ _ _ _=>zA9 zCM zA4 (pv 0))) zA3))),?_⟩
 have hhi:=hG.hi;have s1000 : 1000 < sizeLine:=by decide
 have lt : ∀ k∈ix,k < xs.length:=λk hk=>by
  obtain ⟨j,hj⟩:=yAi hk;obtain ⟨y,h1,_⟩:=hR.at_ j k hj;exact (yAE.mp h1).1
 have sy : ∀ y∈ys,y = kV (.inr (zB3 y)):=λy hy=>hG.str y (hR.sub y hy);refine ⟨_,rfl,nm,rfl,?_⟩;refine zFM (ys:=xs) (.inl (SqL.of hnm)) (λi D H'=>Same H H'/\H' D = some (.lst ((((List.range i).filter λk=>decide (k∈ix)).map λk=>((2 ^ k : Nat) : Int)).map V.int))) (λD hD=>⟨same_new hD _,zA1⟩) (λi D H' hD hP=>hP.1.at1 nm) (λi D H' x r' hD hi hx hP hr' => ?_) (λD H' hD hP => ?_)
 ·obtain ⟨g,hl'⟩:=hP
  have g4:=same_new hr' (.tup [.int (i : Nat),x]);have c4 : (upd H' r' (.tup [.int (i : Nat),x])) r' = some (.tup [.int (i : Nat),x]):=zA1;generalize upd H' r' (.tup [.int (i : Nat),x]) = H4 at g4 c4 ⊢;have hxs:=hG.str x (yAn hx);have fx : zFO x = true:=by rw [hxs]; rfl
  have fy : ys.all zFO = true:=yCD.mpr λy hy=>by rw [sy y hy]; rfl
  have gH:=g.trans g4
  have iv : inV x ys = decide (i∈ix):=by
   rw [zS5 sy hxs];exact decide_eq_decide.mpr (hR.mem hG.nd hx)
  refine ⟨r',_,rfl,SqT.of c4,rfl,_,_,rfl,_,_,rfl,rfl,rfl,_,rfl,_,rfl,r,ys,rfl,hR.row.imp (λh=>SqL.of (gH _ _ h)) (λh=>SqT.of (gH _ _ h)),fx,fy,_,rfl,?_⟩;rw [yAN (by decide),iv];have hz:=yBc (λk=>decide (k∈ix)) (List.range i);rw [yAw] at hz;refine zEN (λc => ?_) (λc => ?_)
  ·refine ⟨_,rfl,_,_,rfl,rfl,⟨by show (0 : Int) <= ((i : Nat) : Int); lia,by show ((i : Nat) : Int) <= 1000000; lia,by decide⟩,_,g4 _ _ hl',by rw [yAC,yAC]; lia,λb o e => ?_,?_⟩
   ·rw [zA7 (zA6 e hD)]; exact gH _ _ e
   ·rw [zA1,yDK,yDO,yAa,yAa,List.filter_cons,yAK c]
    show some (HO.lst (_++[V.int (1 * 2 ^ ((i : Nat) : Int).toNat)])) = some (HO.lst (_++[V.int ((2 ^ i : Nat) : Int)]));rw [yCS,yAS,show (2 : Int) ^ i = ((2 ^ i : Nat) : Int) by push_cast; rfl]
  ·refine ⟨gH,?_⟩
   rw [yDK,yDO,List.filter_cons,yAN c];show _ = some (HO.lst (((_++[]).map _).map _));rw [yBq];exact g4 _ _ hl'
 ·obtain ⟨g,hl'⟩:=hP
  refine ⟨D,_,rfl,SqL.of hl',?_⟩
  have e : (((List.range xs.length).filter λk=>decide (k∈ix)).map λk=>((2 ^ k : Nat) : Int)).sum = ((maskN ix : Nat) : Int):=by
   rw [<- zS4 hR.nd lt,<- zKL,yBp]; rfl
  rw [e];exact q H' g
theorem zW6 {l n i : Nat} (h : l < 2 ^ n) (hb : l.testBit i = true) : i < n:=by
 rcases yBs i n with z | z
 ·exact z
 ·have:=Nat.ge_two_pow_of_testBit hb
  have:=yCF (n:=2) (by decide) z
  lia
theorem zIM {l m n : Nat} (hl : l < 2 ^ n) : l &&& ((2 ^ n - 1) ^^^ m) = l ↔ l &&& m = 0:=by
 rw [zLN]
 constructor
 ·intro h
  refine yBg λi => ?_;rw [yBw,yCx]
  cases e : l.testBit i with
  | false=>rfl
  | true =>
   have:=h i e
   rw [yER,yCr,yAZ (zW6 hl e)] at this
   cases e2 : m.testBit i with
   | false=>rfl
   | true=>rw [e2] at this; cases this
 ·intro h i e
  have : (l &&& m).testBit i = false:=by rw [h,yCx]
  rw [yBw,e,yCe] at this;rw [yER,yCr,yAZ (zW6 hl e),this]; rfl
theorem zR2 {m n : Nat} (hm : m < 2 ^ n) : (2 ^ n - 1) ^^^ m = 2 ^ n - 1 - m:=by
 refine yBg λi => ?_;rw [show 2 ^ n - 1 - m = 2 ^ n - (m + 1) by lia,Nat.testBit_two_pow_sub_succ hm,yER,yCr]
 cases e : m.testBit i with
 | false=>simp
 | true=>rw [yAZ (zW6 hm e)]; rfl
theorem zPN (n : Nat) : (2 : Int) ^ n - 1 = ((2 ^ n - 1 : Nat) : Int):=by
 have : 0 < 2 ^ n:=Nat.two_pow_pos n;have e : (2 : Int) ^ n = ((2 ^ n : Nat) : Int):=by rw [yCY]; rfl
 rw [e]; lia
theorem zGQ {α : Type} {f g : α -> Bool} : ∀ {l : List α},(∀ x∈l,f x = g x) -> l.find? f = l.find? g
 | [],_=>rfl
 | a::r,h=>by
  rw [yCX,yCX,h a (yAQ ..),zGQ λx hx=>h x (yAP _ hx)]
theorem zNG {n : Nat} {fl : Int} {ms : List Int} (ok : ∀ m∈ms,0 <= m/\m < 2 ^ n) (f0 : 0 <= fl) (f1 : fl < 2 ^ n) : zJR (Builtin.bitXor (2 ^ n - 1) fl) ms = zBV ms fl:=by
 unfold zJR zBV;refine zGQ λl hl => ?_;obtain ⟨l0,l1⟩:=ok l hl;obtain ⟨x,rfl⟩:=yCd l0;obtain ⟨y,rfl⟩:=yCd f0;have hx : x < 2 ^ n:=by exact_mod_cast l1
 rw [zPN,zPI,zD6,zD6,yAr,yAT,yAT]
 have:=zIM (m:=y) hx
 lia
theorem zVM (m k : Nat) : bit ((m : Nat) : Int) k = m.testBit k:=by
 unfold bit;rw [yCT,yAr,yAT,yAT]
 have e : ((m : Nat) : Int) / 2 ^ k = ((m / 2 ^ k : Nat) : Int):=by
  rw [Int.natCast_ediv,yCY]; rfl
 rw [e];lia
theorem zX2 {ms : List Int} {n : Nat} (h : ∀ m∈ms,0 <= m/\m < 2 ^ n) : ∃ ns : List Nat,ms = ns.map (λ(m : Nat)=>(m : Int))/\∀ l∈ns,l < 2 ^ n:=by
 refine ⟨ms.map Int.toNat,?_,λl hl => ?_⟩
 ·rw [yBp]
  conv=>lhs; rw [<- List.map_id ms]
  refine yDk λm hm => ?_
  have:=(h m hm).1
  show m = ((m.toNat : Nat) : Int);lia
 ·obtain ⟨m,hm,rfl⟩:=yBA.mp hl
  have h1:=(h m hm).2;have h0:=(h m hm).1;have e : ((m.toNat : Nat) : Int) = m:=Int.toNat_of_nonneg h0;rw [<- e] at h1
  exact_mod_cast h1
theorem zLS {n l x : Nat} (hl : l < 2 ^ n) (hx : x < 2 ^ n) : Sb l (2 ^ n - 1 - x) ↔ l &&& x = 0:=by
 rw [<- zR2 hx,<- zLN];exact zIM hl
theorem zII {n x : Nat} {ns : List Nat} (ok : ∀ l∈ns,l < 2 ^ n) (hx : x < 2 ^ n) : zAZ n (ns.map λ(m : Nat)=>(m : Int)) x = ns.any λl=>decide (l &&& x = 0):=by
 unfold zAZ;rw [zL3];rw [yAr,yCC,yCC];exact ⟨λ⟨l,h1,h2⟩=>⟨l,h1,yAZ ((zLS (ok l h1) hx).mp (yAl h2))⟩,λ⟨l,h1,h2⟩=>⟨l,h1,yAZ ((zLS (ok l h1) hx).mpr (yAl h2))⟩⟩
theorem zM4 {n x : Nat} {ms : List Int} (ok : ∀ m∈ms,0 <= m/\m < 2 ^ n) (hx : x < 2 ^ n) : (zBV ms ((x : Nat) : Int)).isSome = zAZ n ms x:=by
 obtain ⟨ns,rfl,hn⟩:=zX2 ok;rw [zII hn hx];unfold zBV;rw [yAr,List.find?_isSome,yCC]
 constructor
 ·rintro ⟨m,hm,h⟩
  obtain ⟨l,hl,rfl⟩:=yBA.mp hm;refine ⟨l,hl,yAZ ?_⟩
  have:=yAl h
  rw [zD6] at this;lia
 ·rintro ⟨l,hl,h⟩
  refine ⟨_,yBA.mpr ⟨l,hl,rfl⟩,yAZ ?_⟩;rw [zD6,yAl h]; rfl
theorem zGL {n x : Nat} {as bs : List Int} (p : as.Perm bs) : zAZ n as x = zAZ n bs x:=by
 unfold zAZ zUT;rw [yAr,yCC,yCC];exact ⟨λ⟨l,h1,h2⟩=>⟨l,p.mem_iff.mp h1,h2⟩,λ⟨l,h1,h2⟩=>⟨l,p.mem_iff.mpr h1,h2⟩⟩
theorem zMQ {xs : List V} {x : Nat} {as bs : List Int} (p : as.Perm bs) : zBB xs as x = zBB xs bs x:=by
 unfold zBB;have : (λk => !zAZ xs.length as (x ||| 2 ^ k)) = λk => !zAZ xs.length bs (x ||| 2 ^ k):=funext λk=>by rw [zGL p]
 rw [this]
noncomputable def zJ3 (ns : List Nat) (m a : Nat) : Nat:=ns.foldl (λacc l=>if l &&& m = 0 then acc &&& l else acc) a
theorem zLF (m k : Nat) : ∀ (ns : List Nat) (a : Nat),(zJ3 ns m a).testBit k = (a.testBit k&&ns.all λl => !decide (l &&& m = 0)||l.testBit k)
 | [],a=>by rw [List.all_nil,Bool.and_true]; rfl
 | l::r,a=>by
  have e : zJ3 (l::r) m a = zJ3 r m (if l &&& m = 0 then a &&& l else a):=rfl;rw [e,zLF m k r,List.all_cons]
  by_cases c : l &&& m = 0
  ·rw [yAK c,yBw,yAZ c,Bool.not_true,Bool.false_or,Bool.and_assoc]
  ·rw [yAN c,yAL c,Bool.not_false,Bool.true_or,yCe]
theorem zJP (m : Nat) : ∀ (ns : List Nat) (a n : Nat),a < 2 ^ n -> zJ3 ns m a < 2 ^ n
 | [],a,n,h=>h
 | l::r,a,n,h=>by
  have e : zJ3 (l::r) m a = zJ3 r m (if l &&& m = 0 then a &&& l else a):=rfl;rw [e];refine zJP m r _ n ?_
  split
  ·exact Nat.lt_of_le_of_lt Nat.and_le_left h
  ·exact h
theorem zI8 (ns : List Nat) (l m a : Nat) : zJ3 (ns++[l]) m a = if l &&& m = 0 then zJ3 ns m a &&& l else zJ3 ns m a:=by
 unfold zJ3;rw [yED]; rfl
theorem zQ2 {xs : List V} {ns : List Nat} {m : Nat} (h12 : xs.length <= 12) (ok : ∀ l∈ns,l < 2 ^ xs.length) (hm : m < 2 ^ xs.length) : zCG xs ((zJ3 ns m (2 ^ xs.length - 1) : Nat) : Int) = zBB xs (ns.map λ(m : Nat)=>(m : Int)) m:=by
 have hB : zJ3 ns m (2 ^ xs.length - 1) < 2 ^ xs.length:=zJP m ns _ _ (by have:=Nat.two_pow_pos xs.length; lia);have hz : ((zJ3 ns m (2 ^ xs.length - 1) : Nat) : Int) / 2 ^ xs.length <= 0:=Int.le_of_eq (yCk (yCQ _) (by exact_mod_cast hB));unfold zCG;rw [<- zCC (yCQ _) hz h12];unfold zBN zBB;rw [yBp]
 have e : (List.range xs.length).filter (bit ((zJ3 ns m (2 ^ xs.length - 1) : Nat) : Int)) = (List.range xs.length).filter λk => !zAZ xs.length (ns.map λ(m : Nat)=>(m : Int)) (m ||| 2 ^ k):=by
  refine List.filter_congr λk hk => ?_;have hk:=yBL.mp hk;have hp : 2 ^ k < 2 ^ xs.length:=Nat.pow_lt_pow_right (by decide) hk;rw [zVM,zLF,yCr,yAZ hk,yCe,zII ok (Nat.or_lt_two_pow hm hp),List.not_any_eq_all_not]
  congr 1
  funext l
  rw [Nat.and_or_distrib_left,yAr,yDP,yEE,yEE,decide_eq_false_iff_not,decide_eq_false_iff_not]
  have t : l &&& 2 ^ k = 0 ↔ l.testBit k = false:=by
   constructor
   ·intro z
    have h:=congrArg (Nat.testBit · k) z
    simpa [yBw,Nat.testBit_two_pow_self] using h
   ·intro z
    refine yBg λi => ?_;rw [yBw,yCx,yDA]
    by_cases c : k = i
    ·rw [<- c,z]; rfl
    ·rw [yAL c,Bool.and_false]
  have o : (l &&& m) ||| (l &&& 2 ^ k) = 0 ↔ (l &&& m = 0/\l &&& 2 ^ k = 0):=Nat.or_eq_zero_iff;rw [o,t]
  cases l.testBit k <;> simp
 rw [e];refine yDk λk _ => ?_;show xs.getD ((k : Nat) : Int).toNat .non = _;rw [yAS]
noncomputable def zKI (K : PySem.W.Frag) : Sp:=λvs H Q _=>∃ nm M xs ms m,vs = [.ref nm,.ref M,.int ((m : Nat) : Int)]/\H nm = some (.lst xs)/\GN xs/\H M = some (.lst (IV ms))/\MsOk xs.length ms/\m < 2 ^ xs.length/\∀ D H',H D = none -> Same H H' -> H' D = some (.lst (zBB xs ms m)) -> Q (.ref D) H'
theorem scFHopes : FnScope ["_law_names_here","_law_masks_here","_law_fallen","_law_found","_law_mask"] ["_law_names_here","_law_masks_here","_law_fallen"] (zA8 zDQ):=by trivial
set_option maxHeartbeats 2000000 in
theorem zNL {f a1 : Addr} {fd d1 : FuncData} (F : Fun K "_law_hopes" "_law_hopes" zDQ f fd) (T : Txt mg) (D1 : Def P w K mg base 1 "_law_named" ["_law_names_here","_law_mask"] (zQV K) a1 d1) : FnOk P w K mg base CX0 2 f fd ["_law_names_here","_law_masks_here","_law_fallen"] (zKI K):=by
 refine F.ok scFHopes (λvs H Q E h => ?_) (λcdv A outer s H vs Q E hr h => ?_)
 ·obtain ⟨nm,M,xs,ms,m,rfl,_⟩:=h
  rfl
 obtain ⟨nm,M,xs,ms,m,rfl,hnm,hG,hM,ok,hm,q⟩:=h;obtain ⟨ns,rfl,hn⟩:=zX2 ok.ok;have hhi:=hG.hi
 refine ⟨_,zA2 (zAB (i:=3) scFHopes.nd rfl (Or.inl rfl) (zA9 zI0 (zA9 zCM zA4 (zAC zAH rfl T.len yBH (zA0 (pv 0) zA3))) zA4))
  (zA2 (zBL PassesOwn.never rfl (zBX (pv 1)) (zAD (i:=4) scFHopes.nd rfl (Or.inl rfl))
   (zA5 (zBA (zAI zD4 (zA9 zE4 (pv 4) (pv 2)) zA4 (zAO _)) (zA5 (zAB (i:=3) scFHopes.nd rfl (Or.inl rfl) (zA9 zE4 (pv 3) (pv 4)))) zAG)))
  (zA5 (zAE (zAA D1.ok hr rfl D1.m D1.k D1.b .nil zAF (zA0 (pv 0) (zA0 (pv 3) zA3)))))),?_⟩
 have e0 : (1 : Int) * 2 ^ ((xs.length : Nat) : Int).toNat - 1 = ((2 ^ xs.length - 1 : Nat) : Int):=by rw [yCS,yAS,zPN]
 refine ⟨_,rfl,nm,_,rfl,.inl (SqL.of hnm),_,_,rfl,rfl,⟨by show (0 : Int) <= ((xs.length : Nat) : Int); lia,by show ((xs.length : Nat) : Int) <= 1000000; lia,by decide⟩,_,_,rfl,rfl,?_⟩;refine ⟨_,rfl,M,rfl,?_⟩;refine zC4 (K:=K) (ys:=IV (ns.map λ(m : Nat)=>(m : Int))) (.inl (SqL.of hM)) (λi σ H'=>∃ v4,σ = [some (.ref nm),some (.ref M),some (.int ((m : Nat) : Int)),some (.int ((zJ3 (ns.take i) m (2 ^ xs.length - 1) : Nat) : Int)),v4]/\H' = H) ⟨_,congrArg (λz=>[some (V.ref nm),some (V.ref M),some (V.int ((m : Nat) : Int)),some (V.int z),none]) e0,rfl⟩ (λi σ H' hP => ?_) (λi σ H' x hi hx hP => ?_) (λσ H' hP => ?_)
 ·obtain ⟨_,_,rfl⟩:=hP
  exact (Same.refl _).at1 M
 ·obtain ⟨v4,rfl,rfl⟩:=hP
  unfold IV at hx hi;rw [yAC,yAC] at hi;rw [yBp,yAb,yAB hi] at hx
  cases hx
  have et : ns.take (i + 1) = ns.take i++[ns[i]]:=by rw [List.take_succ,yAB hi]; rfl
  refine ⟨_,rfl,_,rfl,_,_,rfl,rfl,rfl,_,rfl,?_⟩;rw [zNE,zD6];refine zEN (λc => ?_) (λc => ?_)
  ·have c' : ns[i] &&& m = 0:=by have:=yAl c; lia
   refine ⟨_,rfl,_,rfl,_,_,rfl,rfl,some (.int ((ns[i] : Nat) : Int)),?_,rfl⟩;rw [et,zI8,yAK c'];rfl
  ·have c' : ¬ ns[i] &&& m = 0:=λz=>c (yAZ (by rw [z]; rfl))
   refine ⟨some (.int ((ns[i] : Nat) : Int)),?_,rfl⟩;rw [et,zI8,yAN c'];rfl
 ·obtain ⟨v4,rfl,rfl⟩:=hP
  unfold IV;rw [yAC,yAC,yCf];have hB : zJ3 ns m (2 ^ xs.length - 1) < 2 ^ xs.length:=zJP m ns _ _ (by have:=Nat.two_pow_pos xs.length; lia);refine ⟨_,rfl,_,rfl,nm,xs,_,rfl,.inl (SqL.of hnm),hhi,yCQ _,by exact_mod_cast hB,λD H2 hD g2 l2 => ?_⟩;rw [zQ2 hhi hn hm] at l2;exact q D H2 hD g2 l2
theorem bVE : bootBuiltins "ValueError" = some (.type "ValueError"):=by decide +kernel
theorem zb4 {α : Type} {l : List α} (h : l.length = 4) : ∃ a b c d,l = [a,b,c,d]:=by
 obtain _ | ⟨a,_ | ⟨b,_ | ⟨c,_ | ⟨d,_ | ⟨e,r⟩⟩⟩⟩⟩:=l
 ·cases h
 ·cases h
 ·cases h
 ·cases h
 ·exact ⟨a,b,c,d,rfl⟩
 ·simp at h
noncomputable def zaY (H H' : Hp) (xs : List V) (ms : List Int) (m : Nat) (t : Addr) : Prop:=H t = none/\if zAZ xs.length ms m = true then H' t = some (.lst (zBB xs ms m)) else H' t = some (.tup [.str "lots",.bl true,.bl true])
noncomputable def zOC (CS C : Addr) : Sp:=λvs H Q _=>∃ p r xs ms ys ix,vs = [.ref p,.ref r]/\SysAt CS C H p xs ms/\Ord xs ms/\RowIx H r xs ys ix/\∀ t H',Same H H' -> zaY H H' xs ms (maskN ix) t -> Q (.ref t) H'
theorem scFTold : FnScope ["_law_system","_law_some","_law_told_here","e"] ["_law_system","_law_some"] (zA8 zE8):=by trivial
set_option maxHeartbeats 2000000 in
theorem zRS {f CS C Cn CM a1 : Addr} {fd d1 e1 : FuncData} (F : Fun K "_law_told" "_law_told" zE8 f fd) (T : Txt mg) (mv : mg "ValueError" = none) (mM : mg "MeetError" = some (.ref CM))
  (D1 : Def P w K mg base 4 "last_hopes" ["system","fallen"] (zJ4 CS C) a1 d1) (E1 : DefE P w K mg base 4 "last_hopes" ["system","fallen"] (zKF CS C Cn) a1 e1) (er : ErK P w K mg base "NoneStands" "kind" Cn)
  (xnn : PySem.W.exmOne K (.ref Cn) (.ref Cn) = some true) (fc : PySem.W.findIn K (.ref Cn) "__class__" = some (some (.builtin "object.__class__")))
  (kM : PySem.W.kitOne K (.ref Cn) (.ref CM) = some true) (kV : PySem.W.kitOne K (.ref Cn) (.type "ValueError") = some true) :
  FnOk P w K mg base CX0 5 f fd ["_law_system","_law_some"] (zOC CS C):=by
 refine F.ok scFTold (λvs H Q E h => ?_) (λcdv A outer s H vs Q E hr h => ?_)
 ·obtain ⟨p,r,xs,ms,ys,ix,rfl,_⟩:=h
  rfl
 obtain ⟨p,r,xs,ms,ys,ix,rfl,hS,hO,hR,q⟩:=h;have s3 : (3 : Nat) <= sizeLine:=by decide
 cases hl : zAZ xs.length ms (maskN ix) with
 | true =>
  refine ⟨_,zA2 (zAB (i:=2) scFTold.nd rfl (Or.inl rfl) zCK)
   (zA2 (zTG rfl rfl (λpn E=>zA5 (zAB (i:=2) scFTold.nd rfl (Or.inl rfl) (zAA D1.ok hr rfl D1.m D1.k D1.b .nil zAF (zA0 (pv 0) (zA0 (pv 1) zA3))))) zT2)
   (zA5 (zAE (pv 2)))),?_⟩
  refine ⟨λ_ _ _=>False,⟨_,rfl,_,rfl,p,r,xs,ms,ys,ix,rfl,hS,hO,hR,hl,λD H' hD g l=>⟨_,rfl,q D H' g ⟨hD,?_⟩⟩⟩,λ_ _ _ _ h=>h.elim⟩;rw [yAK hl]; exact l
 | false =>
  refine ⟨_,zA2 (zAB (i:=2) scFTold.nd rfl (Or.inl rfl) zCK)
   (zA2 (zTG rfl rfl (λpn E=>zA5 (zAB (i:=2) scFTold.nd rfl (Or.inl rfl) (zAA (E:=E) E1.ok hr rfl E1.m E1.k E1.b .nil zZT (zA0 (pv 0) (zA0 (pv 1) zA3)))))
    (zZM (i:=3) scFTold.nd rfl rfl rfl er.m (λe=>zA5 (zAB (i:=2) scFTold.nd rfl (Or.inl rfl) (zEQ (zA0 (zSD (K:=K) rfl (pv 3) rfl)
     (zA0 (zAC (zIR (K:=K) rfl) rfl T.inst yAj (zA0 (pv 3) (zA0 (zEE (v := .ref CM) rfl mM rfl) zA3)))
     (zA0 (zAC (zIR (K:=K) rfl) rfl T.inst yAj (zA0 (pv 3) (zA0 (zBF (v := .ty "ValueError") rfl mv bVE rfl) zA3))) zA3)))))) zT2))
   (zA5 (zAE (pv 2)))),?_⟩
  obtain ⟨fI,bm,dI,ec,OI,bI⟩:=er.ex;refine ⟨λcls od H'=>∃ dx,cls = .ref Cn/\od = some dx/\Same H H'/\H' dx = some (.xd [("kind",.str "lots")]),⟨_,rfl,_,rfl,p,r,xs,ms,ys,ix,rfl,hS,hO,hR,hl,λdx H' g hd hx=>⟨dx,rfl,rfl,g,hx⟩⟩,λC' dx σ' H' hE hl4 => ?_⟩;obtain ⟨dx',e1,e2,g,hxd⟩:=hE
  cases e1
  cases e2
  obtain ⟨u0,u1,u2,u3,rfl⟩:=zb4 hl4;refine ⟨true,xnn,zIF (λe he => ?_)⟩;have ge:=same_new he (zQE e Cn dx);have ce : (upd H' e (zQE e Cn dx)) e = some (zQE e Cn dx):=zA1;generalize upd H' e (zQE e Cn dx) = H2 at ge ce ⊢;refine ⟨_,rfl,e,Cn,dx,fI,bm,_,_,rfl,ce,ec,er.nf,ge _ _ hxd,rfl,?_⟩;refine ⟨_,rfl,?_⟩;refine RIH.own true ce ec fc kM ⟨_,rfl,?_⟩;refine RIH.ty true ce ec fc kV ⟨s3,λt ht=>⟨_,rfl,q t _ ((g.trans ge).trans (same_new ht _)) ⟨(g.trans ge).free ht,?_⟩⟩⟩;rw [yAN (by rw [hl]; decide)]; exact zA1
noncomputable def HopO (H' : Hp) (xs : List V) (ms : List Int) (m : Nat) (t : Addr) : Prop:=if zAZ xs.length ms m = true then H' t = some (.lst (zBB xs ms m)) else H' t = some (.tup [.str "lots",.bl true,.bl true])
noncomputable def zWL (xs : List V) (ms : List Int) (m : Nat) : PyData:=if zAZ xs.length ms m = true then .list (dS (zBB xs ms m)) else .tuple [.str "lots",.bool true,.bool true]
theorem HopO.same {H H' : Hp} {xs : List V} {ms : List Int} {m : Nat} {t : Addr} (g : Same H H') (h : HopO H xs ms m t) : HopO H' xs ms m t:=by
 unfold HopO at h ⊢
 split
 ·rw [yAK (by assumption)] at h; exact g _ _ h
 ·rw [yAN (by assumption)] at h; exact g _ _ h
theorem zG7 {xs : List V} {ms : List Int} {m : Nat} (hG : GN xs) : zTF (zBB xs ms m):=λv hv=>by
 unfold zBB at hv;obtain ⟨k,hk,rfl⟩:=yBA.mp hv;have hk:=yBL.mp (yBx.mp hk).1;rw [yAc,yAB hk];exact hG.strs _ (yBI hk)
theorem HopO.data {K : PySem.W.Frag} {H : Hp} {xs : List V} {ms : List Int} {m : Nat} {t : Addr} (hG : GN xs) (h : HopO H xs ms m t) : DV K H (.ref t) (zWL xs ms m):=by
 unfold HopO at h;unfold zWL
 split
 ·rw [yAK (by assumption)] at h; exact .lst (SqL.of h) (zBQ (zG7 hG))
 ·rw [yAN (by assumption)] at h; exact .tup (SqT.of h) (.cons (.str _) (.cons (.bl _) (.cons (.bl _) .nil)))
theorem zK5 {xs : List V} {ms : List Int} {m : Nat} (hG : GN xs) : (zWL xs ms m).canLay0 = true/\(zWL xs ms m).depth <= 100:=by
 unfold zWL
 split
 ·exact ⟨zCD (zG7 hG),by have:=zDB (zBB xs ms m); simp only [PyData.depth]; lia⟩
 ·exact ⟨by decide +kernel,by decide +kernel⟩
theorem HopO.kit {K : PySem.W.Frag} (k : Kit2 K) {H : Hp} {xs : List V} {ms : List Int} {m : Nat} {t : Addr} (h : HopO H xs ms m t) : ∃ ty,TyOf K H (.ref t) ty/\PySem.W.kitOne K ty (.type "list") = some (zAZ xs.length ms m):=by
 unfold HopO at h
 cases e : zAZ xs.length ms m with
 | true=>rw [yAK e] at h; exact ⟨_,.lst h,rfl⟩
 | false=>rw [yAN (by rw [e]; decide)] at h; exact ⟨_,.tup h,k.l_tup⟩
theorem RowIx.rev {H H' : Hp} {r r' : Addr} {xs ys : List V} {ix : List Nat} (h : RowIx H r xs ys ix) (e : H' r' = some (.tup ys.reverse)) : RowIx H' r' xs ys.reverse ix.reverse:=by
 refine ⟨.inr e,(yEC _).nodup_iff.mpr h.nd,by rw [yBn,yBn,h.len],λj k hj => ?_⟩;have hl : j < ix.length:=by have:=(yAE.mp hj).1; rwa [yBn] at this
 rw [yEV hl] at hj;obtain ⟨y,h1,h2⟩:=h.at_ _ k hj;exact ⟨y,h1,by rw [yEV (by rw [h.len]; exact hl),h.len]; exact h2⟩
noncomputable def zOR (K : PySem.W.Frag) (CS C : Addr) : Sp:=λvs H Q _=>∃ p nm M R xs ms zs ys ix,vs = [.ref p,.ref nm,.ref M,.ref R]/\SysAt CS C H p xs zs/\Ord xs zs/\H nm = some (.lst xs)/\H M = some (.lst (IV ms))/\MsOk xs.length ms/\zs.Perm ms/\H R = some (.lst ys)/\RowIx H R xs ys ix/\∀ H',Same H H' -> Q (.bl true) H'
theorem scFHopR : FnScope ["_law_system","_law_names_here","_law_masks_here","_law_row","_law_many","_law_fallen","_law_due_here","_law_some","_law_told_here"] ["_law_system","_law_names_here","_law_masks_here","_law_row"] (zA8 zBP):=by trivial
theorem sHD {A B : TS} {D : Ends} {σ : St} {H : Hp} (h : ∀ (B' : TS) (D' : Ends),B' = B -> D' = D -> zTB A B' D' σ H) : zTB A B D σ H:=h B D rfl rfl
theorem zR5 {o : Option Int} : (!decide (zYO o = V.non)) = o.isSome:=by
 cases o with
 | none=>rfl
 | some m=>rfl
set_option maxHeartbeats 4000000 in
theorem zSH {f CS C a1 a2 a3 a4 : Addr} {fd d1 d2 d3 d4 : FuncData} (F : Fun K "_law_hopes_right" "_law_hopes_right" zBP f fd) (T : Txt mg) (k2 : Kit2 K) (mt : mg "tuple" = none)
  (D1 : Def P w K mg base 1 "_law_mask_of" ["_law_names_here","_law_some"] zFJ a1 d1) (D2 : Def P w K mg base 1 "_law_stands" ["_law_masks_here","_law_fallen"] (zGY K) a2 d2)
  (D3 : Def P w K mg base 2 "_law_hopes" ["_law_names_here","_law_masks_here","_law_fallen"] (zKI K) a3 d3) (D4 : Def P w K mg base 5 "_law_told" ["_law_system","_law_some"] (zOC CS C) a4 d4) :
  FnOk P w K mg base CX0 6 f fd ["_law_system","_law_names_here","_law_masks_here","_law_row"] (zOR K CS C):=by
 refine F.ok scFHopR (λvs H Q E h => ?_) (λcdv A outer s H vs Q E hr h => ?_)
 ·obtain ⟨p,nm,M,R,xs,ms,zs,ys,ix,rfl,_⟩:=h
  rfl
 obtain ⟨p,nm,M,R,xs,ms,zs,ys,ix,rfl,hS,hO,hnm,hM,ok,pz,hRl,hR,q⟩:=h;have hr1 : Room 1 _:=hr.mono (by decide);have hr2 : Room 2 _:=hr.mono (by decide);have hG:=hO.gn;have hhi:=hG.hi;have s3 : (3 : Nat) <= sizeLine:=by decide
 have s1000 : 1000 < sizeLine:=by decide
 have ly : ys.length <= 12:=by
  have hs : ix ⊆ List.range xs.length:=λk hk=>by
   obtain ⟨j,hj⟩:=yAi hk;obtain ⟨y,h1,_⟩:=hR.at_ j k hj;exact yBL.mpr (yAE.mp h1).1
  have p : ix.Perm ((List.range xs.length).filter λk=>decide (k∈ix)):=(yCM hR.nd (List.nodup_range.sublist yCK)).mpr λk=>by
   rw [yBx,yAT];exact ⟨λh=>⟨hs h,h⟩,λh=>h.2⟩
  have l1:=p.length_eq;have l2:=yBc (λk=>decide (k∈ix)) (List.range xs.length);rw [yAw] at l2
  have:=hR.len
  lia
 refine ⟨_,zA2 (zBL PassesOwn.never rfl (zB5 rfl T.range (zA0 (zA9 zAX (zAC zAH rfl T.len yBH (zA0 (pv 3) zA3)) zA4) zA3)) (zAD (i:=4) scFHopR.nd rfl (Or.inl rfl))
   (zA2 (zAB (i:=5) scFHopR.nd rfl (Or.inl rfl) (zAA D1.ok hr1 rfl D1.m D1.k D1.b .nil zAF (zA0 (pv 1) (zA0 (zAJ zAT (pv 3) zAN (zAL (pv 4))) zA3))))
   (zA2 (zAB (i:=6) scFHopR.nd rfl (Or.inl rfl) (zEQ (zA0 zDT (zA0 zEU (zA0 zEU zA3)))))
   (zA2 (zBA (zAI zK0 (zAA D2.ok hr1 rfl D2.m D2.k D2.b .nil zAF (zA0 (pv 2) (zA0 (pv 5) zA3))) zCK (zAO _))
    (zA5 (zAB (i:=6) scFHopR.nd rfl (Or.inl rfl) (zAA D3.ok hr2 rfl D3.m D3.k D3.b .nil zAF (zA0 (pv 1) (zA0 (pv 2) (zA0 (pv 5) zA3)))))) zAG)
   (zA5 (zBL PassesOwn.never rfl (zBX (zBK (zA0 (zAJ zAT (pv 3) zAN (zAL (pv 4))) (zA0 (zU6 (p4:=⟨0,0,0,0⟩) (zB0 zB9 rfl mt yBW (zA0 (zAJ zAT (pv 3) zAN (zAL (pv 4))) zA3))) zA3)))) (zAD (i:=7) scFHopR.nd rfl (Or.inl rfl))
    (zA2 (zAB (i:=8) scFHopR.nd rfl (Or.inl rfl) (zAA D4.ok hr rfl D4.m D4.k D4.b .nil zAF (zA0 (pv 0) (zA0 (pv 7) zA3))))
    (zA2 (zBA (PW.pt (zHE (zAI zZ4 (zAC zBR rfl T.inst yAj (zA0 (pv 8) (zA0 (zBF (v := .ty "list") rfl T.list yBB rfl) zA3))) (zAC zBR rfl T.inst yAj (zA0 (pv 6) (zA0 (zBF (v := .ty "list") rfl T.list yBB rfl) zA3))) (zAO _)) (zES (zAI (zFN hr) (pv 8) (pv 6) (zAO _))))) zAP zAG)
    (zA5 (zBA (zBU (zAC zBR rfl T.inst yAj (zA0 (pv 8) (zA0 (zBF (v := .ty "list") rfl T.list yBB rfl) zA3))))
     (zA5 (zBO (zFA yBE yBS yBR zBC (pv 8) (zA0 zDT zA3)))) zAG))))))))))
  (zA5 (zAE zEU)),?_⟩
 refine ⟨_,rfl,R,_,rfl,.inl (SqL.of hRl),_,_,rfl,rfl,((ys.length + 1 : Nat) : Int),congrArg (λz=>[V.int z]) (by lia),by lia,by lia,?_⟩;rw [yAS];refine zCJ (lo:=0) (λi σ H'=>∃ v4 v5 v6 v7 v8,σ = [some (.ref p),some (.ref nm),some (.ref M),some (.ref R),v4,v5,v6,v7,v8]/\Same H H') ⟨_,_,_,_,_,rfl,Same.refl _⟩ (λi σ H' hi hP => ?_) (λσ H' hP => ?_)
 ·obtain ⟨v4,v5,v6,v7,v8,rfl,g⟩:=hP
  have iy : i <= ys.length:=by lia
  have e0 : (0 : Int) + (i : Nat) = ((i : Nat) : Int):=by lia
  have ct:=(zC7 ys iy).2;have ct' : zFZ ys none (some ((0 : Int) + (i : Nat))) = ys.take i:=by rw [e0]; exact ct
  refine gNs (sHD λB1 D1 fb e1 => ?_);refine ⟨_,rfl,_,rfl,_,rfl,_,rfl,R,_,rfl,SqL.of (g _ _ hRl),λr1 hr1' => ?_⟩;rw [ct'];have g1:=same_new hr1' (.lst (ys.take i));have c1 : (upd H' r1 (.lst (ys.take i))) r1 = some (.lst (ys.take i)):=zA1;generalize upd H' r1 (.lst (ys.take i)) = H1 at g1 c1 ⊢;have gH1:=g.trans g1;have R1 : RowIx H1 r1 xs (ys.take i) (ix.take i):=(hR.same gH1).take i (.inl c1);have mlt:=R1.lt;refine ⟨nm,r1,xs,_,_,rfl,gH1 _ _ hnm,hG,R1,λH2 g2 => ?_⟩;generalize hm : maskN (ix.take i) = m at mlt;have gH2:=gH1.trans g2;refine sR fb (sH λB2 fb2 => ?_);refine ⟨s3,λt ht => ?_⟩;obtain ⟨H3,g3,c3,e0⟩:=zB4 ht (.tup [.str "lots",.bl true,.bl true]);rw [e0];clear e0;have gH3:=gH2.trans g3;refine sR fb2 (sH λC1 f1 => ?_)
  have tail : ∀ (due : Addr) (H5 : Hp),Same H H5 -> HopO H5 xs ms m due -> C1 D1 [some (.ref p),some (.ref nm),some (.ref M),some (.ref R),some (.int (0 + (i : Nat))),some (.int ((m : Nat) : Int)),some (.ref due),v7,v8] H5:=λdue H5 g5 hop=>by
   subst e1;refine sR f1 ?_;refine ⟨_,rfl,_,rfl,_,rfl,R,_,rfl,SqL.of (g5 _ _ hRl),λra hra => ?_⟩;rw [ct'];obtain ⟨H6,ga,ca,e0⟩:=zB4 hra (.lst (ys.take i));rw [e0];clear e0;have g6:=g5.trans ga;refine ⟨_,rfl,_,rfl,_,rfl,R,_,rfl,SqL.of (g6 _ _ hRl),λrb hrb => ?_⟩;rw [ct'];obtain ⟨H7,gb,cb,e0⟩:=zB4 hrb (.lst (ys.take i));rw [e0];clear e0;refine ⟨rb,_,rfl,.inl ⟨SqL.of cb,λrt hrt => ?_⟩⟩;obtain ⟨H8,gt,cc,e0⟩:=zB4 hrt (.tup (ys.take i));rw [e0];clear e0;refine ⟨rt,_,rfl,SqT.of cc,λrv hrv => ?_⟩;obtain ⟨H9,gv,cv,e0⟩:=zB4 hrv (.tup (ys.take i).reverse);rw [e0];clear e0;refine ⟨(by show 2 <= sizeLine; decide),λL hL => ?_⟩;obtain ⟨HA,gL,cL,e0⟩:=zB4 hL (.lst [.ref ra,.ref rv]);rw [e0];clear e0;have gA:=((((ga.trans gb).trans gt).trans gv).trans gL);have gHA:=g5.trans gA;have Ra : RowIx HA ra xs (ys.take i) (ix.take i):=(hR.same gHA).take i (.inl ((((gb.trans gt).trans gv).trans gL) _ _ ca));have Rv : RowIx HA rv xs (ys.take i).reverse (ix.take i).reverse:=Ra.rev (gL _ _ cv);have mv : maskN (ix.take i).reverse = m:=by rw [zED (yEC _)]; exact hm
   refine ⟨L,rfl,?_⟩;refine zC4 (K:=K) (ys:=[.ref ra,.ref rv]) (.inl (SqL.of cL)) (λj σ H'=>∃ v7 v8,σ = [some (.ref p),some (.ref nm),some (.ref M),some (.ref R),some (.int (0 + (i : Nat))),some (.int ((m : Nat) : Int)),some (.ref due),v7,v8]/\Same HA H') ⟨_,_,rfl,Same.refl _⟩ (λj σ H' hP => ?_) (λj σ H' x hj hx hP => ?_) (λσ H' hP => ?_)
   ·obtain ⟨_,_,_,gj⟩:=hP
    exact gj.at1 L
   ·obtain ⟨w7,w8,rfl,gj⟩:=hP
    obtain ⟨r,zy,zi,rfl,Rr,em⟩ : ∃ r zy zi,x = V.ref r/\RowIx HA r xs zy zi/\maskN zi = m:=by
     match j,hj,hx with
     | 0,_,hx=>cases hx; exact ⟨_,_,_,rfl,Ra,hm⟩
     | 1,_,hx=>cases hx; exact ⟨_,_,_,rfl,Rv,mv⟩
    have gHj:=gHA.trans gj;refine ⟨_,rfl,_,rfl,p,r,xs,zs,zy,zi,rfl,hS.same gHj,hO,Rr.same gj,λt' HB gB hop' => ?_⟩;obtain ⟨t0,hop'⟩:=hop'
    have hopB : HopO HB xs ms m t':=by
     rw [em,zGL pz,zMQ pz] at hop';exact hop'
    have dueB : HopO HB xs ms m due:=hop.same ((gA.trans gj).trans gB);obtain ⟨ty1,tk1,kk1⟩:=hopB.kit k2;obtain ⟨ty2,tk2,kk2⟩:=dueB.kit k2;refine ⟨_,rfl,_,ty1,"list",_,rfl,tk1,kk1,_,rfl,_,ty2,"list",_,rfl,tk2,kk2,rfl,_,rfl,?_⟩;rw [yAZ rfl];refine zCW ⟨_,rfl,_,rfl,zC6 (hopB.data hG) (dueB.data hG) (zK5 hG).1 (zK5 hG).2 (yBr _ (zK5 hG).1) ⟨_,rfl,zCW ?_⟩⟩;refine ⟨_,rfl,_,ty1,"list",_,rfl,tk1,kk1,_,rfl,?_⟩;refine zEN (λc => ?_) (λc => ?_)
    ·have lt : HB t' = some (.lst (zBB xs ms m)):=by unfold HopO at hopB; rw [yAK c] at hopB; exact hopB
     have hl : (zBB xs ms m).length <= 12:=by
      unfold zBB;rw [yAC]
      have:=yBc (λk => !zAZ xs.length ms (m ||| 2 ^ k)) (List.range xs.length)
      rw [yAw] at this;lia
     refine ⟨_,rfl,.inl ⟨rfl,_,SqL.of lt⟩,t',_,_,rfl,rfl,lt,by lia,?_⟩;refine ⟨_,_,rfl,λc' o e => ?_⟩;have n : c'≠t':=zA6 (gj _ _ e) t0;rw [zA7 n]; exact gB _ _ (gj _ _ e)
    ·exact ⟨_,_,rfl,gj.trans gB⟩
   ·obtain ⟨w7,w8,rfl,gj⟩:=hP
    exact ⟨_,_,_,_,_,rfl,gHA.trans gj⟩
  refine ⟨_,rfl,_,rfl,M,ms,_,rfl,.inl (SqL.of (gH3 _ _ hM)),λH4 g4 => ?_⟩;have gH4:=gH3.trans g4;refine ⟨rfl,_,rfl,?_⟩;rw [zR5,zM4 ok.ok mlt];refine zEN (λc => ?_) (λc => ?_)
  ·refine ⟨_,rfl,_,rfl,_,rfl,nm,M,xs,ms,m,rfl,gH4 _ _ hnm,hG,gH4 _ _ hM,ok,mlt,λD5 H5 hD5 g5 l5 => ?_⟩
   exact tail D5 H5 (gH4.trans g5) (by unfold HopO; rw [yAK c]; exact l5)
  ·exact tail t H4 gH4 (by unfold HopO; rw [yAN c]; exact g4 _ _ c3)
 ·obtain ⟨v4,v5,v6,v7,v8,rfl,g⟩:=hP
  exact q H' g
noncomputable def Falls (H0 H' : Hp) (D : Addr) (xs : List V) (os : List (Option Int)) (rs : List V) : Prop:=H' D = some (.lst rs)/\rs.length = os.length/\∀ (k : Nat) v o,rs[k]? = some v -> os[k]? = some o -> v ≠ .ref D/\FallRow H0 H' xs v o
noncomputable def zCY (zs : List Int) (ix : List Nat) (n : Nat) : List (Option Int):=(List.range (n + 1)).map λk=>zBV zs ((maskN (ix.take k) : Nat) : Int)
theorem zGD (zs : List Int) (ix : List Nat) (n : Nat) : (zCY zs ix n).length = n + 1:=by unfold zCY; rw [yAC,yAw]
theorem zEI {zs : List Int} {ix : List Nat} {n k : Nat} {o : Option Int} (h : (zCY zs ix n)[k]? = some o) : o = zBV zs ((maskN (ix.take k) : Nat) : Int):=by
 unfold zCY at h;rw [yAb] at h
 rcases yBs k (n + 1) with c | c
 ·rw [yDl c] at h; cases h; rfl
 ·rw [yBU (by rw [yAw]; exact c)] at h; cases h
theorem FallRow.from {H0 H1 H : Hp} {xs : List V} {v : V} (g : Same H0 H1) : ∀ {o : Option Int},FallRow H1 H xs v o -> FallRow H0 H xs v o
 | none,h=>h
 | some _,⟨r,e,h0,h1⟩=>⟨r,e,g.free h0,h1⟩
theorem FallRow.same {H0 H H' : Hp} {xs : List V} {v : V} (g : Same H H') : ∀ {o : Option Int},FallRow H0 H xs v o -> FallRow H0 H' xs v o
 | none,h=>h
 | some _,⟨r,e,h0,h1⟩=>⟨r,e,h0,g _ _ h1⟩
theorem Falls.same {H0 H H' : Hp} {D : Addr} {xs : List V} {os : List (Option Int)} {rs : List V} (g : Same H H') (h : Falls H0 H D xs os rs) : Falls H0 H' D xs os rs:=⟨g _ _ h.1,h.2.1,λk v o a b=>⟨(h.2.2 k v o a b).1,(h.2.2 k v o a b).2.same g⟩⟩
noncomputable def zN4 (xs : List V) : Option Int -> PyData
 | none => .none
 | some l => .list (dS (zCG xs l))
noncomputable def OkO (xs : List V) (os : List (Option Int)) : Prop:=∀ l,some l∈os -> 0 <= l/\l < 2 ^ xs.length
theorem zIT {K : PySem.W.Frag} {H0 H : Hp} {xs : List V} (hG : GN xs) : ∀ (rs : List V) (os : List (Option Int)),rs.length = os.length -> OkO xs os -> (∀ (k : Nat) v o,rs[k]? = some v -> os[k]? = some o -> FallRow H0 H xs v o) -> DVs K H rs (os.map (zN4 xs))
 | [],[],_,_,_ => .nil
 | r::rs,o::os,hl,ok,h=>by
  refine .cons ?_ (zIT hG rs os (Nat.succ.inj hl) (λl hm=>ok l (yAP _ hm)) λk v o' a b=>h (k + 1) v o' a b);have h0:=h 0 r o rfl rfl
  cases o with
  | none=>cases h0; exact .non
  | some l =>
   obtain ⟨a,rfl,_,e⟩:=h0;obtain ⟨l0,l1⟩:=ok l yAQ;exact .lst (SqL.of e) (zBQ (zI2 hG l0 l1))
theorem zKB {xs : List V} (hG : GN xs) : ∀ os : List (Option Int),OkO xs os -> PyData.canLayAll0 (os.map (zN4 xs)) = true/\PyData.depthAll (os.map (zN4 xs)) <= 2
 | [],_=>⟨rfl,by simp [PyData.depthAll]⟩
 | o::os,ok=>by
  obtain ⟨a,b⟩:=zKB hG os λl hm=>ok l (yAP _ hm)
  have hd : (zN4 xs o).canLay0 = true/\(zN4 xs o).depth <= 2:=by
   cases o with
   | none=>exact ⟨rfl,by simp [zN4,PyData.depth]⟩
   | some l =>
    obtain ⟨l0,l1⟩:=ok l yAQ;exact ⟨zCD (zI2 hG l0 l1),by have:=zDB (zCG xs l); simp only [zN4,PyData.depth]; lia⟩
  refine ⟨?_,?_⟩
  ·simp only [yAp,PyData.canLayAll0,hd.1,a,Bool.and_self]
  ·simp only [yAp,PyData.depthAll]; have:=hd.2; lia
noncomputable def zG8 (xs : List V) (os : List (Option Int)) : PyData := .list (os.map (zN4 xs))
theorem zAV {xs : List V} {os : List (Option Int)} (hG : GN xs) (ok : OkO xs os) : (zG8 xs os).canLay0 = true/\(zG8 xs os).depth <= 100:=by
 obtain ⟨a,b⟩:=zKB hG os ok;exact ⟨a,by simp only [zG8,PyData.depth]; lia⟩
theorem Falls.data {K : PySem.W.Frag} {H0 H : Hp} {D : Addr} {xs : List V} {os : List (Option Int)} {rs : List V} (hG : GN xs) (ok : OkO xs os) (h : Falls H0 H D xs os rs) : DV K H (.ref D) (zG8 xs os) :=
 .lst (SqL.of h.1) (zIT hG rs os h.2.1 ok λk v o a b=>(h.2.2 k v o a b).2)
theorem zDZ {xs : List V} {zs : List Int} {ix : List Nat} {n : Nat} (ok : ∀ m∈zs,0 <= m/\m < 2 ^ xs.length) : OkO xs (zCY zs ix n):=λl hl=>by
 obtain ⟨k,hk⟩:=yAi hl;have e:=zEI hk;exact ok l (List.mem_of_find?_eq_some e.symm)
theorem zE0 {H0 H' : Hp} {D : Addr} {xs ys : List V} {ms : List Int} {ix : List Nat} {rs : List V} (ok : ∀ m∈ms,0 <= m/\m < 2 ^ xs.length) (lt : ∀ k,maskN (ix.take k) < 2 ^ xs.length) (e : H' D = some (.lst rs)) (l : rs.length = ys.length + 1) (h : ∀ (k : Nat) v,rs[k]? = some v -> v ≠ .ref D/\FallRow H0 H' xs v (zGG xs.length ms (maskN (ix.take k)))) : Falls H0 H' D xs (zCY ms ix ys.length) rs:=by
 refine ⟨e,by rw [l,zGD],λk v o a b => ?_⟩;obtain ⟨n,f⟩:=h k v a;refine ⟨n,?_⟩;rw [zEI b];have : zGG xs.length ms (maskN (ix.take k)) = zBV ms ((maskN (ix.take k) : Nat) : Int):=zNG ok (yCQ _) (by exact_mod_cast lt k);rw [this] at f;exact f
theorem RowIx.ltk {H : Hp} {r : Addr} {xs ys : List V} {ix : List Nat} (h : RowIx H r xs ys ix) (k : Nat) : maskN (ix.take k) < 2 ^ xs.length:=zHD _ (ix.take k) rfl (h.nd.sublist (yCW _ _)) λi hi=>by
 obtain ⟨j,hj⟩:=yAi (List.mem_of_mem_take hi);obtain ⟨y,h1,_⟩:=h.at_ j i hj;exact (yAE.mp h1).1
theorem RowIx.few {H : Hp} {r : Addr} {xs ys : List V} {ix : List Nat} (hR : RowIx H r xs ys ix) : ys.length <= xs.length:=by
 have hs : ix ⊆ List.range xs.length:=λk hk=>by
  obtain ⟨j,hj⟩:=yAi hk;obtain ⟨y,h1,_⟩:=hR.at_ j k hj;exact yBL.mpr (yAE.mp h1).1
 have p : ix.Perm ((List.range xs.length).filter λk=>decide (k∈ix)):=(yCM hR.nd (List.nodup_range.sublist yCK)).mpr λk=>by
  rw [yBx,yAT];exact ⟨λh=>⟨hs h,h⟩,λh=>h.2⟩
 have l1:=p.length_eq;have l2:=yBc (λk=>decide (k∈ix)) (List.range xs.length);rw [yAw] at l2
 have:=hR.len
 lia
noncomputable def zT5 : Sp:=λvs H Q _=>∃ nm M R xs ms ys ix,vs = [.ref nm,.ref M,.ref R]/\H nm = some (.lst xs)/\GN xs/\H M = some (.lst (IV ms))/\ms.length <= 256/\MsOk xs.length ms/\H R = some (.lst ys)/\RowIx H R xs ys ix/\∀ D H' rs zs,H D = none -> Same H H' -> zs.Perm ms -> zRW zs -> Falls H H' D xs (zCY zs ix ys.length) rs -> Q (.ref D) H'
theorem scFDue : FnScope ["_law_names_here","_law_masks_here","_law_row","_law_ranked","_law_due_here","_law_many","_law_lot"] ["_law_names_here","_law_masks_here","_law_row"] (zA8 zFG):=by trivial
set_option maxHeartbeats 2000000 in
theorem zV0 {f a1 a2 a3 a4 : Addr} {fd d1 d2 d3 d4 : FuncData} (F : Fun K "_law_due" "_law_due" zFG f fd) (T : Txt mg)
  (D1 : Def P w K mg base 3 "_law_in_order" ["_law_masks_here"] (zLU K) a1 d1) (D2 : Def P w K mg base 1 "_law_stands" ["_law_masks_here","_law_fallen"] (zGY K) a2 d2) (D3 : Def P w K mg base 1 "_law_mask_of" ["_law_names_here","_law_some"] zFJ a3 d3) (D4 : Def P w K mg base 1 "_law_named" ["_law_names_here","_law_mask"] (zQV K) a4 d4) :
  FnOk P w K mg base CX0 4 f fd ["_law_names_here","_law_masks_here","_law_row"] zT5:=by
 refine F.ok scFDue (λvs H Q E h => ?_) (λcdv A outer s H vs Q E hr h => ?_)
 ·obtain ⟨nm,M,R,xs,ms,ys,ix,rfl,_⟩:=h
  rfl
 obtain ⟨nm,M,R,xs,ms,ys,ix,rfl,hnm,hG,hM,l256,ok,hRl,hR,q⟩:=h;have hr1 : Room 1 _:=hr.mono (by decide);have hhi:=hG.hi;have p12:=zS7 hhi;have s1000 : 1000 < sizeLine:=by decide
 have few:=hR.few
 refine ⟨_,zA2 (zAB (i:=3) scFDue.nd rfl (Or.inl rfl) (zAA D1.ok hr rfl D1.m D1.k D1.b .nil zAF (zA0 (pv 1) zA3)))
  (zA2 (zAB (i:=4) scFDue.nd rfl (Or.inl rfl) (zBK zA3))
  (zA2 (zBL PassesOwn.never rfl (zB5 rfl T.range (zA0 (zA9 zAX (zAC zAH rfl T.len yBH (zA0 (pv 2) zA3)) zA4) zA3)) (zAD (i:=5) scFDue.nd rfl (Or.inl rfl))
   (zA2 (zAB (i:=6) scFDue.nd rfl (Or.inl rfl) (zAA D2.ok hr1 rfl D2.m D2.k D2.b .nil zAF (zA0 (pv 3) (zA0 (zAA D3.ok hr1 rfl D3.m D3.k D3.b .nil zAF (zA0 (pv 0) (zA0 (zAJ zAT (pv 2) zAN (zAL (pv 5))) zA3))) zA3))))
   (zA5 (zBO (zFA yBE yBS yBR zBC (pv 4) (zA0 (zF3 (zAI zXH (pv 6) zCK (zAO _)) zCK (zAA D4.ok hr1 rfl D4.m D4.k D4.b .nil zAF (zA0 (pv 0) (zA0 (pv 6) zA3)))) zA3))))))
  (zA5 (zAE (pv 4))))),?_⟩
 refine ⟨_,rfl,M,ms,rfl,.inl (SqL.of hM),by lia,λm hm=>⟨(ok.ok m hm).1,by have:=(ok.ok m hm).2; lia⟩,λZ H1 zs hZ g1 lZ pz sz => ?_⟩;refine ⟨(by show 0 <= sizeLine; decide),λD hD => ?_⟩;obtain ⟨H2,g2,c2,e0⟩:=zB4 hD (.lst []);rw [e0];clear e0;have g12:=g1.trans g2;have okz : ∀ m∈zs,0 <= m/\m < 2 ^ xs.length:=λm hm=>ok.ok m (pz.mem_iff.mp hm);refine ⟨_,rfl,R,_,rfl,.inl (SqL.of (g12 _ _ hRl)),_,_,rfl,rfl,((ys.length + 1 : Nat) : Int),congrArg (λz=>[V.int z]) (by lia),by lia,by lia,?_⟩;rw [yAS];refine zCJ (lo:=0) (λi σ H'=>∃ v5 v6 rs,σ = [some (.ref nm),some (.ref M),some (.ref R),some (.ref Z),some (.ref D),v5,v6]/\Same H1 H'/\H' D = some (.lst rs)/\rs.length = i/\∀ (k : Nat) v,rs[k]? = some v -> v ≠ .ref D/\FallRow H1 H' xs v (zBV zs ((maskN (ix.take k) : Nat) : Int))) ⟨_,_,[],rfl,g2,c2,rfl,λk v h=>by simp at h⟩ (λi σ H' hi hP => ?_) (λσ H' hP => ?_)
 ·obtain ⟨v5,v6,rs,rfl,g,lD,lr,rows⟩:=hP
  have iy : i <= ys.length:=by lia
  have ct : zFZ ys none (some ((0 : Int) + (i : Nat))) = ys.take i:=by rw [show (0 : Int) + (i : Nat) = ((i : Nat) : Int) by lia]; exact (zC7 ys iy).2
  have gH:=g1.trans g;refine ⟨_,rfl,_,rfl,_,rfl,_,rfl,_,rfl,R,_,rfl,SqL.of (gH _ _ hRl),λr1 hr1' => ?_⟩;rw [ct];have g3:=same_new hr1' (.lst (ys.take i));have c3 : (upd H' r1 (.lst (ys.take i))) r1 = some (.lst (ys.take i)):=zA1;generalize upd H' r1 (.lst (ys.take i)) = H3 at g3 c3 ⊢;have gH3:=gH.trans g3;refine ⟨nm,r1,xs,_,_,rfl,gH3 _ _ hnm,hG,(hR.same gH3).take i (.inl c3),λH4 g4 => ?_⟩;have g34:=g3.trans g4;refine ⟨Z,zs,_,rfl,.inl (SqL.of (g34 _ _ (g _ _ lZ))),λH5 g5 => ?_⟩;have g35:=g34.trans g5;have lD5:=g35 _ _ lD
  have fin : ∀ (v : V) (H6 : Hp),Same H5 H6 -> v ≠ .ref D -> FallRow H1 H6 xs v (zBV zs ((maskN (ix.take i) : Nat) : Int)) -> Same H1 (upd H6 D (.lst (rs++[v])))/\(upd H6 D (.lst (rs++[v]))) D = some (.lst (rs++[v]))/\(rs++[v]).length = i + 1/\∀ (k : Nat) u,(rs++[v])[k]? = some u -> u ≠ .ref D/\FallRow H1 (upd H6 D (.lst (rs++[v]))) xs u (zBV zs ((maskN (ix.take k) : Nat) : Int)):=λv H6 g6 vD fr=>by
   have g36:=g35.trans g6;have hD1 : H1 D = none:=hD;refine ⟨λc o hc=>by rw [zA7 (zA6 hc hD1)]; exact g36 _ _ (g _ _ hc),zA1,by rw [yAU,lr]; rfl,λk u hk => ?_⟩
   rcases yBs k i with c | c
   ·rw [yBF (by lia)] at hk
    obtain ⟨n,f⟩:=rows k u hk;exact ⟨n,f.step n g36 rfl⟩
   ·have ek : k = i:=by
     have:=(yAE.mp hk).1
     rw [yAU,lr] at this
     simp at this
     lia
    subst ek;rw [yBC (by lia),lr,yDW] at hk
    cases hk
    exact ⟨vD,fr.step vD (Same.refl _) rfl⟩
  have lr' : rs.length + 1 <= sizeLine:=by lia
  generalize eo : zBV zs ((maskN (ix.take i) : Nat) : Int) = o at fin ⊢;refine ⟨_,rfl,.inl ⟨rfl,_,SqL.of lD5⟩,_,rfl,rfl,_,rfl,?_⟩
  cases o with
  | none =>
   rw [show decide (zYO none = V.non) = true from rfl];obtain ⟨k1,k2,k3,k4⟩:=fin .non H5 (Same.refl _) (λe=>nomatch e) rfl;exact zIF ⟨D,_,_,rfl,rfl,lD5,lr',_,_,_,rfl,k1,k2,k3,k4⟩
  | some l =>
   rw [show decide (zYO (some l) = V.non) = false from yAL λz=>nomatch z];obtain ⟨l0,l1⟩:=okz l (List.mem_of_find?_eq_some eo);refine zCW ⟨_,rfl,_,rfl,nm,xs,l,rfl,.inl (SqL.of (g35 _ _ (gH _ _ hnm))),hhi,l0,l1,λS1 H6 hS1 g6 l6 => ?_⟩
   have SD : V.ref S1 ≠ .ref D:=λe=>by
    cases e
    rw [lD5] at hS1; cases hS1
   obtain ⟨k1,k2,k3,k4⟩:=fin (.ref S1) H6 g6 SD ⟨S1,rfl,g.free (g35.free hS1),l6⟩;exact ⟨D,_,_,rfl,rfl,g6 _ _ lD5,lr',_,_,_,rfl,k1,k2,k3,k4⟩
 ·obtain ⟨v5,v6,rs,rfl,g,lD,lr,rows⟩:=hP
  refine ⟨_,rfl,q D H' rs zs (g1.free hD) (g1.trans g) pz sz ⟨lD,by rw [lr,zGD],λk v o a b => ?_⟩⟩;rw [zEI b];exact ⟨(rows k v a).1,(rows k v a).2.from g1⟩
theorem zYS : bootBuiltins "abs" = some (.builtin "abs"):=by decide +kernel
noncomputable def compI (n : Nat) (ms : List Int) : List Int:=ms.map λm=>2 ^ n - 1 - m
theorem zS9 {n : Nat} {ms : List Int} (h : MsOk n ms) : MsOk n (compI n ms):=by
 have p0 : (0 : Int) < 2 ^ n:=pow_pos n;refine ⟨yBY.mpr (h.nd.imp λ{a b} ne e=>ne (by lia)),λm hm => ?_⟩;obtain ⟨l,hl,rfl⟩:=yBA.mp hm
 have:=h.ok l hl
 lia
theorem zGV (xs : List V) : (PyData.list (dS xs)).depth <= 100:=by have:=zDB xs; simp only [PyData.depth]; lia
theorem RowIx.strs {H : Hp} {r : Addr} {xs ys : List V} {ix : List Nat} (hG : GN xs) (h : RowIx H r xs ys ix) : zTF ys:=λv hv=>hG.strs v (h.sub v hv)
noncomputable def Loose (H0 H' : Hp) (To : Addr) (v : V) (k : Nat) : Prop:=v = .non \/ ∃ r zs,v = .ref r/\H0 r = none/\r≠To/\H' r = some (.lst zs)/\zs.length <= k
theorem Loose.of {H0 H' : Hp} {To : Addr} {xs : List V} {v : V} : ∀ {o : Option Int},v ≠ .ref To -> FallRow H0 H' xs v o -> Loose H0 H' To v 12
 | none,_,h => .inl h
 | some l,n,⟨r,e,h0,h1⟩ => .inr ⟨r,_,e,h0,(λz=>n (by rw [e,z])),h1,zRL _ _⟩
noncomputable def zKH : Sp:=λvs H Q _=>∃ c,vs = [.int c]/\∀ H',Same H H' -> Q (.bl true) H'
theorem scFRight : FnScope ["_law_cell","_law_names_here","_law_masks_here","_law_system","_law_others","_law_other","_law_lap","_law_row","_law_due_here","_law_handed_here","_law_told_here","_law_lot"] ["_law_cell"] (zA8 zDM):=by trivial
set_option maxHeartbeats 4000000 in
theorem zPD {f CS C fS c1 c2 c3 c4 c5 c6 c7 : Addr} {fd dS' e1 e2 e3 e4 e5 e6 e7 : FuncData} (F : Fun K "_law_right" "_law_right" zDM f fd) (T : Txt mg) (mt : mg "tuple" = none) (mab : mg "abs" = none)
  (DW : Def P w K mg base 3 "_law_world" ["_law_cell"] zKP c1 e1) (DH : Def P w K mg base 2 "_law_handed" ["_law_names_here","_law_masks_here","_law_at"] (zJ0 K) c2 e2) (DR : Def P w K mg base 1 "_law_row_of" ["_law_names_here","_law_draws"] zLK c3 e3)
  (DD : Def P w K mg base 1 "_law_drawn" ["_law_cell","_law_sizes"] (zF0 K) c4 e4) (DU : Def P w K mg base 4 "_law_due" ["_law_names_here","_law_masks_here","_law_row"] zT5 c5 e5) (DF : Def P w K mg base 6 "falling" ["system","order"] (zF8 CS C) c6 e6)
  (DO : Def P w K mg base 6 "_law_hopes_right" ["_law_system","_law_names_here","_law_masks_here","_law_row"] (zOR K CS C) c7 e7)
  (MS : Mk K CS fS) (OS : FnOk P w K mg base CX0 6 fS dS' ["self","houses","lots"] (zHH CS C)) (bS : Binds K dS' ["self","houses","lots"] []) (mS : mg "System" = some (.ref CS)) :
  FnOk P w K mg base CX0 8 f fd ["_law_cell"] zKH:=by
 refine F.ok scFRight (λvs H Q E h => ?_) (λcdv A outer s H vs Q E hr h => ?_)
 ·obtain ⟨c,rfl,_⟩:=h
  rfl
 obtain ⟨c,rfl,q⟩:=h;have hr1 : Room 1 _:=hr.mono (by decide);have hr2 : Room 2 _:=hr.mono (by decide);have hr3 : Room 3 _:=hr.mono (by decide);have hr4 : Room 4 _:=hr.mono (by decide);have hr6 : Room 6 _:=hr.mono (by decide);have s1000 : 1000 < sizeLine:=by decide
 refine ⟨_,zA2 (zPX (zAA DW.ok hr3 rfl DW.m DW.k DW.b .nil zAF (zA0 (pv 0) zA3)) (zP7 (n:=2) rfl (zBD (zAD (i:=1) scFRight.nd rfl (Or.inr rfl)) (zBD (zAD (i:=2) scFRight.nd rfl (Or.inl rfl)) zEG))))
  (zA2 (zAB (i:=3) scFRight.nd rfl (Or.inl rfl) (zHG MS OS hr rfl mS bS .nil zAF (zA0 (pv 1) (zA0 (zAA DH.ok hr2 rfl DH.m DH.k DH.b .nil zAF (zA0 (pv 1) (zA0 (pv 2) (zA0 (zAC zH6 rfl mab zYS (zA0 (pv 0) zA3)) zA3)))) zA3))))
  (zA2 (zSN (i:=4) (xs:=["_law_mask"]) (fv:=[("_law_names_here",1)]) scFRight.nd rfl rfl rfl (by decide +kernel) ⟨⟨rfl,Or.inl rfl,rfl⟩,trivial⟩ (zBX (pv 2)) (λ_ _ _ _ _=>zAD (i:=0) (ndT (by decide +kernel)) rfl (Or.inl rfl)) (λ_ _ _ _ _=>zCH)
    (λ_ _ _ _ _=>zA9 zI0 (zA9 zI0 (zA9 zCM zA4 (zAC (zFD (K:=K) rfl) rfl T.len yBH (zA0 (pv 1) zA3))) zA4) (pv 0)))
  (zA2 (zAB (i:=5) scFRight.nd rfl (Or.inl rfl) (zHG MS OS hr rfl mS bS .nil zAF (zA0 (pv 1) (zA0 (zAA DH.ok hr2 rfl DH.m DH.k DH.b .nil zAF (zA0 (pv 1) (zA0 (pv 4) (zA0 zA4 zA3)))) zA3))))
  (zA2 (zBL PassesOwn.never rfl (zB5 rfl T.range (zA0 zA4 zA3)) (zAD (i:=6) scFRight.nd rfl (Or.inl rfl))
   (zA2 (zAB (i:=7) scFRight.nd rfl (Or.inl rfl) (zAA DR.ok hr1 rfl DR.m DR.k DR.b .nil zAF (zA0 (pv 1) (zA0 (zAA DD.ok hr1 rfl DD.m DD.k DD.b .nil zAF (zA0 (zA9 zAX (zA9 zAY (zAC zH6 rfl mab zYS (zA0 (pv 0) zA3)) (zA9 zLO zA4 zA4)) (pv 6)) (zA0 (zA9 zKO (zBK (zA0 zA4 zA3)) zA4) zA3))) zA3))))
   (zA2 (zAB (i:=8) scFRight.nd rfl (Or.inl rfl) (zAA DU.ok hr4 rfl DU.m DU.k DU.b .nil zAF (zA0 (pv 1) (zA0 (pv 2) (zA0 (pv 7) zA3)))))
   (zA2 (zAB (i:=9) scFRight.nd rfl (Or.inl rfl) (zF3 (zAI zD4 (pv 6) zA4 (zAO _)) (zB0 zB9 rfl mt yBW (zA0 (pv 7) zA3)) (zB0 zCE rfl T.list yBB (zA0 (pv 7) zA3))))
   (zA2 (zAB (i:=10) scFRight.nd rfl (Or.inl rfl) (zAA DF.ok hr6 rfl DF.m DF.k DF.b .nil zAF (zA0 (pv 3) (zA0 (pv 9) zA3))))
   (zA2 (zBA (PW.pt (zHE (zBS (zBU (zAC zBR rfl T.inst yAj (zA0 (pv 10) (zA0 (zBF (v := .ty "list") rfl T.list yBB rfl) zA3))))) (zHE (zAI (zFN hr) (pv 10) (pv 8) (zAO _)) (zES (zAI (zFN hr) (zB0 zCE rfl T.list yBB (zA0 (pv 9) zA3)) (pv 7) (zAO _)))))) zAP zAG)
   (zA2 (zBL PassesOwn.never rfl (zBX (pv 10)) (zAD (i:=11) scFRight.nd rfl (Or.inl rfl))
    (zA5 (zBA (zAI zK0 (pv 11) zCK (zAO _)) (zA5 (zBO (zFA yBE yBS yBR zBC (pv 11) (zA0 zDT zA3)))) zAG)))
   (zA2 (zBO (zYH yBE PySem.F.slot_list_clear PySem.F.type_list_clear zS2 (pv 10)))
   (zA2 (zBA (zAI (zFN hr) (zAA DF.ok hr6 rfl DF.m DF.k DF.b .nil zAF (zA0 (pv 5) (zA0 (pv 7) zA3))) (zAA DU.ok hr4 rfl DU.m DU.k DU.b .nil zAF (zA0 (pv 1) (zA0 (pv 4) (zA0 (pv 7) zA3)))) (zAO _)) zAP zAG)
   (zA2 (zBA (zBS (zBU (zAA DO.ok hr6 rfl DO.m DO.k DO.b .nil zAF (zA0 (pv 5) (zA0 (pv 1) (zA0 (pv 4) (zA0 (pv 7) zA3))))))) zAP zAG)
   (zA5 (zBA (PW.pt (zHE (zAI (zFN hr) (zAA DF.ok hr6 rfl DF.m DF.k DF.b .nil zAF (zA0 (pv 3) (zA0 (pv 7) zA3))) (pv 8) (zAO _)) (zES (zBS (zBU (zAA DO.ok hr6 rfl DO.m DO.k DO.b .nil zAF (zA0 (pv 3) (zA0 (pv 1) (zA0 (pv 2) (zA0 (pv 7) zA3)))))))))) zAP zAG))))))))))))
  (zA5 (zAE zEU)))))),?_⟩
 refine sHD λB1 X1 f1 e1 => ?_;refine ⟨_,rfl,c,rfl,λt nm M xs ms H1 ht hnm hM g1 lt lnm are x8 lM ok l256 => ?_⟩;have hG:=zH5 are;refine ⟨t,_,rfl,SqT.of lt,rfl,_,_,rfl,_,_,rfl,rfl,?_⟩;refine sR f1 (sH λB2 f2 => ?_);have hhi:=hG.hi;have lI : ∀ l : List Int,(IV l).length = l.length:=λl=>by unfold IV; rw [yAC]
 refine ⟨_,rfl,_,rfl,_,rfl,_,rfl,c,rfl,nm,M,xs,ms,_,rfl,lnm,hG,lM,l256,ok,λL H2 vs' ns hL g2 lL pn R p dx hp hdx ne => ?_⟩;have okn : MsOk xs.length ns:=⟨pn.nodup_iff.mpr ok.nd,λm hm=>ok.ok m (pn.mem_iff.mp hm)⟩;refine zHC (b:=0) (H0:=λ_=>none) hG are okn (by rw [pn.length_eq]; lia) (.lst (g2 _ _ lnm)) (.lst lL) R hp hdx λH3 zs g3 S3 pz O=>⟨rfl,?_⟩;have pm : zs.Perm ms:=pz.trans pn;have g13:=g2.trans g3;refine sR f2 (sH λB3 f3 => ?_);refine ⟨_,rfl,M,rfl,?_⟩;refine zGU (K:=K) (ys:=IV ms) (.inl (SqL.of (g13 _ _ lM))) (λi D H'=>Same H3 H'/\H' D = some (.lst (IV (compI xs.length (ms.take i))))) (λD hD=>⟨same_new hD _,zA1⟩) (λi D H' hD hP=>hP.1.at1 M) (λi D H' x hD hi hx hP => ?_) (λOM H4 hOM hP => ?_)
 ·obtain ⟨g,lD⟩:=hP
  rw [lI] at hi;unfold IV at hx;rw [yAb,yAB hi] at hx
  cases hx
  have e0 : (1 : Int) * 2 ^ ((xs.length : Nat) : Int).toNat - 1 - ms[i] = 2 ^ xs.length - 1 - ms[i]:=by rw [yCS,yAS]
  refine ⟨rfl,?_⟩;unfold zKA
  (try dsimp only)
  rw [yAK rfl];refine ⟨_,rfl,nm,xs,rfl,.inl (SqL.of (g _ _ (g13 _ _ lnm))),_,_,rfl,rfl,⟨by show (0 : Int) <= ((xs.length : Nat) : Int); lia,by show ((xs.length : Nat) : Int) <= 1000000; lia,by decide⟩,_,_,rfl,rfl,_,rfl,_,_,rfl,rfl,_,lD,?_,λb o e => ?_,?_⟩
  ·rw [lI]; unfold compI; rw [yAC,yAf]; lia
  ·rw [zA7 (zA6 e hD)]; exact g _ _ e
  ·have et : ms.take (i + 1) = ms.take i++[ms[i]]:=by rw [List.take_succ,yAB hi]; rfl
   rw [zA1,et];unfold compI IV;rw [yAa,yAa];exact congrArg (λz=>some (HO.lst (_++[V.int z]))) e0
 obtain ⟨g4,lO⟩:=hP;rw [lI,yCf] at lO;have okc:=zS9 ok;have lc : (compI xs.length ms).length <= 256:=by unfold compI; rw [yAC]; exact l256
 generalize compI xs.length ms = os at lO okc lc;have g14:=g13.trans g4;refine sR f3 (sH λB4 f4 => ?_);refine ⟨_,rfl,_,rfl,_,rfl,nm,OM,xs,os,_,rfl,g14 _ _ lnm,hG,lO,lc,okc,λL5 H5 vs5 ns5 hL5 g5 lL5 pn5 R5 p5 dx5 hp5 hdx5 ne5 => ?_⟩;have okn5 : MsOk xs.length ns5:=⟨pn5.nodup_iff.mpr okc.nd,λm hm=>okc.ok m (pn5.mem_iff.mp hm)⟩;refine zHC (b:=0) (H0:=λ_=>none) hG are okn5 (by rw [pn5.length_eq]; lia) (.lst ((g14.trans g5) _ _ lnm)) (.lst lL5) R5 hp5 hdx5 λH6 us g6 S6 pz6 O6=>⟨rfl,?_⟩;have pu : us.Perm os:=pz6.trans pn5;have g16:=(g14.trans g5).trans g6;have g36:=(g4.trans g5).trans g6;have S3':=S3.same g36;have lnm6:=g16 _ _ lnm;have lM6:=g16 _ _ lM;have lO6:=(g5.trans g6) _ _ lO;have gH6:=g1.trans g16;clear g2 g3 g4 g5 g6 g13 g14 g36 R R5 lL lL5 S3 lnm lM lO;refine sR f4 (sfH λbd eb B5 f5 => ?_);refine ⟨2,rfl,by decide,by decide,?_⟩;refine zCJ (lo:=0) (λlap σ H'=>∃ v6 v7 v8 v9 v10 v11,σ = [some (.int c),some (.ref nm),some (.ref M),some (.ref p),some (.ref OM),some (.ref p5),v6,v7,v8,v9,v10,v11]/\Same H6 H') ⟨_,_,_,_,_,_,rfl,Same.refl _⟩ (λlap σ H' hi hP => ?_) (λσ H' hP => ?_)
 ·obtain ⟨v6,v7,v8,v9,v10,v11,rfl,g⟩:=hP
  refine gNs (sR eb (sH λC1 k1 => ?_));have p17 : zVA 10 17:=⟨by decide,by decide,by decide⟩;have pos : (0 : Int) < 10 ^ (17 : Int).toNat:=by decide
  refine ⟨_,rfl,_,rfl,c,rfl,_,_,rfl,rfl,p17,_,_,rfl,rfl,pos,_,rfl,_,_,rfl,rfl,(by show 1 <= sizeLine; decide),λl2 hl2 => ?_⟩;have g2:=same_new hl2 (.lst [.int 99]);have c2 : (upd H' l2 (.lst [.int 99])) l2 = some (.lst [.int 99]):=zA1;generalize upd H' l2 (.lst [.int 99]) = H2 at g2 c2 ⊢;refine ⟨l2,9,_,rfl,rfl,c2,by decide,by decide,(by show 9 <= sizeLine; decide),λl3 hl3 => ?_⟩;have g3:=same_new hl3 (.lst (List.replicate (9 : Int).toNat [V.int 99]).flatten);have c3 : (upd H2 l3 (.lst (List.replicate (9 : Int).toNat [V.int 99]).flatten)) l3 = some (.lst (IV (List.replicate 9 99))):=zA1;generalize upd H2 l3 (.lst (List.replicate (9 : Int).toNat [V.int 99]).flatten) = H3 at g3 c3 ⊢;refine ⟨_,l3,List.replicate 9 99,rfl,c3,by decide,by decide,λA H4 fs hA g4 lA hB => ?_⟩;have g24:=((g2.trans g3).trans g4);have gT:=g.trans g24;have f9 : fs.length = 9:=hB.1
  have f0 : ∀ d∈fs,0 <= d:=λd hd=>by
   obtain ⟨j,hj⟩:=yAi hd;have hj9 : j < 9:=by have:=(yAE.mp hj).1; lia
   exact (hB.2 j d 99 hj (by rw [yDN,yAK hj9])).1
  refine ⟨nm,A,xs,fs,rfl,gT _ _ lnm6,x8,lA,f9,f0,λR H5 ys ix hR g5 lR RI => ?_⟩;have gT5:=gT.trans g5;refine sR k1 (sH λC2 k2 => ?_);refine ⟨_,rfl,_,rfl,_,rfl,nm,M,R,xs,ms,ys,ix,rfl,gT5 _ _ lnm6,hG,gT5 _ _ lM6,l256,ok,lR,RI,λDu H6' rsd zs' hDu g6 pz' sz' FD => ?_⟩;obtain rfl : zs' = zs:=zDY hhi (pz'.trans pm.symm) (λm hm=>ok.ok m (pz'.mem_iff.mp hm)) sz' O.ord;have gT6:=gT5.trans g6;have lR6:=g6 _ _ lR;have RI6:=RI.same g6;clear g2 c2 g3 c3 g24 hB;refine sR k2 (sHD λC3 X3 k3 e3 => ?_);have sY:=RI.strs hG;have okO : OkO xs (zCY zs' ix ys.length):=zDZ O.ok;have okO2 : OkO xs (zCY us ix ys.length):=zDZ O6.ok
  have tail : ∀ (hd : Addr) (Ha : Hp),Same H6' Ha -> RowIx Ha hd xs ys ix -> C3 X3 [some (.int c),some (.ref nm),some (.ref M),some (.ref p),some (.ref OM),some (.ref p5),some (.int (0 + (lap : Nat))),some (.ref R),some (.ref Du),some (.ref hd),v10,v11] Ha:=λhd Ha ga Rh=>by
   subst e3;refine sR k3 (sH λC4 k4 => ?_);have gTa:=gT6.trans ga;refine ⟨_,rfl,_,rfl,p,hd,xs,zs',ys,ix,rfl,S3'.same gTa,O,Rh,λTo Hb rs hTo gb lTo lrs rows => ?_⟩;have FT:=zE0 O.ok Rh.ltk lTo lrs rows;have FD2:=(FD.same ga).same gb;refine sR k4 (sH λC5 k5 => ?_);refine ⟨_,rfl,.ref To,.type "list","list",true,rfl,.lst lTo,rfl,_,rfl,zCW ?_⟩;refine ⟨_,rfl,_,rfl,zC6 (FT.data hG okO) (FD2.data hG okO) (zAV hG okO).1 (zAV hG okO).2 (yBr _ (zAV hG okO).1) ⟨_,rfl,zCW ?_⟩⟩;refine ⟨_,rfl,hd,ys,rfl,(Rh.same gb).row.imp SqL.of SqT.of,λl6 hl6 => ?_⟩;obtain ⟨Hc,gc,cc,e0⟩:=zB4 hl6 (.lst ys);rw [e0];clear e0;have gac:=gb.trans gc;refine ⟨_,rfl,zC6 (d := .list (dS ys)) (.lst (SqL.of cc) (zBQ sY)) (.lst (SqL.of (gac _ _ (ga _ _ lR6))) (zBQ sY)) (zCD sY) (zGV ys) (yBr _ (zCD sY)) ⟨_,rfl,zCW ?_⟩⟩
   have lo : ∀ (k : Nat) v,rs[k]? = some v -> Loose Ha Hc To v 12:=λk v hk=>by
    have ho : ∃ o,(zCY zs' ix ys.length)[k]? = some o:=by
     have h1:=(yAE.mp hk).1;exact ⟨_,yAB (by rw [<- FT.2.1]; exact h1)⟩
    obtain ⟨o,ho⟩:=ho;obtain ⟨n,f⟩:=FT.2.2 k v o hk ho;exact Loose.of n (f.same gc)
   have lTo':=gc _ _ lTo;have lr13 : rs.length <= 13:=by have:=RI.few; lia
   refine sR k5 (sfH λbd2 eb2 C6 k6 => ?_);refine ⟨_,rfl,To,rfl,?_⟩;refine zC4 (K:=K) (ys:=rs) (.inl (SqL.of lTo')) (λi σ H'=>∃ v11,σ = [some (.int c),some (.ref nm),some (.ref M),some (.ref p),some (.ref OM),some (.ref p5),some (.int (0 + (lap : Nat))),some (.ref R),some (.ref Du),some (.ref hd),some (.ref To),v11]/\Same Ha H'/\H' To = some (.lst rs)/\∀ (k : Nat) v,rs[k]? = some v -> Loose Ha H' To v (12 + i)) ⟨_,rfl,gac,lTo',lo⟩ (λi σ H' hP => ?_) (λi σ H' x hi hx hP => ?_) (λσ H' hP => ?_)
   ·obtain ⟨_,_,_,h,_⟩:=hP
    exact λo e=>by rw [lTo'] at e; cases e; exact h
   ·obtain ⟨w11,rfl,gi,li,lo'⟩:=hP
    refine gNs (sR eb2 ?_);refine ⟨_,rfl,rfl,_,rfl,?_⟩
    rcases lo' i x hx with rfl | ⟨r,ws,rfl,hr0,rT,hr',lw⟩
    ·exact zCW ⟨_,rfl,gi,li,λk v hk=>(lo' k v hk).imp id λ⟨r,ws,a,b,c,d,e⟩=>⟨r,ws,a,b,c,d,by lia⟩⟩
    ·refine zIF ⟨_,rfl,.inl ⟨rfl,_,SqL.of hr'⟩,r,ws,_,rfl,rfl,hr',by lia,_,rfl,λb o e => ?_,?_,λk v hk => ?_⟩
     ·rw [zA7 (zA6 e hr0)]; exact gi _ _ e
     ·rw [zA7 rT.symm]; exact li
     ·rcases lo' k v hk with rfl | ⟨r2,ws2,rfl,h0,h1,h2,h3⟩
      ·exact .inl rfl
      ·by_cases e : r2 = r
       ·subst e
        rw [hr'] at h2
        cases h2
        exact .inr ⟨r2,_,rfl,h0,h1,zA1,by rw [yAU]; show ws.length + 1 <= _; lia⟩
       ·exact .inr ⟨r2,ws2,rfl,h0,h1,by rw [zA7 e]; exact h2,by lia⟩
   ·obtain ⟨w11,rfl,gi,li,_⟩:=hP
    refine sR k6 (sH λC7 k7 => ?_);refine ⟨_,rfl,.inl ⟨rfl,_,SqL.of li⟩,To,rs,rfl,rfl,li,?_⟩;have gq : Same Ha (upd H' To (.lst [])):=λb o e=>by rw [zA7 (zA6 e hTo)]; exact gi _ _ e
    generalize upd H' To (.lst []) = H8 at gq ⊢;have gT8:=gTa.trans gq;have lR8:=gq _ _ (ga _ _ lR6);have RI8:=(RI6.same ga).same gq;have FD8:=(FD.same ga).same gq;refine sR k7 (sH λC8 k8 => ?_);refine ⟨_,rfl,_,rfl,p5,R,xs,us,ys,ix,rfl,S6.same gT8,O6,RI8,λTo2 H9 rs2 hTo2 g9 l2 lr2 rows2 => ?_⟩;have FT2:=zE0 O6.ok RI8.ltk l2 lr2 rows2;have gT9:=gT8.trans g9;refine ⟨_,rfl,_,rfl,_,rfl,nm,OM,R,xs,os,ys,ix,rfl,gT9 _ _ lnm6,hG,gT9 _ _ lO6,lc,okc,g9 _ _ lR8,RI8.same g9,λDu2 HA rsd2 us' hDu2 gA pu' su' FDA => ?_⟩;obtain rfl : us' = us:=zDY hhi (pu'.trans pu.symm) (λm hm=>okc.ok m (pu'.mem_iff.mp hm)) su' O6.ord;refine zC6 ((FT2.same gA).data hG okO2) (FDA.data hG okO2) (zAV hG okO2).1 (zAV hG okO2).2 (yBr _ (zAV hG okO2).1) ⟨_,rfl,zCW ?_⟩;have gTA:=gT9.trans gA;have g8A:=g9.trans gA;refine sR k8 (sH λC9 k9 => ?_);refine ⟨_,rfl,_,rfl,_,rfl,_,rfl,p5,nm,OM,R,xs,os,us',ys,ix,rfl,S6.same gTA,O6,gTA _ _ lnm6,gTA _ _ lO6,okc,pu,g8A _ _ lR8,RI8.same g8A,λHB gB=>⟨_,rfl,zCW ?_⟩⟩;have gTB:=gTA.trans gB;have g8B:=g8A.trans gB;refine sR k9 ?_;refine ⟨_,rfl,_,rfl,p,R,xs,zs',ys,ix,rfl,S3'.same gTB,O,RI8.same g8B,λTo3 HC rs3 hTo3 gC l3 lr3 rows3 => ?_⟩;have FT3:=zE0 O.ok (RI8.same g8B).ltk l3 lr3 rows3;have gTC:=gTB.trans gC;have g8C:=g8B.trans gC;refine ⟨_,rfl,zC6 (FT3.data hG okO) ((FD8.same g8C).data hG okO) (zAV hG okO).1 (zAV hG okO).2 (yBr _ (zAV hG okO).1) ⟨_,rfl,zCW ?_⟩⟩;refine ⟨_,rfl,_,rfl,_,rfl,_,rfl,p,nm,M,R,xs,ms,zs',ys,ix,rfl,S3'.same gTC,O,gTC _ _ lnm6,gTC _ _ lM6,ok,pm,g8C _ _ lR8,RI8.same g8C,λHD gD=>⟨_,rfl,zCW ?_⟩⟩;exact ⟨_,_,_,_,_,_,rfl,gTC.trans gD⟩
  refine ⟨_,rfl,rfl,_,rfl,?_⟩;refine zEN (λe => ?_) (λe => ?_)
  ·refine ⟨_,rfl,R,ys,rfl,.inl ⟨SqL.of lR6,λhd hhd => ?_⟩⟩
   exact tail hd _ (same_new hhd _) ⟨.inr zA1,RI6.nd,RI6.len,RI6.at_⟩
  ·refine ⟨_,rfl,R,ys,rfl,.inl (SqL.of lR6),λhd hhd => ?_⟩
   exact tail hd _ (same_new hhd _) ⟨.inl zA1,RI6.nd,RI6.len,RI6.at_⟩
 ·obtain ⟨v6,v7,v8,v9,v10,v11,rfl,g⟩:=hP
  subst e1;exact sR f5 (q H' (gH6.trans g))
noncomputable def zKQ : Sp:=λvs H Q _=>∃ c,vs = [.int c]/\(∀ H',Same H H' -> Q .non H')/\∀ D H' xs,H D = none -> Same H H' -> H' D = some (.lst xs) -> xs.length = 12 -> zHL (some xs) = true -> Q (.ref D) H'
noncomputable def zIX : Sp:=λvs H Q _=>∃ nm xs,vs = [.ref nm]/\H nm = some (.lst xs)/\xs.length = 12/\zHL (some xs) = true/\∀ H',Same H H' -> Q (.bl true) H'
theorem zZW {α : Type} {l : List α} (h : l.length = 12) : ∃ a b c d e f g i j k m n,l = [a,b,c,d,e,f,g,i,j,k,m,n]:=by
 obtain _ | ⟨a,_ | ⟨b,_ | ⟨c,_ | ⟨d,_ | ⟨e,_ | ⟨f,_ | ⟨g,_ | ⟨i,_ | ⟨j,_ | ⟨k,_ | ⟨m,_ | ⟨n,_ | ⟨o,r⟩⟩⟩⟩⟩⟩⟩⟩⟩⟩⟩⟩⟩:=l
 all_goals first | exact ⟨_,_,_,_,_,_,_,_,_,_,_,_,rfl⟩ | (exfalso; simp only [yBP,yCs] at h; lia)
structure Twelve (xs : List V) : Prop where
 s1 : zCG xs 1 = xs.take 1
 s2 : zCG xs 4094 = xs.drop 1
 r0 : (xs.drop 1).reverse++xs.take 1 = [11,10,9,8,7,6,5,4,3,2,1,0].map λk=>xs.getD k .non
 r1 : xs.drop 1 = [1,2,3,4,5,6,7,8,9,10,11].map λk=>xs.getD k .non
 r2 : xs.take 2 = [0,1].map λk=>xs.getD k .non
 r3 : xs.take 1 = [0].map λk=>xs.getD k .non
 h1 : zBB xs [1,4094] 4094 = xs.take 1
 h2 : zBB xs [1,4094] 1 = xs.drop 1
theorem zPG {xs : List V} (h : xs.length = 12) : Twelve xs:=by
 have n1 : zC1 1 = [0]:=by decide +kernel
 have n2 : zC1 4094 = [1,2,3,4,5,6,7,8,9,10,11]:=by decide +kernel
 have f1 : (List.range 12).filter (λk => !zAZ 12 [1,4094] (4094 ||| 2 ^ k)) = [0]:=by decide +kernel
 have f2 : (List.range 12).filter (λk => !zAZ 12 [1,4094] (1 ||| 2 ^ k)) = [1,2,3,4,5,6,7,8,9,10,11]:=by decide +kernel
 have e1 : zBB xs [1,4094] 4094 = [0].map λk=>xs.getD k .non:=by unfold zBB; rw [h,f1]
 have e2 : zBB xs [1,4094] 1 = [1,2,3,4,5,6,7,8,9,10,11].map λk=>xs.getD k .non:=by unfold zBB; rw [h,f2]
 have e3 : zCG xs 1 = [(0 : Int)].map λk=>xs.getD k.toNat .non:=by unfold zCG; rw [n1]
 have e4 : zCG xs 4094 = [(1 : Int),2,3,4,5,6,7,8,9,10,11].map λk=>xs.getD k.toNat .non:=by unfold zCG; rw [n2]
 obtain ⟨a,b,c,d,e,f,g,i,j,k,m,n,rfl⟩:=zZW h;exact ⟨e3,e4,rfl,rfl,rfl,rfl,e1,e2⟩
theorem zF6 {H : Hp} {D : Addr} {xs ys : List V} {ix rest : List Nat} (h12 : xs.length = 12) (pm : (ix++rest).Perm (List.range 12)) (e : H D = some (.lst ys)) (ey : ys = ix.map λk=>xs.getD k .non) : RowIx H D xs ys ix:=by
 subst ey;exact zL5 (by rw [h12]; exact pm) e
theorem zI9 {K : PySem.W.Frag} {x y : V} {d : PyData} {H : Hp} {Q : VK} (h1 : DV K H x d) (h2 : DV K H y d) (hl : d.canLay0 = true) (hd : d.depth <= 100) (h : Q (.bl true) H) : zYP K false x y H Q:=⟨d,d,h1,h2,hl,hl,hd,by rw [yBr d hl]; exact h⟩
theorem scFFirst : FnScope ["_law_cell","_law_draws"] ["_law_cell"] (zA8 zB6):=by trivial
set_option maxHeartbeats 2000000 in
theorem zP5 {f c1 c2 : Addr} {fd e1 e2 : FuncData} (F : Fun K "_law_first_or_others" "_law_first_or_others" zB6 f fd) (mab : mg "abs" = none)
  (DD : Def P w K mg base 1 "_law_drawn" ["_law_cell","_law_sizes"] (zF0 K) c1 e1) (DN : Def P w K mg base 1 "_law_names" ["_law_at","_law_step","_law_many"] zGZ c2 e2) : FnOk P w K mg base CX0 2 f fd ["_law_cell"] zKQ:=by
 refine F.ok scFFirst (λvs H Q E h => ?_) (λcdv A outer s H vs Q E hr h => ?_)
 ·obtain ⟨c,rfl,_⟩:=h
  rfl
 obtain ⟨c,rfl,q1,q2⟩:=h
 refine ⟨_,zA2 (zAB (i:=1) scFFirst.nd rfl (Or.inl rfl) (zAA DD.ok hr rfl DD.m DD.k DD.b .nil zAF (zA0 (zA9 zAX (zA9 zAY (zAC zH6 rfl mab zYS (zA0 (pv 0) zA3)) (zA9 zLO zA4 zA4)) zA4) (zA0 (zBK (zA0 zA4 (zA0 zA4 (zA0 zA4 zA3)))) zA3))))
  (zA2 (zBA (zAI zUB (zBH zAR (pv 1) zA4 (λ_ _=>rfl)) zA4 (zAO _)) (zA5 (zAE zCK)) zAG)
  (zA5 (zAE (zAA DN.ok hr rfl DN.m DN.k DN.b .nil zAF (zA0 (zBH zAR (pv 1) zA4 (λ_ _=>rfl)) (zA0 (zBH zAR (pv 1) zA4 (λ_ _=>rfl)) (zA0 zA4 zA3))))))),?_⟩
 have p17 : zVA 10 17:=⟨by decide,by decide,by decide⟩;have pos : (0 : Int) < 10 ^ (17 : Int).toNat:=by decide
 refine ⟨_,rfl,c,rfl,_,_,rfl,rfl,p17,_,_,rfl,rfl,pos,_,_,rfl,rfl,(by show 3 <= sizeLine; decide),λl hl => ?_⟩;have g1:=same_new hl (.lst [.int 6,.int 17,.int 16]);have c1 : (upd H l (.lst [.int 6,.int 17,.int 16])) l = some (.lst (IV [6,17,16])):=zA1;generalize upd H l (.lst [.int 6,.int 17,.int 16]) = H1 at g1 c1 ⊢;refine ⟨_,l,[6,17,16],rfl,c1,by decide,by decide,λD H2 fs hD g2 lD hB => ?_⟩;have g12:=g1.trans g2;obtain ⟨f0,_,a0,_,_⟩:=hB.get (j:=0) rfl;obtain ⟨f1,_,a1,p1,u1⟩:=hB.get (j:=1) rfl;obtain ⟨f2,_,a2,p2,u2⟩:=hB.get (j:=2) rfl;refine ⟨_,rfl,D,_,_,_,rfl,rfl,SqL.of lD,a0,_,_,rfl,rfl,_,rfl,?_⟩;refine zEN (λ_ => ?_) (λ_ => ?_)
 ·exact q1 H2 g12
 ·refine ⟨_,rfl,D,_,_,_,rfl,rfl,SqL.of lD,a1,_,rfl,D,_,_,_,rfl,rfl,SqL.of lD,a2,f1,f2,12,rfl,p1,u1,p2,u2,by decide,by decide,λD2 H3 xs hD2 g3 l3 xl are => ?_⟩
  exact q2 D2 H3 xs (g12.free hD2) (g12.trans g3) l3 (by exact_mod_cast xl) are
theorem scFTwelve : FnScope ["_law_names_here","_law_system","_law_due_here"] ["_law_names_here"] (zA8 zBJ):=by trivial
set_option maxHeartbeats 4000000 in
theorem zMD {f CS C fS c6 c7 : Addr} {fd dS' e6 e7 : FuncData} (F : Fun K "_law_twelve_right" "_law_twelve_right" zBJ f fd) (DF : Def P w K mg base 6 "falling" ["system","order"] (zF8 CS C) c6 e6) (DH : Def P w K mg base 4 "last_hopes" ["system","fallen"] (zJ4 CS C) c7 e7)
  (MS : Mk K CS fS) (OS : FnOk P w K mg base CX0 6 fS dS' ["self","houses","lots"] (zHH CS C)) (bS : Binds K dS' ["self","houses","lots"] []) (mS : mg "System" = some (.ref CS)) :
  FnOk P w K mg base CX0 8 f fd ["_law_names_here"] zIX:=by
 refine F.ok scFTwelve (λvs H Q E h => ?_) (λcdv A outer s H vs Q E hr h => ?_)
 ·obtain ⟨nm,xs,rfl,_⟩:=h
  rfl
 obtain ⟨nm,xs,rfl,hnm,h12,are,q⟩:=h;have hr4 : Room 4 _:=hr.mono (by decide);have hr6 : Room 6 _:=hr.mono (by decide)
 refine ⟨_,zA2 (zAB (i:=1) scFTwelve.nd rfl (Or.inl rfl) (zHG MS OS hr rfl mS bS .nil zAF (zA0 (pv 0) (zA0 (zBK (zA0 (zAJ zAT (pv 0) zAN (zAL zA4)) (zA0 (zAJ zAT (pv 0) (zAL zA4) zAN) zA3))) zA3))))
  (zA2 (zAB (i:=2) scFTwelve.nd rfl (Or.inl rfl) (zA9 zIY (zA9 zKO (zBK (zA0 (zAJ zAT (pv 0) zAN (zAL zA4)) zA3)) zA4) (zBK (zA0 (zAJ zAT (pv 0) zAN (zAL zA4)) (zA0 zCK zA3)))))
  (zA2 (zBA (PW.pt (zHE (zAI (zFN hr) (zAA DF.ok hr6 rfl DF.m DF.k DF.b .nil zAF (zA0 (pv 1) (zA0 (zA9 zIY (zUY (p4:=⟨0,0,0,0⟩) (pv 0)) (zAJ zAT (pv 0) zAN (zAL zA4))) zA3))) (pv 2) (zAO _))
    (zES (zAI (zFN hr) (zAA DH.ok hr4 rfl DH.m DH.k DH.b .nil zAF (zA0 (pv 1) (zA0 (zAJ zAT (pv 0) (zAL zA4) zAN) zA3))) (zAJ zAT (pv 0) zAN (zAL zA4)) (zAO _))))) zAP zAG)
  (zA5 (zAE (zGM (zD0 (zSU hr) (zAA DF.ok hr6 rfl DF.m DF.k DF.b .nil zAF (zA0 (pv 1) (zA0 (zAJ zAT (pv 0) zAN (zAL zA4)) zA3))) (zBK (zA0 (zAJ zAT (pv 0) zAN (zAL zA4)) (zA0 (zAJ zAT (pv 0) (zAL zA4) zAN) (zA0 zCK zA3)))) (zAO _))
    (zGB (zD0 (zSU hr) (zAA DH.ok hr4 rfl DH.m DH.k DH.b .nil zAF (zA0 (pv 1) (zA0 (zAJ zAT (pv 0) zAN (zAL zA4)) zA3))) (zAJ zAT (pv 0) (zAL zA4) zAN) (zAO _)))))))),?_⟩
 have hG:=zH5 are;have TW:=zPG h12;have u1 : zFZ xs none (some 1) = xs.take 1:=(zC7 xs (k:=1) (by lia)).2;have u2 : zFZ xs none (some 2) = xs.take 2:=(zC7 xs (k:=2) (by lia)).2;have d1 : zFZ xs (some 1) none = xs.drop 1:=(zC7 xs (k:=1) (by lia)).1;have lt1 : (xs.take 1).length = 1:=by rw [yAf]; lia
 have ld1 : (xs.drop 1).length = 11:=by rw [yCg]; lia
 have st1 : zTF (xs.take 1):=λv hv=>hG.strs v (List.mem_of_mem_take hv);have sd1 : zTF (xs.drop 1):=λv hv=>hG.strs v (List.mem_of_mem_drop hv);refine ⟨_,rfl,_,rfl,_,rfl,nm,xs,rfl,SqL.of hnm,λA1 hA1 => ?_⟩;rw [u1];obtain ⟨H1,g1,c1,e0⟩:=zB4 hA1 (.lst (xs.take 1));rw [e0];clear e0;refine ⟨_,rfl,_,rfl,nm,xs,rfl,SqL.of (g1 _ _ hnm),λA2 hA2 => ?_⟩;rw [d1];obtain ⟨H2,g2,c2,e0⟩:=zB4 hA2 (.lst (xs.drop 1));rw [e0];clear e0;refine ⟨(by show 2 <= sizeLine; decide),λL hL => ?_⟩;have g3:=same_new hL (.lst [.ref A1,.ref A2]);have c3 : (upd H2 L (.lst [.ref A1,.ref A2])) L = some (.lst ([A1,A2].map V.ref)):=zA1;generalize upd H2 L (.lst [.ref A1,.ref A2]) = H3 at g3 c3 ⊢;intro p dx hp hdx ne;have ok2 : MsOk xs.length [1,4094]:=⟨by decide,by rw [h12]; decide⟩
 have rows : Rows1 0 xs [1,4094] [A1,A2] (λ_=>none) H3:=by
  refine ⟨rfl,λv hv=>rfl,λj v m h1 h2 => ?_⟩
  rcases j with _ | _ | j
  ·cases h1; cases h2
   exact ⟨_,.lst (g3 _ _ (g2 _ _ c1)),by rw [TW.s1]⟩
  ·cases h1; cases h2
   exact ⟨_,.lst (g3 _ _ c2),by rw [TW.s2]⟩
  ·simp at h1
 refine zHC (b:=0) (H0:=λ_=>none) hG are ok2 (by decide) (.lst (((g1.trans g2).trans g3) _ _ hnm)) (.lst c3) rows hp hdx λH4 zs g4 S4 pz O=>⟨rfl,?_⟩;obtain rfl : zs = [1,4094]:=zDY hG.hi pz O.ok O.ord (by decide +kernel);have hn4:=(((g1.trans g2).trans g3).trans g4) _ _ hnm;have gq : Same H H4:=((g1.trans g2).trans g3).trans g4;clear g1 g2 g3 g4 c1 c2 c3 rows pz;refine ⟨_,rfl,_,rfl,nm,xs,rfl,SqL.of hn4,λA3 hA3 => ?_⟩;rw [u1];obtain ⟨H5,g1,c1,e0⟩:=zB4 hA3 (.lst (xs.take 1));rw [e0];clear e0;refine ⟨(by show 1 <= sizeLine; decide),λL2 hL2 => ?_⟩;obtain ⟨H6,g2,c2,e0⟩:=zB4 hL2 (.lst [.ref A3]);rw [e0];clear e0;refine ⟨L2,11,_,rfl,rfl,c2,by decide,by decide,(by show 11 <= sizeLine; decide),λL3 hL3 => ?_⟩;have g3:=same_new hL3 (.lst (List.replicate (11 : Int).toNat [V.ref A3]).flatten);have c3 : (upd H6 L3 (.lst (List.replicate (11 : Int).toNat [V.ref A3]).flatten)) L3 = some (.lst (List.replicate 11 (V.ref A3))):=zA1;generalize upd H6 L3 (.lst (List.replicate (11 : Int).toNat [V.ref A3]).flatten) = H7 at g3 c3 ⊢;have g13:=(g1.trans g2).trans g3;refine ⟨_,rfl,_,rfl,nm,xs,rfl,SqL.of (g13 _ _ hn4),λA4 hA4 => ?_⟩;rw [u1];obtain ⟨H8,g4,c4,e0⟩:=zB4 hA4 (.lst (xs.take 1));rw [e0];clear e0;refine ⟨(by show 2 <= sizeLine; decide),λL5 hL5 => ?_⟩;obtain ⟨H9,g5,c5,e0⟩:=zB4 hL5 (.lst [.ref A4,.non]);rw [e0];clear e0;refine ⟨_,_,_,_,rfl,rfl,(g4.trans g5) _ _ c3,c5,(by show 13 <= sizeLine; decide),λDu hDu => ?_⟩;obtain ⟨HA,g6,c6,e0⟩:=zB4 hDu (.lst (List.replicate 11 (V.ref A3)++[.ref A4,.non]));rw [e0];clear e0;have g46:=(g4.trans g5).trans g6;have g1A : Same H4 HA:=g13.trans g46;have S10:=S4.same g1A;have hnA:=g1A _ _ hn4;have gqA:=gq.trans g1A;have dA3:=g46 _ _ (g3 _ _ (g2 _ _ c1));have dA4:=g6 _ _ (g5 _ _ c4);clear g1 g2 g3 g4 g5 g6 c1 c2 c3 c4 c5 g13 g46 g1A gq;have e1 : zCY [1,4094] [11,10,9,8,7,6,5,4,3,2,1,0] 12 = List.replicate 11 (some 1)++[some 1,none]:=by decide +kernel
 have okS : OkO xs (List.replicate 11 (some 1)++[some 1,none]):=e1 ▸ zDZ O.ok
 have dueD : ∀ {HB : Hp},Same HA HB -> DV K HB (.ref Du) (zG8 xs (List.replicate 11 (some 1)++[some 1,none])):=λ{HB} g=>by
  have a3 : DV K HB (.ref A3) (zN4 xs (some 1)):=by
   show DV K HB (.ref A3) (.list (dS (zCG xs 1)));rw [TW.s1];exact .lst (SqL.of (g _ _ dA3)) (zBQ st1)
  have a4 : DV K HB (.ref A4) (zN4 xs (some 1)):=by
   show DV K HB (.ref A4) (.list (dS (zCG xs 1)));rw [TW.s1];exact .lst (SqL.of (g _ _ dA4)) (zBQ st1)
  exact .lst (SqL.of (g _ _ c6)) (.cons a3 (.cons a3 (.cons a3 (.cons a3 (.cons a3 (.cons a3 (.cons a3 (.cons a3 (.cons a3 (.cons a3 (.cons a3 (.cons a4 (.cons .non .nil)))))))))))))
 refine ⟨_,rfl,_,rfl,nm,xs,rfl,SqL.of hnA,λA6 hA6 => ?_⟩;obtain ⟨HB,g1,c1,e0⟩:=zB4 hA6 (.lst (xs.drop 1).reverse);rw [e0];clear e0;refine ⟨_,rfl,_,rfl,nm,xs,rfl,SqL.of (g1 _ _ hnA),λA7 hA7 => ?_⟩;rw [u1];obtain ⟨HC,g2,c2,e0⟩:=zB4 hA7 (.lst (xs.take 1));rw [e0];clear e0;have lW : ((xs.drop 1).reverse++xs.take 1).length = 12:=by rw [yAU,yBn,lt1,ld1]
 refine ⟨_,_,_,_,rfl,rfl,g2 _ _ c1,c2,(by rw [yBn,lt1,ld1]; decide),λW hW => ?_⟩;obtain ⟨HD,g3,c3,e0⟩:=zB4 hW (.lst ((xs.drop 1).reverse++xs.take 1));rw [e0];clear e0;have g13:=(g1.trans g2).trans g3;have RW:=zF6 (rest:=[]) h12 (by decide +kernel) c3 TW.r0;refine ⟨p,W,xs,[1,4094],_,_,rfl,S10.same g13,O,RW,λTo HE rs hTo g4 lTo lrs rows => ?_⟩;have FT:=zE0 O.ok RW.ltk lTo lrs rows;rw [lW,e1] at FT;have g14:=g13.trans g4;refine ⟨_,rfl,zC6 (FT.data hG okS) (dueD g14) (zAV hG okS).1 (zAV hG okS).2 (yBr _ (zAV hG okS).1) ⟨_,rfl,zCW ?_⟩⟩;have hnE:=g14 _ _ hnA;have S14:=S10.same g14;have gqE:=gqA.trans g14;clear g1 g2 g3 c1 c2 c3 g4 lTo FT rows;refine ⟨_,rfl,_,rfl,_,rfl,nm,xs,rfl,SqL.of hnE,λA8 hA8 => ?_⟩;rw [d1];obtain ⟨HF,g1,c1,e0⟩:=zB4 hA8 (.lst (xs.drop 1));rw [e0];clear e0;have R8:=zF6 (rest:=[0]) h12 (by decide +kernel) c1 TW.r1;refine ⟨p,A8,xs,[1,4094],_,_,rfl,S14.same g1,O,R8,by rw [h12]; decide +kernel,λD9 HG' hD9 g2 l9 => ?_⟩;rw [show maskN [1,2,3,4,5,6,7,8,9,10,11] = 4094 from by decide +kernel,TW.h1] at l9;have g12:=g1.trans g2;refine ⟨_,rfl,_,rfl,nm,xs,rfl,SqL.of (g12 _ _ hnE),λAA hAA => ?_⟩;rw [u1];have g3:=same_new hAA (.lst (xs.take 1));have c3 : (upd HG' AA (.lst (xs.take 1))) AA = some (.lst (xs.take 1)):=zA1;generalize upd HG' AA (.lst (xs.take 1)) = HI at g3 c3 ⊢;refine zC6 (d := .list (dS (xs.take 1))) (.lst (SqL.of (g3 _ _ l9)) (zBQ st1)) (.lst (SqL.of c3) (zBQ st1)) (zCD st1) (zGV _) (yBr _ (zCD st1)) ⟨_,rfl,zCW ?_⟩;have g123:=g12.trans g3;have hnI:=g123 _ _ hnE;have S15:=S14.same g123;have gqI:=gqE.trans g123;clear g1 g2 g3 c1 c3 g12 l9;refine ⟨_,rfl,_,rfl,_,rfl,nm,xs,rfl,SqL.of hnI,λAB hAB => ?_⟩;rw [u2];obtain ⟨HJ,g1,c1,e0⟩:=zB4 hAB (.lst (xs.take 2));rw [e0];clear e0;have RB:=zF6 (rest:=[2,3,4,5,6,7,8,9,10,11]) h12 (by decide +kernel) c1 TW.r2;refine ⟨p,AB,xs,[1,4094],_,_,rfl,S15.same g1,O,RB,λT2 HK rs2 hT2 g2 lT2 lrs2 rows2 => ?_⟩;have FB:=zE0 O.ok RB.ltk lT2 lrs2 rows2;have e2 : zCY [1,4094] [0,1] 2 = [some 1,some 4094,none]:=by decide +kernel
 rw [show (xs.take 2).length = 2 by rw [yAf]; lia,e2] at FB;have okB : OkO xs [some 1,some 4094,none]:=e2 ▸ zDZ O.ok;have g12:=g1.trans g2;refine ⟨_,rfl,_,rfl,nm,xs,rfl,SqL.of (g12 _ _ hnI),λAC hAC => ?_⟩;rw [u1];obtain ⟨HL,g3,c3,e0⟩:=zB4 hAC (.lst (xs.take 1));rw [e0];clear e0;have g13':=g12.trans g3;refine ⟨_,rfl,_,rfl,nm,xs,rfl,SqL.of (g13' _ _ hnI),λAD hAD => ?_⟩;rw [d1];obtain ⟨HM,g4,c4,e0⟩:=zB4 hAD (.lst (xs.drop 1));rw [e0];clear e0;refine ⟨(by show 3 <= sizeLine; decide),λLE hLE => ?_⟩;obtain ⟨HN,g5,c5,e0⟩:=zB4 hLE (.lst [.ref AC,.ref AD,.non]);rw [e0];clear e0;have g35:=(g3.trans g4).trans g5
 have dL : DV K HN (.ref LE) (zG8 xs [some 1,some 4094,none]):=by
  have a3 : DV K HN (.ref AC) (zN4 xs (some 1)):=by
   show DV K HN (.ref AC) (.list (dS (zCG xs 1)));rw [TW.s1];exact .lst (SqL.of (g5 _ _ (g4 _ _ c3))) (zBQ st1)
  have a4 : DV K HN (.ref AD) (zN4 xs (some 4094)):=by
   show DV K HN (.ref AD) (.list (dS (zCG xs 4094)));rw [TW.s2];exact .lst (SqL.of (g5 _ _ c4)) (zBQ sd1)
  exact .lst (SqL.of c5) (.cons a3 (.cons a4 (.cons .non .nil)))
 refine zI9 ((FB.same g35).data hG okB) dL (zAV hG okB).1 (zAV hG okB).2 ⟨_,rfl,zIF ?_⟩;have g15:=g12.trans g35;have hnN:=g15 _ _ hnI;have S16:=S15.same g15;have gqN:=gqI.trans g15;clear g1 g2 g3 g4 g5 c1 c3 c4 c5 g12 g35 FB rows2 lT2 dL;refine ⟨_,rfl,_,rfl,_,rfl,nm,xs,rfl,SqL.of hnN,λAF hAF => ?_⟩;rw [u1];have g1:=same_new hAF (.lst (xs.take 1));have c1 : (upd HN AF (.lst (xs.take 1))) AF = some (.lst (xs.take 1)):=zA1;generalize upd HN AF (.lst (xs.take 1)) = HO' at g1 c1 ⊢;have RF:=zF6 (rest:=[1,2,3,4,5,6,7,8,9,10,11]) h12 (by decide +kernel) c1 TW.r3;refine ⟨p,AF,xs,[1,4094],_,_,rfl,S16.same g1,O,RF,by rw [h12]; decide +kernel,λDG HP' hDG g2 lG => ?_⟩;rw [show maskN [0] = 1 from by decide +kernel,TW.h2] at lG;have g12:=g1.trans g2;refine ⟨_,rfl,_,rfl,nm,xs,rfl,SqL.of (g12 _ _ hnN),λAH hAH => ?_⟩;rw [d1];have g3:=same_new hAH (.lst (xs.drop 1));have c3 : (upd HP' AH (.lst (xs.drop 1))) AH = some (.lst (xs.drop 1)):=zA1;generalize upd HP' AH (.lst (xs.drop 1)) = HQ at g3 c3 ⊢;exact zI9 (d := .list (dS (xs.drop 1))) (.lst (SqL.of (g3 _ _ lG)) (zBQ sd1)) (.lst (SqL.of c3) (zBQ sd1)) (zCD sd1) (zGV _) (q HQ ((gqN.trans g12).trans g3))
theorem zK2 {K : PySem.W.Frag} {C f : Addr} {bm : List Value} (ec : ErrC K C f bm) : ∃ cd,PySem.W.clsIn K C = some cd/\PySem.W.typeIn K (.ref C) = some (.type "type")/\∀ v,PySem.W.mroIn K C v = some ((Value.ref C::bm).contains v):=by
 obtain ⟨nm,q0,N,bs,sn,sub,ab,col,dd,k0,k1,k2,k3,k5,lk⟩:=ec.obj;refine ⟨_,by unfold PySem.W.clsIn; rw [lk],by unfold PySem.W.typeIn; dsimp only; rw [lk]; rfl,λv => ?_⟩;unfold PySem.W.mroIn PySem.W.clsIn;rw [lk];rfl
theorem zVQ {K : PySem.W.Frag} {C f D fD : Addr} {bm bmD : List Value} (ec : ErrC K C f bm) (ed : ErrC K D fD bmD) : PySem.W.kitOne K (.ref C) (.ref D) = some ((Value.ref C::bm).contains (.ref D)):=by
 obtain ⟨cd,h1,h2,h3⟩:=zK2 ed;obtain ⟨cc,k1,k2,k3⟩:=zK2 ec;unfold PySem.W.kitOne
 split
 ·rename_i e
  have e:=yAe.mp e;rw [<- e,yAq,beq_self_eq_true,Bool.true_or]
 ·unfold PySem.W.kitCls
  dsimp only;rw [h1,h2,yAK (by simp)];exact k3 _
theorem zRA {K : PySem.W.Frag} {C f : Addr} {bm : List Value} (ec : ErrC K C f bm) (h : bm.contains (.type "ValueError") = true) : PySem.W.kitOne K (.ref C) (.type "ValueError") = some true:=by
 obtain ⟨cc,k1,k2,k3⟩:=zK2 ec;unfold PySem.W.kitOne;rw [yAN (by simp)];unfold PySem.W.kitCls;dsimp only;rw [yAK (show PySem.W.kitMeta "ValueError" = true by decide +kernel)];show PySem.W.mroIn K C (.type "ValueError") = some true;rw [k3,yAq,h,yDE]
noncomputable def spLaw (K : PySem.W.Frag) : Sp:=λvs H Q _=>∃ (a : Addr) (ns : List Int),vs = [.ref a]/\SqL K H a (ns.map V.int)/\ns.length <= 63/\∀ H',Q (.bl true) H'
theorem scLaw : FnScope ["_law_script","_law_twelve","_law_cell"] ["_law_script"] (zA8 zRZ):=by trivial
set_option maxHeartbeats 2000000 in
theorem zX4 {f c1 c2 c3 : Addr} {fd e1 e2 e3 : FuncData} (F : Fun K "law" "law" zRZ f fd) (T : Txt mg)
  (D1 : Def P w K mg base 2 "_law_first_or_others" ["_law_cell"] zKQ c1 e1) (D2 : Def P w K mg base 8 "_law_twelve_right" ["_law_names_here"] zIX c2 e2) (D3 : Def P w K mg base 8 "_law_right" ["_law_cell"] zKH c3 e3) :
  FnOk P w K mg base CX0 9 f fd ["_law_script"] (spLaw K):=by
 refine F.ok scLaw (λvs H Q E h => ?_) (λcdv A outer s H vs Q E hr h => ?_)
 ·obtain ⟨a,ns,rfl,_⟩:=h
  rfl
 obtain ⟨a,ns,rfl,hS,h63,q⟩:=h;have hr2 : Room 2 _:=hr.mono (by decide);have s1000 : 1000 < sizeLine:=by decide
 refine ⟨_,zA2 (zAB (i:=1) scLaw.nd rfl (Or.inl rfl) (zAA D1.ok hr2 rfl D1.m D1.k D1.b .nil zAF (zA0 (zBH zAR (zA9 zU0 (pv 0) (zBK (zA0 zA4 zA3))) zA4 (λ_ _=>rfl)) zA3)))
  (zA2 (zBA (PW.pt (zT8 (zAI zK0 (pv 1) zCK (zAO _)) (zP3 (zBS (zBU (zAA D2.ok hr rfl D2.m D2.k D2.b .nil zAF (zA0 (pv 1) zA3))))))) zAP zAG)
  (zA2 (zBL PassesOwn.never rfl (zBX (zA9 zIY (zAJ zAT (pv 0) zAN (zAL zA4)) (zBK (zA0 (zAC zAH rfl T.len yBH (zA0 (pv 0) zA3)) zA3)))) (zAD (i:=2) scLaw.nd rfl (Or.inl rfl))
   (zA5 (zBA (zBS (zBU (zAA D3.ok hr rfl D3.m D3.k D3.b .nil zAF (zA0 (pv 2) zA3)))) zAP zAG)))
  (zA5 (zAE zEU)))),?_⟩
 refine sHD λB1 X1 f1 e1 => ?_
 have tail : ∀ (v1 : V) (Ha : Hp),Same H Ha -> (v1 = .non \/ ∃ D xs,v1 = .ref D/\Ha D = some (.lst xs)/\xs.length = 12/\zHL (some xs) = true) -> B1 X1 [some (.ref a),some v1,none] Ha:=λv1 Ha ga hv=>by
  subst e1;refine sR f1 (sHD λB2 X2 f2 e2 => ?_)
  have loop : ∀ Hb,Same H Hb -> B2 X2 [some (.ref a),some v1,none] Hb:=λHb gb=>by
   subst e2;refine sR f2 (sH λB3 f3 => ?_);refine ⟨_,rfl,_,rfl,a,_,rfl,gb.seq hS,λA hA => ?_⟩;obtain ⟨ms,em,sub⟩:=zJH ns none (some 4);have em' : zFZ (ns.map V.int) none (some 4) = IV ms:=em;rw [em'];obtain ⟨H1,g1,c1,e0⟩:=zB4 hA (.lst (IV ms));rw [e0];clear e0;refine ⟨_,rfl,a,_,rfl,.inl ((gb.trans g1).seq hS),(by show 1 <= sizeLine; decide),λL hL => ?_⟩;have g2:=same_new hL (.lst [.int ((ns.map V.int).length : Nat)]);have c2 : (upd H1 L (.lst [.int ((ns.map V.int).length : Nat)])) L = some (.lst (IV [(((ns.map V.int).length : Nat) : Int)])):=zA1;generalize upd H1 L (.lst [.int ((ns.map V.int).length : Nat)]) = H2 at g2 c2 ⊢;have lm:=sub.length_le;have lI : ∀ l : List Int,(IV l).length = l.length:=λl=>by unfold IV; rw [yAC]
   refine ⟨_,_,_,_,rfl,rfl,g2 _ _ c1,c2,(by rw [lI,lI]; show ms.length + 1 <= _; lia),λZ hZ => ?_⟩;have g3:=same_new hZ (.lst (IV ms++IV [(((ns.map V.int).length : Nat) : Int)]));have c3 : (upd H2 Z (.lst (IV ms++IV [(((ns.map V.int).length : Nat) : Int)]))) Z = some (.lst (IV (ms++[(((ns.map V.int).length : Nat) : Int)]))):=by rw [zA1]; unfold IV; rw [yAa]
   generalize upd H2 Z (.lst (IV ms++IV [(((ns.map V.int).length : Nat) : Int)])) = H3 at g3 c3 ⊢;generalize ms++[(((ns.map V.int).length : Nat) : Int)] = zs at c3;refine ⟨Z,rfl,?_⟩;refine zC4 (K:=K) (ys:=IV zs) (.inl (SqL.of c3)) (λi σ H'=>∃ v2,σ = [some (.ref a),some v1,v2]/\Same H3 H') ⟨_,rfl,Same.refl _⟩ (λi σ H' hP => ?_) (λi σ H' x hi hx hP => ?_) (λσ H' hP => ?_)
   ·obtain ⟨_,_,g⟩:=hP
    exact g.at1 Z
   ·obtain ⟨v2,rfl,g⟩:=hP
    unfold IV at hx hi;rw [yAC] at hi;rw [yAb,yAB hi] at hx
    cases hx
    exact ⟨_,rfl,_,rfl,λH4 g4=>⟨_,rfl,zCW ⟨_,rfl,g.trans g4⟩⟩⟩
   ·exact sR f3 (q H')
  refine ⟨_,rfl,rfl,_,rfl,?_⟩
  rcases hv with rfl | ⟨D,xs,rfl,hD,h12,are⟩
  ·exact zCW (zCW (loop Ha ga))
  ·exact zIF ⟨_,rfl,D,xs,rfl,hD,h12,are,λH' g=>⟨_,rfl,zCW (loop H' (ga.trans g))⟩⟩
 refine ⟨_,rfl,(by show 1 <= sizeLine; decide),λl hl => ?_⟩;obtain ⟨H1,g1,c1,e0⟩:=zB4 hl (.lst [.int 7]);rw [e0];clear e0;refine ⟨a,l,_,_,rfl,rfl,g1.seq hS,SqL.of c1,(by rw [yAC]; show ns.length + 1 <= _; lia),λD hD => ?_⟩;have g2:=same_new hD (.lst (ns.map V.int++[.int 7]));have c2 : (upd H1 D (.lst (ns.map V.int++[.int 7]))) D = some (.lst ((ns++[7]).map V.int)):=by rw [zA1,yAa]; rfl
 generalize upd H1 D (.lst (ns.map V.int++[.int 7])) = H2 at g2 c2 ⊢;have g12:=g1.trans g2;have ne : 0 < (ns++[7]).length:=by rw [yAU]; show 0 < ns.length + 1; lia
 refine ⟨D,_,_,_,rfl,rfl,SqL.of c2,zGR (i:=0) ne,?_⟩;exact ⟨_,rfl,λH' g=>tail _ H' (g12.trans g) (.inl rfl),λD2 H' xs hD2 g l x12 are=>tail _ H' (g12.trans g) (.inr ⟨D2,xs,rfl,l,x12,are⟩)⟩
theorem zAU {K : PySem.W.Frag} {t c : String} {b : Bool} (n : ((Value.type t) == (Value.type c)) = false) (m : PySem.W.kitMeta c = true) (s : PySem.W.subIn K (.type t) (.type c) = some b) : PySem.W.kitOne K (.type t) (.type c) = some b:=by
 unfold PySem.W.kitOne;rw [yAN (by rw [n]; simp)];unfold PySem.W.kitCls;dsimp only;rw [yAK m];exact s
noncomputable abbrev bmV : List Value:=[.type "ValueError",.type "Exception",.type "BaseException",.type "object"]
theorem tailV : L2E.Tail bmV "ValueError":=⟨by decide +kernel,by decide +kernel,by decide +kernel⟩
theorem zZ8 (C : Addr) : L2E.Tail (.ref C::bmV) "ValueError":=⟨by rw [yAq,tailV.base,yDE],by rw [yAq,tailV.attr]; rfl,by rw [yAq,tailV.name]; rfl⟩
theorem zTQ {x : V} {u : Value} (h : zYB u = some x) : RelV x u:=by
 cases u <;> first | (cases h; exact rfl) | (cases h; exact ⟨_,rfl⟩) | cases h
theorem zLQ : ∀ {xs : List V} {us : List Value},us.map zYB = xs.map some -> Vals xs us
 | [],[],_ => .nil
 | [],_::_,h=>by cases h
 | _::_,[],h=>by cases h
 | x::xs,u::us,h=>by
  injection h with h1 h2
  exact .cons (zTQ h1) (zLQ h2)
theorem zYI {K : PySem.W.Frag} {mg : Str -> Option Value} {zL : Str} {tL tA : Tok} {iA : Int} {aO : Addr} {cO : Value} {odO : Option Addr} {its : Array Value} {nO : Nat} {slO : Array (Option Value)}
  (hL : mg "LETTERS" = some (.str zL tL)) (eL : zL = LET) (hA : mg "MOST_LETTERS" = some (.int iA tA)) (eA : iA = 6)
  (hO : mg "OWN_WORDS" = some (.ref aO)) (lO : K.lookup aO = some ⟨cO,odO,.seq its nO,slO⟩) (eC : cO = .type "tuple") (eO : its.toList.map zYB = (OWN.map V.str).map some) : Glb K mg:=by
 subst eL eA eC;have v:=zLQ eO
 have hs : its.size <= sizeLine:=by
  have h1:=v.length;have h2 : its.toList.length = its.size:=yAx;rw [<- h2,<- h1]
  decide
 exact ⟨⟨_,hL⟩,⟨_,hA⟩,_,hO,λH => .inr ⟨_,its,nO,lO,rfl,rfl,hs,v⟩⟩
set_option maxHeartbeats 0 in
theorem all_mk {l : PySem.W.OpenLaw} {w : World} {K : PySem.W.Frag} {h : Heap} {mg : Str -> Option Value} {fa CM C CS C_n f_a f_b f_c f_d f_e f_f f_g f_h f_i f_j f_k f_l f_m f_n f_o f_p f_q f_r f_s f_t f_u f_v f_w f_x f_y f_z f_A f_B f_C f_D f_E f_F f_G f_H f_I f_J f_K f_L f_M f_N f_O f_P f_Q f_R f_S f_T : Addr} (X : K.In h) (G : h.Ns mainGlobals mg) (hfa : mg "law" = some (.ref fa))
  {d_a d_b d_c d_d d_e d_f d_g d_h d_i d_j d_k d_l d_m d_n d_o d_p d_q d_r d_s d_t d_u d_v d_w d_x d_y d_z d_A d_B d_C d_D d_E d_F d_G d_H d_I d_J d_K d_L d_M d_N d_O d_P d_Q d_R d_S : FuncData} {od_T an_T : Option Addr} {sl_T : Array (Option Value)} {oc_T kV_T dc_T pm_T cd_T ct_T : Value}
  {nmM qnM nmn qnn : Str} {nNM nNn : Addr} {bsM sbM bsn sbn : List Value} {snM snn : List Str} {abM abn : Bool} {coM con : Option Bool} {ddM ddn : Option Addr} {k0M k1M k2M k3M k5M k0n k1n k2n k3n k5n : Option Value}
  (gM : PySem.W.nsIn K mainGlobals "MeetError" = some (some (.ref CM)))
  (gn : PySem.W.nsIn K mainGlobals "NoneStands" = some (some (.ref C_n)))
  (aC : PySem.W.nsIn K mainGlobals "Houses" = some (some (.ref C))) (pgC : PySem.W.plainGet K C Str.empty = true) (hdC : PySem.W.hasDictIn K C = true) (poC : PySem.W.plainOver K C = true) (saC : PySem.W.findIn K (.ref C) "__setattr__" = some (some (.builtin "object.__setattr__"))) (mkC : PySem.W.makesIn K C = true) (kcC : PySem.W.keepIn K (.ref C) = true) (n_row : PySem.W.findIn K (.ref C) "row" = some none) (n_places : PySem.W.findIn K (.ref C) "places" = some none)
  (aS : PySem.W.nsIn K mainGlobals "System" = some (some (.ref CS))) (pgS : PySem.W.plainGet K CS Str.empty = true) (hdS : PySem.W.hasDictIn K CS = true) (poS : PySem.W.plainOver K CS = true) (saS : PySem.W.findIn K (.ref CS) "__setattr__" = some (some (.builtin "object.__setattr__"))) (mkS : PySem.W.makesIn K CS = true) (kcS : PySem.W.keepIn K (.ref CS) = true) (n_ground : PySem.W.findIn K (.ref CS) "ground" = some none) (n_masks : PySem.W.findIn K (.ref CS) "masks" = some none)
  (a_a : PySem.W.findIn K (.ref CM) "__init__" = some (some (.ref f_a))) (i_a : PySem.W.isFn K (.ref f_a) = true)
  (F_a : Fun K "__init__" "MeetError.__init__" zCI f_a d_a)
  (a_b : PySem.W.findIn K (.ref C_n) "__init__" = some (some (.ref f_b))) (i_b : PySem.W.isFn K (.ref f_b) = true)
  (F_b : Fun K "__init__" "NoneStands.__init__" zC3 f_b d_b)
  (a_c : PySem.W.nsIn K mainGlobals "is_whole" = some (some (.ref f_c)))
  (F_c : Fun K "is_whole" "is_whole" zO0 f_c d_c)
  (a_d : PySem.W.nsIn K mainGlobals "is_within" = some (some (.ref f_d)))
  (F_d : Fun K "is_within" "is_within" zJW f_d d_d)
  (a_e : PySem.W.nsIn K mainGlobals "is_made_of" = some (some (.ref f_e)))
  (F_e : Fun K "is_made_of" "is_made_of" zUL f_e d_e)
  (a_f : PySem.W.nsIn K mainGlobals "is_name" = some (some (.ref f_f)))
  (F_f : Fun K "is_name" "is_name" zTZ f_f d_f)
  (a_g : PySem.W.nsIn K mainGlobals "are_houses" = some (some (.ref f_g)))
  (F_g : Fun K "are_houses" "are_houses" zYX f_g d_g)
  (a_h : PySem.W.findIn K (.ref C) "__init__" = some (some (.ref f_h))) (i_h : PySem.W.isFn K (.ref f_h) = true)
  (F_h : Fun K "__init__" "Houses.__init__" zWE f_h d_h)
  (a_i : PySem.W.findIn K (.ref C) "names" = some (some (.ref f_i))) (i_i : PySem.W.isFn K (.ref f_i) = true)
  (F_i : Fun K "names" "Houses.names" zP9 f_i d_i)
  (a_j : PySem.W.findIn K (.ref C) "size" = some (some (.ref f_j))) (i_j : PySem.W.isFn K (.ref f_j) = true)
  (F_j : Fun K "size" "Houses.size" zW8 f_j d_j)
  (a_k : PySem.W.findIn K (.ref C) "number" = some (some (.ref f_k))) (i_k : PySem.W.isFn K (.ref f_k) = true)
  (F_k : Fun K "number" "Houses.number" zJ8 f_k d_k)
  (a_l : PySem.W.findIn K (.ref C) "mask" = some (some (.ref f_l))) (i_l : PySem.W.isFn K (.ref f_l) = true)
  (F_l : Fun K "mask" "Houses.mask" zU1 f_l d_l)
  (a_m : PySem.W.findIn K (.ref C) "set_of" = some (some (.ref f_m))) (i_m : PySem.W.isFn K (.ref f_m) = true)
  (F_m : Fun K "set_of" "Houses.set_of" zOA f_m d_m)
  (a_n : PySem.W.nsIn K mainGlobals "all_of" = some (some (.ref f_n)))
  (F_n : Fun K "all_of" "all_of" zP4 f_n d_n)
  (a_o : PySem.W.nsIn K mainGlobals "numbers_of" = some (some (.ref f_o)))
  (F_o : Fun K "numbers_of" "numbers_of" zZ2 f_o d_o)
  (a_p : PySem.W.nsIn K mainGlobals "key_of" = some (some (.ref f_p)))
  (F_p : Fun K "key_of" "key_of" zZQ f_p d_p)
  (a_q : PySem.W.nsIn K mainGlobals "in_order" = some (some (.ref f_q)))
  (F_q : Fun K "in_order" "in_order" zZN f_q d_q)
  (a_r : PySem.W.nsIn K mainGlobals "lot_masks" = some (some (.ref f_r)))
  (F_r : Fun K "lot_masks" "lot_masks" zUW f_r d_r)
  (a_s : PySem.W.findIn K (.ref CS) "__init__" = some (some (.ref f_s))) (i_s : PySem.W.isFn K (.ref f_s) = true)
  (F_s : Fun K "__init__" "System.__init__" zPB f_s d_s)
  (a_t : PySem.W.findIn K (.ref CS) "houses" = some (some (.ref f_t))) (i_t : PySem.W.isFn K (.ref f_t) = true)
  (F_t : Fun K "houses" "System.houses" zH9 f_t d_t)
  (a_u : PySem.W.findIn K (.ref CS) "first_lot" = some (some (.ref f_u))) (i_u : PySem.W.isFn K (.ref f_u) = true)
  (F_u : Fun K "first_lot" "System.first_lot" zO3 f_u d_u)
  (a_v : PySem.W.nsIn K mainGlobals "table_of" = some (some (.ref f_v)))
  (F_v : Fun K "table_of" "table_of" zHB f_v d_v)
  (a_w : PySem.W.findIn K (.ref CS) "table" = some (some (.ref f_w))) (i_w : PySem.W.isFn K (.ref f_w) = true)
  (F_w : Fun K "table" "System.table" zNW f_w d_w)
  (a_x : PySem.W.findIn K (.ref CS) "standing" = some (some (.ref f_x))) (i_x : PySem.W.isFn K (.ref f_x) = true)
  (F_x : Fun K "standing" "System.standing" zFP f_x d_x)
  (a_y : PySem.W.nsIn K mainGlobals "leaving_table" = some (some (.ref f_y)))
  (F_y : Fun K "leaving_table" "leaving_table" zHJ f_y d_y)
  (a_z : PySem.W.nsIn K mainGlobals "falling" = some (some (.ref f_z)))
  (F_z : Fun K "falling" "falling" zGX f_z d_z)
  (a_A : PySem.W.nsIn K mainGlobals "last_hopes" = some (some (.ref f_A)))
  (F_A : Fun K "last_hopes" "last_hopes" zLI f_A d_A)
  (a_B : PySem.W.nsIn K mainGlobals "_law_drawn" = some (some (.ref f_B)))
  (F_B : Fun K "_law_drawn" "_law_drawn" zDF f_B d_B)
  (a_C : PySem.W.nsIn K mainGlobals "_law_names" = some (some (.ref f_C)))
  (F_C : Fun K "_law_names" "_law_names" zJS f_C d_C)
  (a_D : PySem.W.nsIn K mainGlobals "_law_numbers" = some (some (.ref f_D)))
  (F_D : Fun K "_law_numbers" "_law_numbers" zCU f_D d_D)
  (a_E : PySem.W.nsIn K mainGlobals "_law_in_order" = some (some (.ref f_E)))
  (F_E : Fun K "_law_in_order" "_law_in_order" zCF f_E d_E)
  (a_F : PySem.W.nsIn K mainGlobals "_law_masks" = some (some (.ref f_F)))
  (F_F : Fun K "_law_masks" "_law_masks" zNI f_F d_F)
  (a_G : PySem.W.nsIn K mainGlobals "_law_world" = some (some (.ref f_G)))
  (F_G : Fun K "_law_world" "_law_world" zDL f_G d_G)
  (a_H : PySem.W.nsIn K mainGlobals "_law_named" = some (some (.ref f_H)))
  (F_H : Fun K "_law_named" "_law_named" zDK f_H d_H)
  (a_I : PySem.W.nsIn K mainGlobals "_law_handed" = some (some (.ref f_I)))
  (F_I : Fun K "_law_handed" "_law_handed" zJ6 f_I d_I)
  (a_J : PySem.W.nsIn K mainGlobals "_law_stands" = some (some (.ref f_J)))
  (F_J : Fun K "_law_stands" "_law_stands" zD2 f_J d_J)
  (a_K : PySem.W.nsIn K mainGlobals "_law_row_of" = some (some (.ref f_K)))
  (F_K : Fun K "_law_row_of" "_law_row_of" zD1 f_K d_K)
  (a_L : PySem.W.nsIn K mainGlobals "_law_mask_of" = some (some (.ref f_L)))
  (F_L : Fun K "_law_mask_of" "_law_mask_of" zCR f_L d_L)
  (a_M : PySem.W.nsIn K mainGlobals "_law_hopes" = some (some (.ref f_M)))
  (F_M : Fun K "_law_hopes" "_law_hopes" zDQ f_M d_M)
  (a_N : PySem.W.nsIn K mainGlobals "_law_told" = some (some (.ref f_N)))
  (F_N : Fun K "_law_told" "_law_told" zE8 f_N d_N)
  (a_O : PySem.W.nsIn K mainGlobals "_law_hopes_right" = some (some (.ref f_O)))
  (F_O : Fun K "_law_hopes_right" "_law_hopes_right" zBP f_O d_O)
  (a_P : PySem.W.nsIn K mainGlobals "_law_due" = some (some (.ref f_P)))
  (F_P : Fun K "_law_due" "_law_due" zFG f_P d_P)
  (a_Q : PySem.W.nsIn K mainGlobals "_law_right" = some (some (.ref f_Q)))
  (F_Q : Fun K "_law_right" "_law_right" zDM f_Q d_Q)
  (a_R : PySem.W.nsIn K mainGlobals "_law_first_or_others" = some (some (.ref f_R)))
  (F_R : Fun K "_law_first_or_others" "_law_first_or_others" zB6 f_R d_R)
  (a_S : PySem.W.nsIn K mainGlobals "_law_twelve_right" = some (some (.ref f_S)))
  (F_S : Fun K "_law_twelve_right" "_law_twelve_right" zBJ f_S d_S)
  (a_T : PySem.W.nsIn K mainGlobals "law" = some (some (.ref f_T)))
  (l_T : K.lookup f_T = some ⟨oc_T,od_T,.func (PySem.W.fnOf "law" "law" (zEF zRZ) (zCO zRZ) (zA8 zRZ) .none kV_T dc_T pm_T an_T cd_T ct_T),sl_T⟩) (c_T : PySem.W.codeIn K cd_T "law" = true) (k_T : PySem.W.keepIn K (.ref f_T) = true)
  (oM : K.lookup CM = some (excClassObj nmM qnM CM nNM bsM bmV true snM sbM abM coM ddM k0M k1M k2M k3M k5M "ValueError.__new__")) (kcM : PySem.W.keepIn K (.ref CM) = true) (saM : PySem.W.findIn K (.ref CM) "__setattr__" = some (some (.builtin "object.__setattr__"))) (gaM : PySem.W.findIn K (.ref CM) "__getattribute__" = some (some (.builtin "BaseException.__getattribute__"))) (ghM : PySem.W.findIn K (.ref CM) "__getattr__" = some none)
  (on : K.lookup C_n = some (excClassObj nmn qnn C_n nNn bsn (.ref CM::bmV) true snn sbn abn con ddn k0n k1n k2n k3n k5n "ValueError.__new__")) (kcn : PySem.W.keepIn K (.ref C_n) = true) (san : PySem.W.findIn K (.ref C_n) "__setattr__" = some (some (.builtin "object.__setattr__"))) (gan : PySem.W.findIn K (.ref C_n) "__getattribute__" = some (some (.builtin "BaseException.__getattribute__"))) (ghn : PySem.W.findIn K (.ref C_n) "__getattr__" = some none)
  (spM : PySem.W.specialIn K (.ref CM) "__getattribute__" = some (some (.builtin "type.__getattribute__"))) (rdM : PySem.W.readsIn K CM (.type "type") = true) (fcM : PySem.W.findCls K (.ref CM) (.type "type") "__init__" = some (.val (.ref f_a)))
  (nfn : PySem.W.findIn K (.ref C_n) "kind" = some none)
  {zL : Str} {tL tA tH tM : Tok} {iA iH iM : Int} {aO : Addr} {cO : Value} {odO : Option Addr} {its : Array Value} {nO : Nat} {slO : Array (Option Value)}
  (xnn : PySem.W.exmOne K (.ref C_n) (.ref C_n) = some true)
  (fcn : PySem.W.findIn K (.ref C_n) "__class__" = some (some (.builtin "object.__class__")))
  (gL : PySem.W.nsIn K mainGlobals "LETTERS" = some (some (.str zL tL)))
  (gA : PySem.W.nsIn K mainGlobals "MOST_LETTERS" = some (some (.int iA tA)))
  (gH : PySem.W.nsIn K mainGlobals "MOST_HOUSES" = some (some (.int iH tH)))
  (gN : PySem.W.nsIn K mainGlobals "MOST_LOTS" = some (some (.int iM tM)))
  (gO : PySem.W.nsIn K mainGlobals "OWN_WORDS" = some (some (.ref aO)))
  (lO : K.lookup aO = some ⟨cO,odO,.seq its nO,slO⟩)
  (eL : zL = LET)
  (eA : iA = 6)
  (eH : iH = 12)
  (eM : iM = 1000)
  (eC : cO = .type "tuple")
  (eO : its.toList.map zYB = (OWN.map V.str).map some)
  (z_isinstance : PySem.W.nsIn K mainGlobals "isinstance" = some none) (z_int : PySem.W.nsIn K mainGlobals "int" = some none) (z_bool : PySem.W.nsIn K mainGlobals "bool" = some none) (z_str : PySem.W.nsIn K mainGlobals "str" = some none) (z_len : PySem.W.nsIn K mainGlobals "len" = some none) (z_all : PySem.W.nsIn K mainGlobals "all" = some none) (z_list : PySem.W.nsIn K mainGlobals "list" = some none) (z_range : PySem.W.nsIn K mainGlobals "range" = some none) (z_repr : PySem.W.nsIn K mainGlobals "repr" = some none) (z_tuple : PySem.W.nsIn K mainGlobals "tuple" = some none) (z_set : PySem.W.nsIn K mainGlobals "set" = some none) (z_enumerate : PySem.W.nsIn K mainGlobals "enumerate" = some none) (z_sorted : PySem.W.nsIn K mainGlobals "sorted" = some none) (z_sum : PySem.W.nsIn K mainGlobals "sum" = some none) (z_abs : PySem.W.nsIn K mainGlobals "abs" = some none) (z_ValueError : PySem.W.nsIn K mainGlobals "ValueError" = some none)
  (s_i_non : PySem.W.subIn K (.type "NoneType") (.type "int") = some false) (s_i_bool : PySem.W.subIn K (.type "bool") (.type "int") = some true) (s_i_str : PySem.W.subIn K (.type "str") (.type "int") = some false) (s_i_list : PySem.W.subIn K (.type "list") (.type "int") = some false) (s_i_tup : PySem.W.subIn K (.type "tuple") (.type "int") = some false) (s_i_dict : PySem.W.subIn K (.type "dict") (.type "int") = some false) (s_b_non : PySem.W.subIn K (.type "NoneType") (.type "bool") = some false) (s_b_int : PySem.W.subIn K (.type "int") (.type "bool") = some false) (s_b_str : PySem.W.subIn K (.type "str") (.type "bool") = some false) (s_b_list : PySem.W.subIn K (.type "list") (.type "bool") = some false) (s_b_tup : PySem.W.subIn K (.type "tuple") (.type "bool") = some false) (s_b_dict : PySem.W.subIn K (.type "dict") (.type "bool") = some false) (s_s_non : PySem.W.subIn K (.type "NoneType") (.type "str") = some false) (s_s_int : PySem.W.subIn K (.type "int") (.type "str") = some false) (s_s_bool : PySem.W.subIn K (.type "bool") (.type "str") = some false) (s_s_list : PySem.W.subIn K (.type "list") (.type "str") = some false) (s_s_tup : PySem.W.subIn K (.type "tuple") (.type "str") = some false) (s_s_dict : PySem.W.subIn K (.type "dict") (.type "str") = some false) (s_l_non : PySem.W.subIn K (.type "NoneType") (.type "list") = some false) (s_l_bool : PySem.W.subIn K (.type "bool") (.type "list") = some false) (s_l_int : PySem.W.subIn K (.type "int") (.type "list") = some false) (s_l_str : PySem.W.subIn K (.type "str") (.type "list") = some false) (s_l_tup : PySem.W.subIn K (.type "tuple") (.type "list") = some false) (s_l_dict : PySem.W.subIn K (.type "dict") (.type "list") = some false) (s_t_non : PySem.W.subIn K (.type "NoneType") (.type "tuple") = some false) (s_t_bool : PySem.W.subIn K (.type "bool") (.type "tuple") = some false) (s_t_int : PySem.W.subIn K (.type "int") (.type "tuple") = some false) (s_t_str : PySem.W.subIn K (.type "str") (.type "tuple") = some false) (s_t_list : PySem.W.subIn K (.type "list") (.type "tuple") = some false) (s_t_dict : PySem.W.subIn K (.type "dict") (.type "tuple") = some false) :
  ∃ fd : FuncData,(∀ (s : Shared) (v : Value),BindsTo s fd ⟨[v],[]⟩ [("_law_script",v)])/\∀ base : Heap,K.In base -> base.Ns mainGlobals mg -> FnOk l.prog w K mg base CX0 9 fa fd ["_law_script"] (spLaw K):=by
 have e:=hfa.symm.trans (yAV X G a_T)
 cases e
 have F_T:=fun_mk (st:=zRZ) l_T c_T k_T;have b_a:=F_a.binds (ps:=["self","text"]) λ_ _ _ _ _ _ us hl=>match us,hl with | [_,_],_=>rfl
 have b_b:=F_b.binds (ps:=["self","kind"]) λ_ _ _ _ _ _ us hl=>match us,hl with | [_,_],_=>rfl
 have b_c:=F_c.binds (ps:=["thing"]) λ_ _ _ _ _ _ us hl=>match us,hl with | [_],_=>rfl
 have b_d:=F_d.binds (ps:=["thing","low","high"]) λ_ _ _ _ _ _ us hl=>match us,hl with | [_,_,_],_=>rfl
 have b_e:=F_e.binds (ps:=["thing","signs","most"]) λ_ _ _ _ _ _ us hl=>match us,hl with | [_,_,_],_=>rfl
 have b_f:=F_f.binds (ps:=["thing"]) λ_ _ _ _ _ _ us hl=>match us,hl with | [_],_=>rfl
 have b_g:=F_g.binds (ps:=["thing"]) λ_ _ _ _ _ _ us hl=>match us,hl with | [_],_=>rfl
 have b_h:=F_h.binds (ps:=["self","names"]) λ_ _ _ _ _ _ us hl=>match us,hl with | [_,_],_=>rfl
 have b_i:=F_i.binds (ps:=["self"]) λ_ _ _ _ _ _ us hl=>match us,hl with | [_],_=>rfl
 have b_j:=F_j.binds (ps:=["self"]) λ_ _ _ _ _ _ us hl=>match us,hl with | [_],_=>rfl
 have b_k:=F_k.binds (ps:=["self","name"]) λ_ _ _ _ _ _ us hl=>match us,hl with | [_,_],_=>rfl
 have b_l:=F_l.binds (ps:=["self","names"]) λ_ _ _ _ _ _ us hl=>match us,hl with | [_,_],_=>rfl
 have b_m:=F_m.binds (ps:=["self","mask"]) λ_ _ _ _ _ _ us hl=>match us,hl with | [_,_],_=>rfl
 have b_n:=F_n.binds (ps:=["houses"]) λ_ _ _ _ _ _ us hl=>match us,hl with | [_],_=>rfl
 have b_o:=F_o.binds (ps:=["mask"]) λ_ _ _ _ _ _ us hl=>match us,hl with | [_],_=>rfl
 have b_p:=F_p.binds (ps:=["mask"]) λ_ _ _ _ _ _ us hl=>match us,hl with | [_],_=>rfl
 have b_q:=F_q.binds (ps:=["masks"]) λ_ _ _ _ _ _ us hl=>match us,hl with | [_],_=>rfl
 have b_r:=F_r.binds (ps:=["houses","lots"]) λ_ _ _ _ _ _ us hl=>match us,hl with | [_,_],_=>rfl
 have b_s:=F_s.binds (ps:=["self","houses","lots"]) λ_ _ _ _ _ _ us hl=>match us,hl with | [_,_,_],_=>rfl
 have b_t:=F_t.binds (ps:=["self"]) λ_ _ _ _ _ _ us hl=>match us,hl with | [_],_=>rfl
 have b_u:=F_u.binds (ps:=["self","mask"]) λ_ _ _ _ _ _ us hl=>match us,hl with | [_,_],_=>rfl
 have b_v:=F_v.binds (ps:=["masks","many"]) λ_ _ _ _ _ _ us hl=>match us,hl with | [_,_],_=>rfl
 have b_w:=F_w.binds (ps:=["self"]) λ_ _ _ _ _ _ us hl=>match us,hl with | [_],_=>rfl
 have b_x:=F_x.binds (ps:=["self","fallen"]) λ_ _ _ _ _ _ us hl=>match us,hl with | [_,_],_=>rfl
 have b_y:=F_y.binds (ps:=["system"]) λ_ _ _ _ _ _ us hl=>match us,hl with | [_],_=>rfl
 have b_z:=F_z.binds (ps:=["system","order"]) λ_ _ _ _ _ _ us hl=>match us,hl with | [_,_],_=>rfl
 have b_A:=F_A.binds (ps:=["system","fallen"]) λ_ _ _ _ _ _ us hl=>match us,hl with | [_,_],_=>rfl
 have b_B:=F_B.binds (ps:=["_law_cell","_law_sizes"]) λ_ _ _ _ _ _ us hl=>match us,hl with | [_,_],_=>rfl
 have b_C:=F_C.binds (ps:=["_law_at","_law_step","_law_many"]) λ_ _ _ _ _ _ us hl=>match us,hl with | [_,_,_],_=>rfl
 have b_D:=F_D.binds (ps:=["_law_mask"]) λ_ _ _ _ _ _ us hl=>match us,hl with | [_],_=>rfl
 have b_E:=F_E.binds (ps:=["_law_masks_here"]) λ_ _ _ _ _ _ us hl=>match us,hl with | [_],_=>rfl
 have b_F:=F_F.binds (ps:=["_law_draws","_law_many"]) λ_ _ _ _ _ _ us hl=>match us,hl with | [_,_],_=>rfl
 have b_G:=F_G.binds (ps:=["_law_cell"]) λ_ _ _ _ _ _ us hl=>match us,hl with | [_],_=>rfl
 have b_H:=F_H.binds (ps:=["_law_names_here","_law_mask"]) λ_ _ _ _ _ _ us hl=>match us,hl with | [_,_],_=>rfl
 have b_I:=F_I.binds (ps:=["_law_names_here","_law_masks_here","_law_at"]) λ_ _ _ _ _ _ us hl=>match us,hl with | [_,_,_],_=>rfl
 have b_J:=F_J.binds (ps:=["_law_masks_here","_law_fallen"]) λ_ _ _ _ _ _ us hl=>match us,hl with | [_,_],_=>rfl
 have b_K:=F_K.binds (ps:=["_law_names_here","_law_draws"]) λ_ _ _ _ _ _ us hl=>match us,hl with | [_,_],_=>rfl
 have b_L:=F_L.binds (ps:=["_law_names_here","_law_some"]) λ_ _ _ _ _ _ us hl=>match us,hl with | [_,_],_=>rfl
 have b_M:=F_M.binds (ps:=["_law_names_here","_law_masks_here","_law_fallen"]) λ_ _ _ _ _ _ us hl=>match us,hl with | [_,_,_],_=>rfl
 have b_N:=F_N.binds (ps:=["_law_system","_law_some"]) λ_ _ _ _ _ _ us hl=>match us,hl with | [_,_],_=>rfl
 have b_O:=F_O.binds (ps:=["_law_system","_law_names_here","_law_masks_here","_law_row"]) λ_ _ _ _ _ _ us hl=>match us,hl with | [_,_,_,_],_=>rfl
 have b_P:=F_P.binds (ps:=["_law_names_here","_law_masks_here","_law_row"]) λ_ _ _ _ _ _ us hl=>match us,hl with | [_,_,_],_=>rfl
 have b_Q:=F_Q.binds (ps:=["_law_cell"]) λ_ _ _ _ _ _ us hl=>match us,hl with | [_],_=>rfl
 have b_R:=F_R.binds (ps:=["_law_cell"]) λ_ _ _ _ _ _ us hl=>match us,hl with | [_],_=>rfl
 have b_S:=F_S.binds (ps:=["_law_names_here"]) λ_ _ _ _ _ _ us hl=>match us,hl with | [_],_=>rfl
 have m_isinstance:=yAu X G z_isinstance;have m_int:=yAu X G z_int;have m_bool:=yAu X G z_bool;have m_str:=yAu X G z_str;have m_len:=yAu X G z_len;have m_all:=yAu X G z_all;have m_list:=yAu X G z_list;have m_range:=yAu X G z_range;have m_repr:=yAu X G z_repr;have m_tuple:=yAu X G z_tuple;have m_set:=yAu X G z_set;have m_enumerate:=yAu X G z_enumerate;have m_sorted:=yAu X G z_sorted;have m_sum:=yAu X G z_sum;have m_abs:=yAu X G z_abs;have m_ValueError:=yAu X G z_ValueError;have mCM:=yAV X G gM;have mCn:=yAV X G gn;have ecM : ErrC K CM f_a bmV:=⟨⟨_,_,_,_,_,_,_,_,_,_,_,_,_,_,oM⟩,a_a,i_a,kcM,saM,gaM,ghM,tailV,by decide +kernel,by decide +kernel,PySem.F.store_ValueError.passes⟩;have cfM : ClsFn K CM f_a:=⟨spM,rdM,fcM,F_a.2⟩;have ecn : ErrC K C_n f_b (.ref CM::bmV):=⟨⟨_,_,_,_,_,_,_,_,_,_,_,_,_,_,on⟩,a_b,i_b,kcn,san,gan,ghn,zZ8 CM,by rw [yAq]; simp,by rw [yAq]; simp,λx=>by rw [refuseLoop_ref]; exact PySem.F.store_ValueError.passes x⟩;have mC:=yAV X G aC;have clC : Cls K C:=⟨pgC,hdC,poC,saC⟩;have MC : Mk K C f_h:=⟨mkC,a_h,i_h,kcC⟩;have mS:=yAV X G aS;have clS : Cls K CS:=⟨pgS,hdS,poS,saS⟩;have MS : Mk K CS f_s:=⟨mkS,a_s,i_s,kcS⟩;have M_i : Meth K C "names" f_i:=⟨a_i,i_i,F_i.2⟩;have M_j : Meth K C "size" f_j:=⟨a_j,i_j,F_j.2⟩;have M_k : Meth K C "number" f_k:=⟨a_k,i_k,F_k.2⟩;have M_l : Meth K C "mask" f_l:=⟨a_l,i_l,F_l.2⟩;have M_m : Meth K C "set_of" f_m:=⟨a_m,i_m,F_m.2⟩;have M_t : Meth K CS "houses" f_t:=⟨a_t,i_t,F_t.2⟩;have M_u : Meth K CS "first_lot" f_u:=⟨a_u,i_u,F_u.2⟩;have M_w : Meth K CS "table" f_w:=⟨a_w,i_w,F_w.2⟩;have M_x : Meth K CS "standing" f_x:=⟨a_x,i_x,F_x.2⟩;have m_c:=yAV X G a_c;have m_d:=yAV X G a_d;have m_e:=yAV X G a_e;have m_f:=yAV X G a_f;have m_g:=yAV X G a_g;have m_n:=yAV X G a_n;have m_o:=yAV X G a_o;have m_p:=yAV X G a_p;have m_q:=yAV X G a_q;have m_r:=yAV X G a_r;have m_v:=yAV X G a_v;have m_y:=yAV X G a_y;have m_z:=yAV X G a_z;have m_A:=yAV X G a_A;have m_B:=yAV X G a_B;have m_C:=yAV X G a_C;have m_D:=yAV X G a_D;have m_E:=yAV X G a_E;have m_F:=yAV X G a_F;have m_G:=yAV X G a_G;have m_H:=yAV X G a_H;have m_I:=yAV X G a_I;have m_J:=yAV X G a_J;have m_K:=yAV X G a_K;have m_L:=yAV X G a_L;have m_M:=yAV X G a_M;have m_N:=yAV X G a_N;have m_O:=yAV X G a_O;have m_P:=yAV X G a_P;have m_Q:=yAV X G a_Q;have m_R:=yAV X G a_R;have m_S:=yAV X G a_S;subst eH eM;have T : Txt mg:=⟨m_isinstance,m_int,m_bool,m_str,m_len,m_all,m_list,m_range,m_repr⟩;have kk : Kit K:=⟨zAU (by decide +kernel) (by decide +kernel) s_i_non,zAU (by decide +kernel) (by decide +kernel) s_i_bool,zAU (by decide +kernel) (by decide +kernel) s_i_str,zAU (by decide +kernel) (by decide +kernel) s_i_list,zAU (by decide +kernel) (by decide +kernel) s_i_tup,zAU (by decide +kernel) (by decide +kernel) s_i_dict,zAU (by decide +kernel) (by decide +kernel) s_b_non,zAU (by decide +kernel) (by decide +kernel) s_b_int,zAU (by decide +kernel) (by decide +kernel) s_b_str,zAU (by decide +kernel) (by decide +kernel) s_b_list,zAU (by decide +kernel) (by decide +kernel) s_b_tup,zAU (by decide +kernel) (by decide +kernel) s_b_dict,zAU (by decide +kernel) (by decide +kernel) s_s_non,zAU (by decide +kernel) (by decide +kernel) s_s_int,zAU (by decide +kernel) (by decide +kernel) s_s_bool,zAU (by decide +kernel) (by decide +kernel) s_s_list,zAU (by decide +kernel) (by decide +kernel) s_s_tup,zAU (by decide +kernel) (by decide +kernel) s_s_dict⟩;have k2 : Kit2 K:=⟨zAU (by decide +kernel) (by decide +kernel) s_l_non,zAU (by decide +kernel) (by decide +kernel) s_l_bool,zAU (by decide +kernel) (by decide +kernel) s_l_int,zAU (by decide +kernel) (by decide +kernel) s_l_str,zAU (by decide +kernel) (by decide +kernel) s_l_tup,zAU (by decide +kernel) (by decide +kernel) s_l_dict,zAU (by decide +kernel) (by decide +kernel) s_t_non,zAU (by decide +kernel) (by decide +kernel) s_t_bool,zAU (by decide +kernel) (by decide +kernel) s_t_int,zAU (by decide +kernel) (by decide +kernel) s_t_str,zAU (by decide +kernel) (by decide +kernel) s_t_list,zAU (by decide +kernel) (by decide +kernel) s_t_dict⟩;have GG : Glb K mg:=zYI (yAV X G gL) eL (yAV X G gA) eA (yAV X G gO) lO eC eO;have mH:=yAV X G gH;have mM:=yAV X G gN;have cl:=clC;have kM : PySem.W.kitOne K (.ref C_n) (.ref CM) = some true:=by rw [zVQ ecn ecM,yAq,yAq]; simp
 have kV : PySem.W.kitOne K (.ref C_n) (.type "ValueError") = some true:=zRA ecn (by rw [yAq]; simp);refine ⟨PySem.W.fnOf "law" "law" (zEF zRZ) (zCO zRZ) (zA8 zRZ) .none kV_T dc_T pm_T an_T cd_T ct_T,λs v => .of_eq rfl,λbase _ _ => ?_⟩;have O_a:=zSJ (P:=l.prog) (w:=w) (mg:=mg) (base:=base) F_a m_ValueError;have O_b:=zXL (P:=l.prog) (w:=w) (mg:=mg) (base:=base) F_b ecn nfn cfM O_a b_a mCM;have rn : ErK l.prog w K mg base "NoneStands" "kind" C_n:=⟨⟨_,_,_,ecn,O_b,b_b⟩,mCn,nfn⟩;have O_c:=zRB (P:=l.prog) (w:=w) (mg:=mg) (base:=base) F_c T kk;have O_d:=zNR (P:=l.prog) (w:=w) (mg:=mg) (base:=base) F_d ⟨O_c,b_c,F_c.2,m_c⟩;have O_e:=zVH (P:=l.prog) (w:=w) (mg:=mg) (base:=base) F_e T kk;have O_f:=zTV (P:=l.prog) (w:=w) (mg:=mg) (base:=base) F_f GG ⟨O_e,b_e,F_e.2,m_e⟩;have O_g:=zY9 (P:=l.prog) (w:=w) (mg:=mg) (base:=base) F_g T m_tuple m_set mH k2 ⟨O_f,b_f,F_f.2,m_f⟩;have O_h:=zVN (P:=l.prog) (w:=w) (mg:=mg) (base:=base) F_h m_tuple m_enumerate cl n_row n_places ⟨O_g,b_g,F_g.2,m_g⟩;have O_i:=zQZ (P:=l.prog) (w:=w) (mg:=mg) (base:=base) F_i m_list cl n_row;have O_j:=zUI (P:=l.prog) (w:=w) (mg:=mg) (base:=base) F_j m_len cl n_row;have O_k:=zP0 (P:=l.prog) (w:=w) (mg:=mg) (base:=base) F_k T cl n_places;have O_l:=zU5 (P:=l.prog) (w:=w) (mg:=mg) (base:=base) F_l T m_tuple k2 cl M_k O_k b_k;have O_n:=zQX (P:=l.prog) (w:=w) (mg:=mg) (base:=base) F_n cl M_j O_j b_j;have O_o:=zXW (P:=l.prog) (w:=w) (mg:=mg) (base:=base) F_o;have O_p:=zWK (P:=l.prog) (w:=w) (mg:=mg) (base:=base) F_p O_o b_o F_o.2 m_o m_len m_tuple;have O_q:=zXR (P:=l.prog) (w:=w) (mg:=mg) (base:=base) F_q O_p b_p m_p m_sorted;have O_m:=zQM (P:=l.prog) (w:=w) (mg:=mg) (base:=base) F_m T cl n_row ⟨O_d,b_d,F_d.2,m_d⟩ ⟨O_o,b_o,F_o.2,m_o⟩ ⟨O_n,b_n,F_n.2,m_n⟩;have O_r:=zV1 (P:=l.prog) (w:=w) (mg:=mg) (base:=base) F_r T m_tuple mM k2 cl M_l O_l b_l;have O_s:=zQS (P:=l.prog) (w:=w) (mg:=mg) (base:=base) F_s m_tuple clS n_ground n_masks MC O_h b_h mC ⟨O_q,b_q,F_q.2,m_q⟩ ⟨O_r,b_r,F_r.2,m_r⟩;have O_t:=zMZ (P:=l.prog) (w:=w) (mg:=mg) (base:=base) F_t clS n_ground cl M_i O_i b_i;have O_u:=zS3 (P:=l.prog) (w:=w) (mg:=mg) (base:=base) F_u clS n_ground n_masks cl M_m O_m b_m;have O_x:=zJC (P:=l.prog) (w:=w) (mg:=mg) (base:=base) F_x clS n_ground cl M_l O_l b_l M_u O_u b_u ⟨O_n,b_n,F_n.2,m_n⟩;have O_v:=zLW (P:=l.prog) (w:=w) (mg:=mg) (base:=base) F_v T;have O_w:=zR3 (P:=l.prog) (w:=w) (mg:=mg) (base:=base) F_w clS n_ground n_masks cl M_j O_j b_j ⟨O_v,b_v,F_v.2,m_v⟩;have O_y:=zMU (P:=l.prog) (w:=w) (mg:=mg) (base:=base) F_y clS M_w O_w b_w;have O_z:=zLX (P:=l.prog) (w:=w) (mg:=mg) (base:=base) F_z T clS n_ground cl M_l O_l b_l M_x O_x b_x;have O_A:=zR1 (P:=l.prog) (w:=w) (mg:=mg) (base:=base) F_A m_enumerate clS n_ground cl M_l O_l b_l ⟨O_y,b_y,F_y.2,m_y⟩ M_t O_t b_t;have OE_hopes:=zPW (P:=l.prog) (w:=w) (mg:=mg) (base:=base) F_A clS n_ground cl M_l O_l b_l ⟨O_y,b_y,F_y.2,m_y⟩ rn;have O_B:=zNC (P:=l.prog) (w:=w) (mg:=mg) (base:=base) F_B;have O_C:=zPL (P:=l.prog) (w:=w) (mg:=mg) (base:=base) F_C T;have O_D:=zTR (P:=l.prog) (w:=w) (mg:=mg) (base:=base) F_D T;have O_E:=zWB (P:=l.prog) (w:=w) (mg:=mg) (base:=base) F_E T m_sorted ⟨O_D,b_D,F_D.2,m_D⟩;have O_F:=zP6 (P:=l.prog) (w:=w) (mg:=mg) (base:=base) F_F T ⟨O_D,b_D,F_D.2,m_D⟩;have O_G:=zPZ (P:=l.prog) (w:=w) (mg:=mg) (base:=base) F_G T ⟨O_B,b_B,F_B.2,m_B⟩ ⟨O_C,b_C,F_C.2,m_C⟩ ⟨O_F,b_F,F_F.2,m_F⟩;have O_H:=zSQ (P:=l.prog) (w:=w) (mg:=mg) (base:=base) F_H m_enumerate;have O_I:=zMC (P:=l.prog) (w:=w) (mg:=mg) (base:=base) F_I T m_tuple m_enumerate ⟨O_H,b_H,F_H.2,m_H⟩;have O_J:=zOH (P:=l.prog) (w:=w) (mg:=mg) (base:=base) F_J;have O_K:=zNO (P:=l.prog) (w:=w) (mg:=mg) (base:=base) F_K T;have O_L:=zN3 (P:=l.prog) (w:=w) (mg:=mg) (base:=base) F_L m_enumerate m_sum;have O_M:=zNL (P:=l.prog) (w:=w) (mg:=mg) (base:=base) F_M T ⟨O_H,b_H,F_H.2,m_H⟩;have O_N:=zRS (P:=l.prog) (w:=w) (mg:=mg) (base:=base) F_N T m_ValueError mCM ⟨O_A,b_A,F_A.2,m_A⟩ ⟨OE_hopes,b_A,F_A.2,m_A⟩ rn xnn fcn kM kV;have O_O:=zSH (P:=l.prog) (w:=w) (mg:=mg) (base:=base) F_O T k2 m_tuple ⟨O_L,b_L,F_L.2,m_L⟩ ⟨O_J,b_J,F_J.2,m_J⟩ ⟨O_M,b_M,F_M.2,m_M⟩ ⟨O_N,b_N,F_N.2,m_N⟩;have O_P:=zV0 (P:=l.prog) (w:=w) (mg:=mg) (base:=base) F_P T ⟨O_E,b_E,F_E.2,m_E⟩ ⟨O_J,b_J,F_J.2,m_J⟩ ⟨O_L,b_L,F_L.2,m_L⟩ ⟨O_H,b_H,F_H.2,m_H⟩;have O_Q:=zPD (P:=l.prog) (w:=w) (mg:=mg) (base:=base) F_Q T m_tuple m_abs ⟨O_G,b_G,F_G.2,m_G⟩ ⟨O_I,b_I,F_I.2,m_I⟩ ⟨O_K,b_K,F_K.2,m_K⟩ ⟨O_B,b_B,F_B.2,m_B⟩ ⟨O_P,b_P,F_P.2,m_P⟩ ⟨O_z,b_z,F_z.2,m_z⟩ ⟨O_O,b_O,F_O.2,m_O⟩ MS O_s b_s mS;have O_R:=zP5 (P:=l.prog) (w:=w) (mg:=mg) (base:=base) F_R m_abs ⟨O_B,b_B,F_B.2,m_B⟩ ⟨O_C,b_C,F_C.2,m_C⟩;have O_S:=zMD (P:=l.prog) (w:=w) (mg:=mg) (base:=base) F_S ⟨O_z,b_z,F_z.2,m_z⟩ ⟨O_A,b_A,F_A.2,m_A⟩ MS O_s b_s mS;exact zX4 F_T T ⟨O_R,b_R,F_R.2,m_R⟩ ⟨O_S,b_S,F_S.2,m_S⟩ ⟨O_Q,b_Q,F_Q.2,m_Q⟩
theorem walk {l : PySem.W.OpenLaw} {q : Program} {loose : List Str} {XP : (Str -> Option Value) -> Heap -> Prop} {YP : World -> Heap -> Prop} {d : DefRec} {K : Params -> PySem.W.Frag} (hn : l.most = some 63) (hdf : d.params.defaults = [])
  (hY : ∀ (w : World) (h : Heap),YP w h -> (K w.params).In h)
  (F : ∀ (w : World) (mg : Str -> Option Value) (fa : Addr) (h : Heap),(K w.params).In h -> h.Ns mainGlobals mg -> mg d.name = some (.ref fa) ->
   ∃ fd : FuncData,(∀ (s : Shared) (u : Value),BindsTo s fd ⟨[u],[]⟩ [("_law_script",u)])/\∀ base : Heap,(K w.params).In base -> base.Ns mainGlobals mg -> FnOk l.prog w (K w.params) mg base CX0 9 fa fd ["_law_script"] (spLaw (K w.params))) :
  PySem.W.WalkO q loose XP YP l.row.toRowW d [] (λf vs=>PySem.call f vs) :=
 L2.walk_of (n:=63) (k:=9) (x:="_law_script") (CX:=λ_=>CX0) (sp:=λw=>spLaw (K w.params)) hn (by decide) hdf ⟨rfl,by decide,by decide,rfl⟩ hY F (λ_ _ a ns hl _ hS=>⟨a,ns,rfl,hS,hl,λ_=>rfl⟩) λ_ _ _ _ _ z=>z
end
end S
namespace HD
open PySem PySem.W PySem.Calls PyProof.Rows
noncomputable def zZG : Stmt:=(PySem.Challenge.pw_alwaysmeet_k34_houses_that_fall_one_by_o.main.body[55]?).getD (.Pass ⟨0,0,0,0⟩)
noncomputable def Q : Program:=HT.only PySem.Challenge.pw_alwaysmeet_k34_houses_that_fall_one_by_o [zZG]
noncomputable def L : List Str:=PySem.Challenge.pw_alwaysmeet_k34_houses_that_fall_one_by_o.boundNames.filter λx => !(x == "law")
noncomputable def Xt (s : Shared) : Bool:=recOk (RowW.records (OpenRow.toRowW (OpenLaw.row PySem.Challenge.rw_alwaysmeet_k34_houses_that_fall_one_by_o))) s
noncomputable def F0 (w : World) (os : OsState):=HT.chk PySem.Challenge.pw_alwaysmeet_k34_houses_that_fall_one_by_o Q L Xt 8000 w os
noncomputable def G0 (_ : World):=some (true,openGood Q L)
noncomputable def F (as : List Addr) (w : World) (os : OsState):=HT.obs PySem.Challenge.pw_alwaysmeet_k34_houses_that_fall_one_by_o (λs=>as.map s.heap.get?) 8000 w os
noncomputable def G (K : Params -> Frag) (w : World):=some ((K w.params).map λp=>some p.2)
theorem F0_rfl : F0 = F0:=rfl
theorem G0_rfl : G0 = G0:=rfl
theorem F_rfl : F = F:=rfl
theorem G_rfl : G = G:=rfl
end HD
name_quick hdF0 for HD.F0 by HD.F0_rfl
name_quick hdG0 for HD.G0 by HD.G0_rfl
name_quick hdF for HD.F by HD.F_rfl
name_quick hdG for HD.G by HD.G_rfl
open PySem PySem.W PyProof.Rows
theorem HD.chk (w : World) (os : OsState) : HD.F0 w os = HD.G0 w:=(congrFun (congrFun Fast.hdF0_eq w) os).trans ((show Fast.hdF0 w os = Fast.hdG0 w by kernel_rfl).trans (congrFun Fast.hdG0_eq w).symm)
open PySem PySem.W PyProof.Rows
set_option hygiene false in
local macro_rules | `(tactic| o_head ($f:term $K $as $e)) => `(tactic| (exact no.elim))
set_option maxRecDepth 100000 in
set_option maxHeartbeats 0 in
theorem HD.mk (no : False) : PySem.Challenge.rw_alwaysmeet_k34_houses_that_fall_one_by_o.Holds:=by
 w_on; o_law; k_head
noncomputable def HD.as1 : List Addr:=[2,3,15,17,18,20,21,22,29,31,32,34,35,36,37,38,39,42,49,51,52,54,55,56,57,58,61,68,70,71,73,74,75,76,77,80,87,89,90,92,93,94,95,96,99,106,108,109,111,112,113,114,115,118,125,127,128,130,131,132,133,134,137,144,146,147,149,150,151,152,153,156,163,165,166,168,169,170,171,172,175,176,178,179,181,182,183,185,186,188,189,190,193,194,195,197,198,200,201,202,205,206,214,217,218,219,221,222,224,225,226]
noncomputable def HD.as2 : List Addr:=[228,229,231,232,233,235,236,238,239,240,242,243,245,246,247,250,251,252,253,254,255,256,259,261,262,264,265,266,268,269,271,272,273,275,276,278,279,280,282,283,285,286,287,289,290,292,293,294,296,297,299,300,301,304,305,306,309,310,311,313,314,316,317,318,320,321,323,324,332,334,335,337,338,339,341,342,344,345,346,349,350,351,354,355,356,358,359,361,362,363,365,366,368,369,370,372,373,375,376,377,379,380,382,383,384,386,387,389,390,391,393]
noncomputable def HD.as3 : List Addr:=[394,396,397,398,400,401,403,404,405,407,408,410,411,412,414,415,417,418,419,421,422,424,425,426,427,428,429,430,433,435,436,438,439,440,443,444,445,448,449,450,453,454,455,458,459,460,462,463,465,466,467,470,471,472,474,475,477,478,479,481,482,484,485,486,488,489,491,492,493,496,497,498,500,501,503,504,505,507,508,510,511,512,514,515,517,518,519,521,522,524,525,526,529,530,531,533,534,536,537,538,540,541,543,544,545,547,548,550,551]
noncomputable def HD.K1 (P : Params) : Frag:=(HD.mk.heap_39 P).take 111
noncomputable def HD.K2 (P : Params) : Frag:=((HD.mk.heap_39 P).drop 111).take 111
noncomputable def HD.K3 (P : Params) : Frag:=(((HD.mk.heap_39 P).drop 111).drop 111)
theorem HD.ob1 (w : World) (os : OsState) : HD.F HD.as1 w os = HD.G HD.K1 w:=(congrFun (congrFun (congrFun Fast.hdF_eq HD.as1) w) os).trans ((show Fast.hdF HD.as1 w os = Fast.hdG HD.K1 w by kernel_rfl).trans (congrFun (congrFun Fast.hdG_eq HD.K1) w).symm)
theorem HD.ob2 (w : World) (os : OsState) : HD.F HD.as2 w os = HD.G HD.K2 w:=(congrFun (congrFun (congrFun Fast.hdF_eq HD.as2) w) os).trans ((show Fast.hdF HD.as2 w os = Fast.hdG HD.K2 w by kernel_rfl).trans (congrFun (congrFun Fast.hdG_eq HD.K2) w).symm)
theorem HD.ob3 (w : World) (os : OsState) : HD.F HD.as3 w os = HD.G HD.K3 w:=(congrFun (congrFun (congrFun Fast.hdF_eq HD.as3) w) os).trans ((show Fast.hdF HD.as3 w os = Fast.hdG HD.K3 w by kernel_rfl).trans (congrFun (congrFun Fast.hdG_eq HD.K3) w).symm)
noncomputable def HD.as : List Addr:=HD.as1++(HD.as2++(HD.as3))
theorem HD.ob (w : World) (os : OsState) : HD.F HD.as w os = HD.G HD.mk.heap_39 w:=by
 have q:=(HT.obs_app (HD.ob1 w os) (HT.obs_app (HD.ob2 w os) (HD.ob3 w os)));rw [<- yAa,<- yAa] at q;unfold HD.K1 HD.K2 HD.K3 at q;rw [yCP,yCP] at q;exact q
set_option maxRecDepth 100000 in
set_option maxHeartbeats 0 in
theorem HD.facts (w : World) (mg : Str -> Option Value) (fa : Addr) (h : Heap) (KX : (HD.mk.heap_39 w.params).In h) (G : h.Ns mainGlobals mg) (hmg : mg "law" = some (.ref fa)) : ∃ fd : FuncData,(∀ (s : Shared) (v : Value),BindsTo s fd ⟨[v],[]⟩ [("_law_script",v)])/\∀ base : Heap,(HD.mk.heap_39 w.params).In base -> base.Ns mainGlobals mg -> L2.FnOk PySem.Challenge.rw_alwaysmeet_k34_houses_that_fall_one_by_o.prog w (HD.mk.heap_39 w.params) mg base L2.CX0 9 fa fd ["_law_script"] (S.spLaw (HD.mk.heap_39 w.params)):=by
 refine' S.all_mk KX G hmg ?gM ?gn ?aC ?pgC ?hdC ?poC ?saC ?mkC ?kcC ?n_row ?n_places ?aS ?pgS ?hdS ?poS ?saS ?mkS ?kcS ?n_ground ?n_masks ?a_a ?i_a ?F_a ?a_b ?i_b ?F_b ?a_c ?F_c ?a_d ?F_d ?a_e ?F_e ?a_f ?F_f ?a_g ?F_g ?a_h ?i_h ?F_h ?a_i ?i_i ?F_i ?a_j ?i_j ?F_j ?a_k ?i_k ?F_k ?a_l ?i_l ?F_l ?a_m ?i_m ?F_m ?a_n ?F_n ?a_o ?F_o ?a_p ?F_p ?a_q ?F_q ?a_r ?F_r ?a_s ?i_s ?F_s ?a_t ?i_t ?F_t ?a_u ?i_u ?F_u ?a_v ?F_v ?a_w ?i_w ?F_w ?a_x ?i_x ?F_x ?a_y ?F_y ?a_z ?F_z ?a_A ?F_A ?a_B ?F_B ?a_C ?F_C ?a_D ?F_D ?a_E ?F_E ?a_F ?F_F ?a_G ?F_G ?a_H ?F_H ?a_I ?F_I ?a_J ?F_J ?a_K ?F_K ?a_L ?F_L ?a_M ?F_M ?a_N ?F_N ?a_O ?F_O ?a_P ?F_P ?a_Q ?F_Q ?a_R ?F_R ?a_S ?F_S ?a_T ?l_T ?c_T ?k_T ?oM ?kcM ?saM ?gaM ?ghM ?on ?kcn ?san ?gan ?ghn ?spM ?rdM ?fcM ?nfn ?xnn ?fcn ?gL ?gA ?gH ?gN ?gO ?lO ?eL ?eA ?eH ?eM ?eC ?eO ?z_isinstance ?z_int ?z_bool ?z_str ?z_len ?z_all ?z_list ?z_range ?z_repr ?z_tuple ?z_set ?z_enumerate ?z_sorted ?z_sum ?z_abs ?z_ValueError ?s_i_non ?s_i_bool ?s_i_str ?s_i_list ?s_i_tup ?s_i_dict ?s_b_non ?s_b_int ?s_b_str ?s_b_list ?s_b_tup ?s_b_dict ?s_s_non ?s_s_int ?s_s_bool ?s_s_list ?s_s_tup ?s_s_dict ?s_l_non ?s_l_bool ?s_l_int ?s_l_str ?s_l_tup ?s_l_dict ?s_t_non ?s_t_bool ?s_t_int ?s_t_str ?s_t_list ?s_t_dict
 all_goals try first | k_is | exact L2.fun_mk (by k_is) (by k_is) (by k_is)
 (case xnn=>kts_exm)
 all_goals first | rfl | decide +kernel
set_option maxRecDepth 100000 in
set_option maxHeartbeats 0 in
theorem PySem.Challenge.cw_alwaysmeet_k34_houses_that_fall_one_by_o_holds : PySem.Challenge.rw_alwaysmeet_k34_houses_that_fall_one_by_o.Holds := by
 w_on; o_law
 refine holds_open (q:=HD.Q) (loose:=HD.L) (Xt:=HD.Xt) (XP:=λ_ _=>True) (Yf:=Hook.obs (kHook HD.mk.heap_39 HD.as (λ_=>by kernel_rfl))) (Ya:=Hook.val (kHook HD.mk.heap_39 HD.as (λ_=>by kernel_rfl))) (YP:=Hook.says (kHook HD.mk.heap_39 HD.as (λ_=>by kernel_rfl))) (N:=8000) ?hl (Hook.of (kHook HD.mk.heap_39 HD.as (λ_=>by kernel_rfl))) (Hook.keeps (kHook HD.mk.heap_39 HD.as (λ_=>by kernel_rfl))) (λ_ _=>trivial) (λ_ _ _ _ _=>trivial) (by rfl) (by rfl) (by rfl) (λs e=>recFacts_of e) (by rfl) (by first | assumption | decide +kernel) (by decide +kernel) ⟨rfl,rfl,rfl,rfl,rfl,by decide +kernel⟩ ?hw ?hc
 (case hl=>exact HT.left_of2 (by kernel_rfl) (by decide) (λs=>by kernel_rfl) HD.chk HD.ob)
 (case hw=>w_witness2)
 k_fill
 refine S.walk (l:=PySem.Challenge.rw_alwaysmeet_k34_houses_that_fall_one_by_o) rfl rfl (λw h Y=>PySem.W.kIn_of Y) ?F
 case F =>
  intro w mg fa h KX G hmg;exact HD.facts w mg fa h KX G hmg
