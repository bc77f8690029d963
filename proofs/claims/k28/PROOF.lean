import PyProof.Rows.All
import Wide.All
import OpenK.AllK
import Wide.FinOn
import Lean
import PyProof.EqAt
import PyProof.EqKinds
import PyProof.TupleCall
import PyProof.DictCompW
import PyProof.EnumFor
import PyProof.EnumStmt
import PyProof.EnumMake
import PyProof.Rows.EnumRows
import PyProof.Rows.SetFrom
import PyProof.Rows.LoopUnroll
import PyProof.Draws
import PyProof.ExcClass3
import PyProof.ExcInit
import PyProof.InstStoreFacts
import PyProof.ExcArgs
import PyProof.ExcBaseAll.ValueError
import PyProof.NsDelKeeps
import PyProof.RulesAs
import KE.KTryMore
import PyProof.Rows.FStr
import PyProof.Rows.StrNews2
import PyProof.Rows.StrNews
import PyProof.RulesTry
import PySem.Challenge.RW_alwaysmeet_k28_settled_forged
set_option linter.all false
section
open PySem PySem.Spec PyProof.Rows
def yAA:=@List.getElem?_eq_getElem
def yAB:=@List.length_map
def yAC:=@Heap.get?_push_of_some
def yAD:=@wpAny_bind
def yAE:=@Nat.le_refl
def yAF:=@List.mem_singleton
def yAG:=@decide_eq_false
def yAH:=@List.size_toArray
def yAI:=@List.getElem?_eq_some_iff
def yAJ:=@Heap.lt_size
def yAK:=@wpS_bind
def yAL:=@decide_eq_true_eq
def yAM:=@decide_eq_true
def yAN:=@if_neg
def yAO:=@List.mem_cons_of_mem
def yAP:=@List.mem_append_right
def yAQ:=@if_pos
def yAR:=@List.mem_cons_self
def yAS:=@Heap.get?_push_size
def yAT:=@PySem.W.mg_of
def yAU:=@List.map_append
def yAV:=@wpS_pure
def yAW:=@wpAny_pure
def yAX:=@List.length_append
def yAY:=@Bool.false_ne_true
def yAZ:=@PyProof.Rows.boot_isinstance
def yAa:=@List.mem_append
def yAb:=@List.mem_cons
def yAc:=@beq_iff_eq
def yAd:=@Bool.and_eq_true
def yAe:=@List.getElem?_map
def yAf:=@Int.toNat_natCast
def yAg:=@Bool.eq_iff_iff
def yAh:=@Nat.lt_of_lt_of_le
def yAi:=@Nat.ne_of_lt
def yAj:=@of_decide_eq_true
def yAk:=@Nat.le_trans
def yAl:=@List.map_cons
def yAm:=@List.mem_of_getElem?
def yAn:=@List.getElem_mem
def yAo:=@List.getD_eq_getElem?_getD
def yAp:=@List.length_take
def yAq:=@Array.toList_push
def yAr:=@PySem.W.mg_none_of
def yAs:=@List.mem_map
def yAt:=@List.take_of_length_le
def yAu:=@List.all_eq_true
def yAv:=@PyProof.Rows.boot_tuple
def yAw:=@Int.eq_ofNat_of_zero_le
def yAx:=@Nat.pow_le_pow_right
def yAy:=@List.append_assoc
def yAz:=@List.any_eq_true
def yBA:=@List.length_cons
def yBB:=@List.contains_cons
def yBC:=@PySem.boot_len
def yBD:=@Array.getElem?_eq_some_iff
def yBE:=@wpAny_loadPart_at
def yBF:=@List.take_add_one
def yBG:=@Bool.false_eq_true
def yBH:=@List.extract_eq_take_drop
def yBI:=@Array.length_toList
def yBJ:=@PyProof.Rows.boot_list
def yBK:=@Heap.get?_update_other
def yBL:=@Nat.zero_le
def yBM:=@List.mem_range
def yBN:=@Array.getElem?_toList
def yBO:=@wpAny_mono
def yBP:=@List.getElem?_append_right
def yBQ:=@PySem.F.plainAttrs_list
def yBR:=@List.getElem?_append_left
def yBS:=@wpS_forRange
def yBT:=@Nat.eq_of_testBit_eq
def yBU:=@of_decide_eq_false
def yBV:=@Nat.lt_irrefl
def yBW:=@Nat.ne_of_gt
def yBX:=@List.mem_filter
def yBY:=@Heap.get?_update_ne
def yBZ:=@wpAny_truthy_bool
def yBa:=@wpAny_holding
def yBb:=@Bool.not_eq_true'
def yBc:=@Array.toList_extract
def yBd:=@Nat.testBit_shiftRight
def yBe:=@PySem.mem_of_lookup
def yBf:=@Option.isSome_iff_exists
def yBg:=@PySem.W.kia_one
def yBh:=@List.append_nil
def yBi:=@Int.natCast_pow
def yBj:=@List.mem_append_left
def yBk:=@Nat.testBit_eq_decide_div_mod_eq
def yBl:=@Nat.testBit_two_pow
def yBm:=@List.pairwise_map
def yBn:=@Bool.true_and
def yBo:=@Nat.lt_or_ge
def yBp:=@List.map_map
def yBq:=@List.length_singleton
def yBr:=@List.getElem?_eq_none
def yBs:=@wpAny_Call_Name_kw
def yBt:=@PySem.F.type_list_append
def yBu:=@PySem.F.slot_list_append
def yBv:=@Int.emod_lt_of_pos
def yBw:=@List.lookup_cons
def yBx:=@Array.toList_inj
def yBy:=@wpAny_standAt
def yBz:=@Bool.false_and
def yCA:=@Nat.lt_succ_of_lt
def yCB:=@List.getElem_inj
def yCC:=@wpS_mono
def yCD:=@Nat.le_of_ble_eq_true
def yCE:=@List.take_append_drop
def yCF:=@Heap.get?_update_self
def yCG:=@List.drop_eq_getElem_cons
def yCH:=@wpAny_pyIter_list
def yCI:=@wpAny_loadPart'
def yCJ:=@Option.map_some
def yCK:=@Nat.testBit_and
def yCL:=@Int.emod_nonneg
def yCM:=@codeAny_mono
def yCN:=@wpAny_isSubtype_exc
def yCO:=@List.replicate_succ
def yCP:=@List.pairwise_singleton
def yCQ:=@Int.one_mul
def yCR:=@List.not_mem_nil
def yCS:=@Heap.size_push
def yCT:=@Option.map_eq_some_iff
def yCU:=@Nat.eq_zero_or_pos
def yCV:=@List.getElem?_drop
def yCW:=@List.dropLast_concat_getLast
def yCX:=@Int.natCast_nonneg
def yCY:=@wpAny_passesOwn
def yCZ:=@PyProof.Rows.callWith_type1
def yCa:=@PyProof.Rows.boot_str
def yCb:=@wpAny_newObj_type
def yCc:=@if_false
def yCd:=@List.nodup_append
def yCe:=@F.slot_tuple_iterator_next
def yCf:=@List.getElem?_of_mem
def yCg:=@PyProof.Rows.F.plain_set_update_loop
def yCh:=@Nat.ge_two_pow_of_testBit
def yCi:=@Nat.lt_succ_self
def yCj:=@List.take_length
def yCk:=@beq_eq_false_iff_ne
def yCl:=@Nat.le_succ
def yCm:=@List.getElem_of_mem
def yCn:=@Array.toList_append
def yCo:=@codeAny_builtin
def yCp:=@PySem.W.callWith_K
def yCq:=@Obj.data_mapFields
def yCr:=@List.sum_cons
def yCs:=@List.length_nil
def yCt:=@List.length_eq_zero_iff
def yCu:=@List.find?_cons
def yCv:=@Code.quiet_builtin
def yCw:=@List.drop_of_length_le
def yCx:=@Int.ediv_eq_zero_of_lt
def yCy:=@wpAny_field
def yCz:=@List.length_range
def yDA:=@List.flatten_cons
def yDB:=@List.any_eq_false
def yDC:=@PySem.W.methodCall_KW
def yDD:=@PyProof.Rows.callWith_builtin1
def yDE:=@List.length_filter_le
def yDF:=@Nat.zero_testBit
def yDG:=@codeAny_call_builtin
def yDH:=@Array.toList_reverse
def yDI:=@wpAny_rule
def yDJ:=@wpAny_call
def yDK:=@wpAny_execs_nil
def yDL:=@List.filterMap_cons
def yDM:=@Bool.or_eq_true
def yDN:=@Array.perm_iff_toList_perm
def yDO:=@wpAny_pyIter_tuple
def yDP:=@tupleKind_room_in1
def yDQ:=@Nat.zero_add
def yDR:=@Nat.lt_of_le_of_lt
def yDS:=@List.filter_append
def yDT:=@wpAny_setField
def yDU:=@repr_of_reads'
def yDV:=@List.mem_of_find?_eq_some
def yDW:=@Bool.xor_false
def yDX:=@wpS_modify
def yDY:=@wpAny_pyIter_enum
def yDZ:=@wpAny_comprehension_free
def yDa:=@PySem.W.kitx_list
def yDb:=@PySem.W.kitx_dict
def yDc:=@List.take_sublist
def yDd:=@List.ext_getElem?
def yDe:=@wpS_get
def yDf:=@listUpdate_at
def yDg:=@PySem.F.slot_list_index
def yDh:=@List.getElem?_replicate
def yDi:=@List.any_cons
def yDj:=@PyData.shown_str
def yDk:=@List.length_drop
def yDl:=@Nat.div_div_eq_div_mul
def yDm:=@get?_update_seq
def yDn:=@PyProof.Rows.boot_all
def yDo:=@Obj.isFreed_of_fields
def yDp:=@Nat.sub_self
def yDq:=@Nat.le_of_lt
def yDr:=@List.perm_append_comm
def yDs:=@List.nodup_cons
def yDt:=@List.nil_append
def yDu:=@List.foldl_cons
def yDv:=@Bool.or_true
end
set_option Elab.async false
set_option linter.all false
set_option maxRecDepth 100000
local macro_rules | `(tactic| trivial) => `(tactic| exact ⟨rfl,rfl,rfl,by decide +kernel,rfl,by decide +kernel,by decide +kernel⟩)
namespace L2
open PySem PySem.Spec PyProof.Rows
noncomputable abbrev Key:=Sum Int Str
noncomputable def zHZ : Key -> Value -> Bool
 | .inl k,v=>Value.isInt k v
 | .inr x,v=>Value.isStrOf x v
noncomputable def zcN (w : World) : Key -> Int
 | .inl k=>hashInt k
 | .inr x=>hashStr w x
theorem zAW : ∀ {k : Key} {v : Value}, zHZ k v = true -> (∃ i t, k = Sum.inl i /\ v = Value.int i t) \/ (∃ x t, k = Sum.inr x /\ v = Value.str x t)
 | .inl i,v,h=>by
  obtain ⟨t,e⟩:=Value.isInt_shape (k:=i) (v:=v) h;exact .inl ⟨i,t,rfl,e⟩
 | .inr x,v,h=>by
  obtain ⟨t,e⟩:=Value.isStrOf_shape (x:=x) (v:=v) h;exact .inr ⟨x,t,rfl,e⟩
theorem zR4 (i : Int) (t : Tok) : zHZ (.inl i) (.int i t) = true:=by simp [zHZ,Value.isInt]
theorem zO8 (x : Str) (t : Tok) : zHZ (.inr x) (.str x t) = true:=by simp [zHZ,Value.isStrOf]
theorem zYH (a b : Int) : decide ((Sum.inl a : Key) = Sum.inl b) = (a == b) := by
 by_cases e : a = b
 ·subst e; simp
 ·have h : ¬ (Sum.inl a : Key) = Sum.inl b := fun q => e (Sum.inl.inj q)
  rw [yAG h];exact (yCk.mpr e).symm
theorem zYD (a b : Str) : decide ((Sum.inr a : Key) = Sum.inr b) = decide (a = b) := by
 by_cases e : a = b
 ·subst e; simp
 ·have h : ¬ (Sum.inr a : Key) = Sum.inr b := fun q => e (Sum.inr.inj q)
  rw [yAG h,yAG e]
theorem zYN (a : Int) (b : Str) : decide ((Sum.inl a : Key) = Sum.inr b) = false:=yAG (λq=>nomatch q)
theorem zYI (a : Str) (b : Int) : decide ((Sum.inr a : Key) = Sum.inl b) = false:=yAG (λq=>nomatch q)
noncomputable def zAI (prog : Program) (w : World) : PySem.KeyKind prog w Key where
 is:=zHZ
 hash:=zcN w
 inj := fun v a b ha hb => by
  rcases zAW ha with ⟨i,t,rfl,rfl⟩ | ⟨x,t,rfl,rfl⟩
  ·rcases zAW hb with ⟨j, u, rfl, e⟩ | ⟨y, u, rfl, e⟩
   ·injection e with e1 _; rw [e1]
   ·exact nomatch e
  ·rcases zAW hb with ⟨j, u, rfl, e⟩ | ⟨y, u, rfl, e⟩
   ·exact nomatch e
   ·injection e with e1 _; rw [e1]
 byValue := fun k v h => by
  rcases zAW h with ⟨i,t,rfl,rfl⟩ | ⟨x,t,rfl,rfl⟩ <;> rfl
 pyHash := fun hv h => by
  rcases zAW hv with ⟨i,t,rfl,rfl⟩ | ⟨x,t,rfl,rfl⟩
  ·exact wpAny_pyHash_int h
  ·exact wpAny_pyHash_str h
 eqBool := fun hu hv h => by
  rcases zAW hu with ⟨i,t,rfl,rfl⟩ | ⟨x,t,rfl,rfl⟩
  ·rcases zAW hv with ⟨j, u, rfl, rfl⟩ | ⟨y, u, rfl, rfl⟩
   ·rw [zYH] at h; exact wpAny_eqBool_int h
   ·rw [zYN] at h; exact SeqAt.EqAt.int_str i t y u _ _ _ _ h
  ·rcases zAW hv with ⟨j, u, rfl, rfl⟩ | ⟨y, u, rfl, rfl⟩
   ·rw [zYI] at h; exact SeqAt.EqAt.str_int x t j u _ _ _ _ h
   ·rw [zYD] at h; exact wpAny_eqBool_str h
 «strs» := λk x t v h=>by
  rcases zAW h with ⟨i,u,rfl,e⟩ | ⟨y,u,rfl,e⟩
  ·exact nomatch e
  ·injection e with e1 _
   subst e1
   cases v <;> rfl
theorem zNV (prog : Program) (w : World) (k : Key) (v : Value) : (zAI prog w).is k v = zHZ k v:=rfl
theorem zKX (prog : Program) (w : World) (i : Int) (t : Tok) : (zAI prog w).is (.inl i) (.int i t) = true:=zR4 i t
theorem zK0 (prog : Program) (w : World) (x : Str) (t : Tok) : (zAI prog w).is (.inr x) (.str x t) = true:=zO8 x t
inductive V where
 | non | bl (b : Bool) | int (i : Int) | str (x : Str) | byt (b : Array UInt8) | flt (b : UInt64) | ref (a : Addr) | ty (n : String)
 deriving DecidableEq
noncomputable def RelV : V -> Value -> Prop
 | .non,u=>u = Value.none
 | .bl b,u=>u = Value.bool b
 | .int i,u=>∃ t,u = Value.int i t
 | .str x,u=>∃ t,u = Value.str x t
 | .byt b,u=>∃ t,u = Value.bytes b t
 | .flt b,u=>∃ t,u = Value.float b t
 | .ref a,u=>u = Value.ref a
 | .ty n,u=>u = Value.type n
noncomputable abbrev Vals : List V -> List Value -> Prop:=Paired RelV
theorem Vals.length {xs : List V} {us : List Value} (r : Vals xs us) : xs.length = us.length:=Paired.length r
theorem Vals.get : ∀ {xs : List V} {us : List Value} {i : Nat} {x : V}, Vals xs us -> xs[i]? = some x -> ∃ u, us[i]? = some u /\ RelV x u
 | _,_,_,_,.nil,e=>by simp at e
 | _,_,0,_,.cons r _,e=>by simp at e; subst e; exact ⟨_,rfl,r⟩
 | _,_,i + 1,x,.cons _ t,e=>by
  obtain ⟨u,h1,h2⟩:=Vals.get (i:=i) (x:=x) t (by simpa using e);exact ⟨u,by simpa using h1,h2⟩
theorem Vals.set {x : V} {u : Value} (r : RelV x u) : ∀ {xs : List V} {us : List Value} (i : Nat), Vals xs us -> Vals (xs.set i x) (us.set i u)
 | _,_,_,.nil => .nil
 | _,_,0,.cons _ t => .cons r t
 | _,_,i + 1,.cons q t => .cons q (Vals.set r i t)
theorem Vals.append : ∀ {xs ys : List V} {us ws : List Value}, Vals xs us -> Vals ys ws -> Vals (xs ++ ys) (us ++ ws)
 | _,_,_,_,.nil,s=>s
 | _,_,_,_,.cons r t,s => .cons r (Vals.append t s)
theorem Vals.take : ∀ {xs : List V} {us : List Value} (n : Nat), Vals xs us -> Vals (xs.take n) (us.take n)
 | _,_,0,_ => .nil
 | _,_,_ + 1,.nil => .nil
 | _,_,n + 1,.cons r t => .cons r (Vals.take n t)
theorem Vals.drop : ∀ {xs : List V} {us : List Value} (n : Nat), Vals xs us -> Vals (xs.drop n) (us.drop n)
 | _,_,0,r=>r
 | _,_,_ + 1,.nil => .nil
 | _,_,n + 1,.cons _ t=>Vals.drop n t
noncomputable def RelO : Option V -> Option Value -> Prop
 | some v,some u=>RelV v u
 | none,none=>True
 | _,_=>False
noncomputable def KV {κ : Type} : List (κ × V) -> List (κ × Value) -> Prop:=Paired λ(p : κ × V) (q : κ × Value)=>p.1 = q.1/\RelV p.2 q.2
noncomputable def kV : Key -> V
 | .inl i => .int i
 | .inr x => .str x
inductive HO where
 | lst (xs : List V)
 | tup (xs : List V)
 | dK (kvs : List (Key × V)) | dT (kvs : List (List Key × V))
 | set (S : Int -> Bool) (n : Nat)
 | ins (C dx : Addr) (fs : List (Str × V))
 | own (x : Addr)
 | xd (fs : List (Str × V))
 | met (f x : Addr)
 | rng (lo hi : Int)
 | frz (o : Obj) (u : HO)
 | tbl (ps : Array Value)
 | ext (φ : Heap -> Prop)
noncomputable abbrev Hp:=Addr -> Option HO
noncomputable def upd (H : Hp) (a : Addr) (o : HO) : Hp:=λb=>if b = a then some o else H b
theorem zA2 {H : Hp} {a : Addr} {o : HO} : upd H a o a = some o:=by unfold upd; rw [yAQ rfl]
theorem zA6 {H : Hp} {a b : Addr} {o : HO} (h : b≠a) : upd H a o b = H b:=by unfold upd; rw [yAN h]
theorem zaL {H : Hp} {a b : Addr} {o u : HO} (h : H a = some o) (h' : H b = some u) (d : o ≠ u) : a ≠ b := by
 intro e; subst e; rw [h] at h'; exact d (Option.some.inj h')
theorem zA5 {H : Hp} {a b : Addr} {o : HO} (h : H a = some o) (h' : H b = none) : a ≠ b := by
 intro e; subst e; rw [h] at h'; cases h'
section
variable (P : Program) (w : World)
noncomputable def ObjOk (H : Hp) (h : Heap) (a : Addr) : HO -> Prop
 | .lst xs=>xs.length <= sizeLine/\∃ (its : List Value) (n : Nat),Vals xs its/\h.get? a = some { cls := .type "list",data := .seq its.toArray n }
 | .tup xs=>xs.length <= sizeLine/\∃ its : List Value,Vals xs its/\IsTup h a its.toArray
 | .dK kvs=>kvs.length <= sizeLine/\(a == sysModules) = false/\∃ vs,KV kvs vs/\h.DictOf (zAI P w) a vs
 | .dT kvs => kvs.length <= sizeLine /\ (a == sysModules) = false /\ ∃ xs : List (List Key × Addr × Value),
   Paired (λ(p : List Key × V) (q : List Key × Addr × Value)=>p.1 = q.1/\H q.2.1 = some (.tup (p.1.map kV))/\RelV p.2 q.2.2) kvs xs /\
   ∃ o es ep,h.get? a = some o/\o.ExactDict/\o.data = .dict es ep/\es.toList = xs.map (entryOfKey (tupleKind (zAI P w)))/\(xs.map (·.1)).Nodup
 | .set S n=>h.SetOf (intKind P w) a S n
 | .ins C dx fs => H dx = some (.own a) /\ fs.length <= 1000 /\ dx ≠ a /\ h.get? a = some (PySem.W.instObj C dx) /\
   ∃ mA,h.Ns1 dx mA/\(∀ f,RelO (fs.lookup f) (mA f))/\PySem.Within mA (fs.map (·.1))
 | .own _=>∃ o,h.get? a = some o
 | .xd fs=>∃ mA,h.Ns1 a mA/\∀ f,RelO (fs.lookup f) (mA f)
 | .rng lo hi=>∃ t u v,h.get? a = some { cls := .type "range",data := .fields #[.int lo t,.int hi u,.int 1 v] }
 | .frz o u=>h.get? a = some o/\ObjOk H h a u
 | .tbl ps=>h.get? a = some { cls := .none,data := .fields ps }
 | .met f x=>h.get? a = some (PySem.W.methodObj (.ref f) (.ref x))
 | .ext φ => φ h/\(∃ o,h.get? a = some o)/\∀ h1 h2 : Heap,φ h1 -> (∀ o,h1.get? a = some o -> h2.get? a = some o) -> φ h2
noncomputable def HOk (H : Hp) (h : Heap) : Prop:=∀ a o,H a = some o -> ObjOk P w H h a o
end
section
variable {P : Program} {w : World} {H H' : Hp} {h h' : Heap} {a : Addr} {o : HO}
theorem ObjOk.lt (x : ObjOk P w H h a o) : a < h.objs.size := by
 cases o with
 | lst xs=>obtain ⟨_,_,_,_,e⟩:=x; exact yAJ e
 | tup xs=>obtain ⟨_,_,_,p⟩:=x; exact p.lt
 | dK kvs=>obtain ⟨_,_,_,_,o,_,_,e,_⟩:=x; exact yAJ e
 | dT kvs=>obtain ⟨_,_,_,_,o,_,_,e,_⟩:=x; exact yAJ e
 | set S n=>obtain ⟨o,_,_,_,e,_⟩:=x; exact yAJ e
 | ins C dx fs=>obtain ⟨_,_,_,e,_⟩:=x; exact yAJ e
 | own y=>obtain ⟨_,e⟩:=x; exact yAJ e
 | xd fs=>obtain ⟨_,⟨_,_,_,e,_⟩,_⟩:=x; exact yAJ e
 | rng lo hi=>obtain ⟨_,_,_,e⟩:=x; exact yAJ e
 | frz ob u=>obtain ⟨e,_⟩:=x; exact yAJ e
 | tbl ps=>exact yAJ (show h.get? a = some _ from x)
 | met f y=>exact yAJ (show h.get? a = some _ from x)
 | ext φ => obtain ⟨_,⟨_,e⟩,_⟩:=x; exact yAJ e
theorem Paired.mapP {α β : Type} {F G : α -> β -> Prop} : ∀ {l₁ : List α} {l₂ : List β}, Paired F l₁ l₂ -> (∀ a b, F a b -> G a b) -> Paired G l₁ l₂
 | _,_,.nil,_ => .nil
 | _,_,.cons r t,f => .cons (f _ _ r) (Paired.mapP t f)
theorem ObjOk.stay (x : ObjOk P w H h a o) (k : ∀ b u, (b = a \/ H b = some (.own a)) -> h.get? b = some u -> h'.get? b = some u)
  (ho : ∀ b,H b = some (.own a) -> H' b = some (.own a)) (ht : ∀ b xs,H b = some (.tup xs) -> H' b = some (.tup xs)) : ObjOk P w H' h' a o:=by
 induction o with
 | lst xs=>obtain ⟨z,its,n,r,e⟩:=x; exact ⟨z,its,n,r,k _ _ (.inl rfl) e⟩
 | tup xs=>obtain ⟨z,its,r,ob,e,c⟩:=x; exact ⟨z,its,r,ob,k _ _ (.inl rfl) e,c⟩
 | dK kvs=>obtain ⟨z,y,vs,r,ob,es,ep,e,c⟩:=x; exact ⟨z,y,vs,r,ob,es,ep,k _ _ (.inl rfl) e,c⟩
 | dT kvs =>
  obtain ⟨z,y,xs,r,ob,es,ep,e,c⟩:=x;exact ⟨z,y,xs,Paired.mapP r λp q z=>⟨z.1,ht _ _ z.2.1,z.2.2⟩,ob,es,ep,k _ _ (.inl rfl) e,c⟩
 | set S n=>obtain ⟨ob,es,ep,t,e,c⟩:=x; exact ⟨ob,es,ep,t,k _ _ (.inl rfl) e,c⟩
 | ins C dx fs =>
  obtain ⟨d,z,ne,e,mA,⟨od,es,ep,e2,c⟩,r⟩:=x;exact ⟨ho _ d,z,ne,k _ _ (.inl rfl) e,mA,⟨od,es,ep,k _ _ (.inr d) e2,c⟩,r⟩
 | own y=>obtain ⟨ob,e⟩:=x; exact ⟨ob,k _ _ (.inl rfl) e⟩
 | xd fs=>obtain ⟨mA,⟨od,es,ep,e,c⟩,r⟩:=x; exact ⟨mA,⟨od,es,ep,k _ _ (.inl rfl) e,c⟩,r⟩
 | rng lo hi=>obtain ⟨t,u,v,e⟩:=x; exact ⟨t,u,v,k _ _ (.inl rfl) e⟩
 | frz ob u ih=>obtain ⟨e,q⟩:=x; exact ⟨k _ _ (.inl rfl) e,ih q⟩
 | tbl ps =>
  have e : h.get? a = some { cls := .none,data := .fields ps }:=x;show h'.get? a = some { cls := .none,data := .fields ps };exact k a _ (.inl rfl) e
 | met f y =>
  have e : h.get? a = some (PySem.W.methodObj (.ref f) (.ref y)):=x;show h'.get? a = some (PySem.W.methodObj (.ref f) (.ref y));exact k a _ (.inl rfl) e
 | ext φ => obtain ⟨p,⟨o,e⟩,st⟩:=x; exact ⟨st _ _ p λo q=>k _ _ (.inl rfl) q,⟨o,k _ _ (.inl rfl) e⟩,st⟩
theorem HOk.lt (x : HOk P w H h) (e : H a = some o) : a < h.objs.size:=(x a o e).lt
theorem HOk.fresh (x : HOk P w H h) (e : h.objs.size <= a) : H a = none := by
 cases q : H a with
 | none=>rfl
 | some u=>exact absurd (yAh (x.lt q) e) (yBV _)
theorem HOk.kept (x : HOk P w H h) (k : ∀ b u, h.get? b = some u -> h'.get? b = some u) : HOk P w H h' := fun a o e =>
 (x a o e).stay (λb u _ q=>k b u q) (λ_ q=>q) λ_ _ q=>q
theorem HOk.laid (x : HOk P w H h) (k : ∀ b u, h.get? b = some u -> h'.get? b = some u) (hp : h.objs.size <= a) (new : ObjOk P w (upd H a o) h' a o) : HOk P w (upd H a o) h' := fun b u e => by
 have hn:=x.fresh hp
 by_cases hb : b = a
 ·subst hb; rw [zA2] at e; cases e; exact new
 ·rw [zA6 hb] at e
  exact (x b u e).stay (λc v _ q=>k c v q) (λc q=>by rw [zA6 (zA5 q hn)]; exact q) λc xs q=>by rw [zA6 (zA5 q hn)]; exact q
end
noncomputable def Rd (H : Hp) (a : Addr) (u : HO) : Prop:=H a = some u \/ ∃ o,H a = some (.frz o u)
theorem Rd.ok {P : Program} {w : World} {H : Hp} {h : Heap} {a : Addr} {u : HO} (r : Rd H a u) (x : HOk P w H h) : ObjOk P w H h a u := by
 rcases r with r | ⟨o,r⟩
 ·exact x a u r
 ·obtain ⟨_, q⟩ := x a _ r
  exact q
noncomputable def Mut : Option HO -> Prop
 | some (.lst _)=>True
 | some (.dK _)=>True
 | some (.dT _)=>True
 | some (.set _ _)=>True
 | some (.ins _ _ _)=>True
 | some (.ext _)=>True
 | _=>False
section
variable {P : Program} {w : World} {H : Hp} {h h' : Heap} {x e : Addr} {o' : HO}
theorem HOk.write (ok : HOk P w H h) (mu : Mut (H x)) (he : e = x \/ H e = some (.own x)) (k : ∀ b u, b ≠ e -> h.get? b = some u -> h'.get? b = some u) (heo : ∃ u, h'.get? e = some u)
  (new : ObjOk P w (upd H x o') h' x o') : HOk P w (upd H x o') h':=λb u q=>by
 have nown : ∀ c y,H c = some (.own y) -> c≠x:=λc y r z=>by subst z; rw [r] at mu; exact mu
 have ntup : ∀ c xs,H c = some (.tup xs) -> c≠x:=λc xs r z=>by subst z; rw [r] at mu; exact mu
 by_cases hb : b = x
 ·subst hb; rw [zA2] at q; cases q; exact new
 ·rw [zA6 hb] at q
  by_cases hbe : b = e
  ·have q' : H b = some (.own x) := by
    rcases he with z | z
    ·exact absurd (hbe.trans z) hb
    ·rw [hbe]; exact z
   rw [q] at q'; cases q';obtain ⟨v,hv⟩:=heo;exact ⟨v,by rw [hbe]; exact hv⟩
  ·refine (ok b u q).stay (fun c v hc r => k c v ?_ r) (fun c r => by rw [zA6 (nown c b r)]; exact r) fun c xs r => by rw [zA6 (ntup c xs r)]; exact r
   rcases hc with rfl | hc
   ·exact hbe
   ·rintro rfl
    rcases he with z | z
    ·exact nown c b hc z
    ·rw [hc] at z; cases z; exact hb rfl
end
structure Un (fs ex : List Addr) (H H' : Hp) (h h' : Heap) : Prop where
 keep : ∀ b o,h.get? b = some o -> H b = none -> b∉fs -> b∉ex -> h'.get? b = some o
 slot : ∀ b o,h.get? b = some o -> H b = none -> b∈fs -> b∉ex -> ∃ sl,h'.get? b = some { o with slots:=sl }
 free : ∀ b o,h.get? b = some o -> H b = none -> b∉ex -> H' b = none
 there : ∀ b o,h.get? b = some o -> b∉ex -> ∃ o',h'.get? b = some o'
 tups : ∀ b xs,H b = some (.tup xs) -> H' b = some (.tup xs)
 frzs : ∀ b o u,H b = some (.frz o u) -> H' b = some (.frz o u)
 tbls : ∀ b ps,H b = some (.tbl ps) -> ∃ more,H' b = some (.tbl (ps++more))
section
variable {fs fs' ex ex' : List Addr} {H H1 H2 : Hp} {h h1 h2 h' : Heap} {a x e : Addr} {o : HO}
theorem Un.any (u : Un fs ex H H1 h h1) {b : Addr} {ob : Obj} (q : h.get? b = some ob) (n : H b = none) (hx : b ∉ ex) : ∃ sl, h1.get? b = some { ob with slots := sl } := by
 by_cases hb : b∈fs
 ·exact u.slot b ob q n hb hx
 ·exact ⟨ob.slots,u.keep b ob q n hb hx⟩
theorem Un.kept (k : ∀ b u, h.get? b = some u -> h'.get? b = some u) : Un fs ex H H h h' :=
 ⟨λb ob q _ _ _=>k b ob q,λb ob q _ _ _=>⟨ob.slots,k b ob q⟩,λ_ _ _ n _=>n,λb ob q _=>⟨ob,k b ob q⟩,λ_ _ q=>q,λ_ _ _ q=>q,λ_ ps q=>⟨#[],by rw [q]; simp⟩⟩
theorem Un.refl : Un fs ex H H h h:=Un.kept λ_ _ q=>q
theorem Un.laid (k : ∀ b u, h.get? b = some u -> h'.get? b = some u) (hp : h.objs.size <= a) (hn : H a = none) : Un fs ex H (upd H a o) h h' where
 keep:=λb u q _ _ _=>k b u q
 slot:=λb u q _ _ _=>⟨u.slots,k b u q⟩
 free:=λb u q n _=>by rw [zA6 (yAi (yAh (yAJ q) hp))]; exact n
 there:=λb u q _=>⟨u,k b u q⟩
 tups:=λb xs q=>by rw [zA6 (zA5 q hn)]; exact q
 frzs:=λb u xs q=>by rw [zA6 (zA5 q hn)]; exact q
 tbls:=λb ps q=>⟨#[],by rw [zA6 (zA5 q hn),q]; simp⟩
theorem Un.write (mu : Mut (H x)) (he : e = x \/ H e = some (.own x)) (k : ∀ b u, b ≠ e -> h.get? b = some u -> h'.get? b = some u) (heo : ∃ u, h'.get? e = some u) : Un fs ex H (upd H x o) h h' := by
 have hx : ∀ b,H b = none -> b≠x:=λb n z=>by subst z; rw [n] at mu; exact mu
 have hb : ∀ b, H b = none -> b ≠ e := fun b n z => by
  subst z
  rcases he with r | r
  ·exact hx b n r
  ·rw [n] at r; cases r
 have hm : ∀ b u,H b = some u -> ¬ Mut (some u) -> b≠x:=λb u q nm z=>by subst z; rw [q] at mu; exact nm mu
 refine ⟨fun b u q n _ _ => k b u (hb b n) q, fun b u q n _ _ => ⟨u.slots, k b u (hb b n) q⟩, fun b u q n _ => by rw [zA6 (hx b n)]; exact n, fun b u q _ => ?_,
  λb xs q=>by rw [zA6 (hm b _ q λz=>z)]; exact q,λb u xs q=>by rw [zA6 (hm b _ q λz=>z)]; exact q,λb ps q=>⟨#[],by rw [zA6 (hm b _ q λz=>z),q]; simp⟩⟩
 by_cases hbe : b = e
 ·subst hbe; exact heo
 ·exact ⟨u,k b u hbe q⟩
end
noncomputable def trk (h : Heap) (H : Hp) : List Addr:=(List.range h.objs.size).filter λa=>(H a).isSome
noncomputable def zTS (h : Heap) (H : Hp) : Heap:=PySem.W.hideAll h (trk h H)
theorem zPF (h : Heap) (H : Hp) : (zTS h H).objs.size = h.objs.size:=PySem.W.hideAll_size _ _
theorem zSI {h : Heap} {H : Hp} {b : Addr} {o : Obj} (e : h.get? b = some o) (n : H b = none) : (zTS h H).get? b = some o :=
 PySem.W.hideAll_get _ e fun hm => by
  have q : (H b).isSome = true:=(yBX.mp hm).2;rw [n] at q; simp at q
theorem zWM {h : Heap} {H : Hp} {b : Addr} {o : Obj} (e : (zTS h H).get? b = some o) : h.get? b = some o /\ H b = none := by
 have e' : h.get? b = some o:=PySem.W.of_hideAll (trk h H) e;refine ⟨e',?_⟩
 cases q : H b with
 | none=>rfl
 | some x =>
  have hm : b∈trk h H:=yBX.mpr ⟨yBM.mpr (yAJ e'),by simp [q]⟩;have z : (zTS h H).get? b = none:=PySem.W.hideAll_none (trk h H) hm;rw [z] at e; cases e
noncomputable def zWK (g h : Heap) (L : Addr) : List (Addr × Obj):=(List.range h.objs.size).filterMap λa=>if a = L \/ (g.get? a).isSome = true then none else (h.get? a).map λo=>(a,o)
noncomputable def rest (g h : Heap) (L d : Addr) : List (Addr × Obj):=(zWK g h L).filter λp=>decide (p.1≠d)
structure Mod (K : PySem.W.Frag) (mg : Str -> Option Value) (base : Heap) : Prop where
 kin : K.In base
 glob : base.Ns mainGlobals mg
 blt : ∃ mb,base.Ns builtinsNs mb/\∀ x : Str,x≠"__name__" -> mb x = bootBuiltins x
 nolimit : base.NoLimit
structure Cx where
 prog : Program
 w : World
 K : PySem.W.Frag
 mg : Str -> Option Value
 base : Heap
 A : Around
 N : List Str
 s₀ : Shared
 H₀ : Hp
 env : Env
 outer : List Env
 stack : List Env
 ex : List Addr
 fn : Str -> Bool
 calm : Bool
 pn : List (Addr × Obj)
 xe : Value -> Shared -> Prop
noncomputable def frs (l : List Env) : List Addr:=l.filterMap (·.frame)
noncomputable abbrev Cx.fs (X : Cx) : List Addr:=frs X.outer
noncomputable def Vis (sc : Scope) (x : Str) : Prop:=sc.names.lookup x = some .local \/ sc.names.lookup x = some .cell \/ sc.names.lookup x = some .free
noncomputable def Loc (sc : Scope) (x : Str) : Prop:=sc.names.lookup x = some .local \/ sc.names.lookup x = some .cell
noncomputable def zcS (env : Env) (h : Heap) (m : Str -> Option Value) (x : Str) (u : Value) : Prop :=
 (env.kindOf x = some .local/\m x = some u) \/ ((env.kindOf x = some .cell \/ env.kindOf x = some .free)/\∃ c,env.cells.lookup x = some c/\h.IsCell c (some u))
structure Cx.Ok (X : Cx) : Prop where
 mod : Mod X.K X.mg X.base
 kind : X.env.scope.kind = .function
 glob : X.env.globals = mainGlobals
 blt : X.env.builtins = builtinsNs
 above : X.s₀.heap.objs.size <= X.env.locals
 inj : ∀ x y c,X.env.cells.lookup x = some c -> X.env.cells.lookup y = some c -> x = y
 has : ∀ x,(X.env.kindOf x = some .cell \/ X.env.kindOf x = some .free) -> ∃ c,X.env.cells.lookup x = some c
 cab : ∀ x c,X.fn x = true -> X.env.cells.lookup x = some c -> X.s₀.heap.objs.size <= c
 hd : X.calm = true -> X.A.handled = none
 frames : X.A.frames = some X.stack
 stk : X.stack = X.outer \/ (X.stack = X.env::X.outer/\X.env.frame = some X.env.locals)
 exf : ∀ b∈X.ex,b≠X.env.locals/\∀ x c,X.env.cells.lookup x = some c -> c≠b
 bs : ∀ b o,X.base.get? b = some o -> X.s₀.heap.get? b = some o/\X.H₀ b = none
 bsz : X.base.objs.size <= X.s₀.heap.objs.size
 noex : ∀ b o,X.base.get? b = some o -> b∉X.ex
 exfs : ∀ b∈X.ex,b∉X.fs
 funs : X.s₀.heap.FunFrames X.base X.outer
 frf : ∀ b∈X.fs,X.H₀ b = none
structure Inv (X : Cx) (pins : List (Addr × Obj)) (σ : List (Option V)) (H : Hp) (s : Shared) : Prop where
 ok : X.Ok
 os : s.os = X.s₀.os
 bare : AllBare s.gens
 base : Un X.fs X.ex X.H₀ H X.s₀.heap s.heap
 loc : ∃ m,s.heap.Ns X.env.locals m/\∀ (i : Nat) (x : Str) (v : V),X.N[i]? = some x -> σ[i]? = some (some v) -> Vis X.env.scope x -> ∃ u,RelV v u/\zcS X.env s.heap m x u
 cell : ∀ x c,X.env.cells.lookup x = some c -> ∃ v,s.heap.IsCell c v
 free : H X.env.locals = none
 freeC : ∀ x c,X.env.cells.lookup x = some c -> H c = none
 pin : ∀ p∈X.pn++pins,s.heap.get? p.1 = some p.2/\H p.1 = none/\p.1≠X.env.locals/\p.1∉X.fs/\∀ v,p.2.data ≠ .cell v
 hok : HOk X.prog X.w H s.heap
 len : σ.length = X.N.length
section
variable {X : Cx} {pins : List (Addr × Obj)} {σ : List (Option V)} {H H' : Hp} {s : Shared} {h' : Heap}
theorem Cx.Ok.nofr (ok : X.Ok) {b : Addr} {o : Obj} (e : X.base.get? b = some o) : b ∉ X.fs := fun hb => by
 have:=(ok.funs.mem hb).1
 rw [e] at this; cases this
theorem Inv.bs (I : Inv X pins σ H s) : ∀ b o, X.base.get? b = some o -> s.heap.get? b = some o /\ H b = none := fun b o e =>
 ⟨I.base.keep b o (I.ok.bs b o e).1 (I.ok.bs b o e).2 (I.ok.nofr e) (I.ok.noex b o e),I.base.free b o (I.ok.bs b o e).1 (I.ok.bs b o e).2 (I.ok.noex b o e)⟩
theorem Inv.bk (I : Inv X pins σ H s) : ∀ b o,X.base.get? b = some o -> s.heap.get? b = some o:=λb o e=>(I.bs b o e).1
theorem Inv.mod (I : Inv X pins σ H s) : Mod X.K X.mg X.base:=I.ok.mod
theorem Inv.kIn (I : Inv X pins σ H s) : X.K.In s.heap:=I.ok.mod.kin.keeps I.bk
theorem Inv.fr (I : Inv X pins σ H s) : ∃ m, Fr X.base X.env.locals s.heap m :=
 let ⟨m,hn,_⟩:=I.loc
 ⟨m,hn,I.bk,yAk I.ok.bsz I.ok.above⟩
theorem Inv.lt (I : Inv X pins σ H s) : X.env.locals < s.heap.objs.size:=let ⟨_,hn,_⟩:=I.loc; hn.lt
theorem Inv.sz (I : Inv X pins σ H s) : X.s₀.heap.objs.size <= s.heap.objs.size:=yAk I.ok.above (yDq I.lt)
theorem Inv.nofs (I : Inv X pins σ H s) {a : Addr} (h : s.heap.objs.size <= a) : a ∉ X.fs := fun hb => by
 obtain ⟨_,o,ho,_⟩:=I.ok.funs.mem hb;exact absurd (yAh (yAJ ho) (yAk I.sz h)) (yBV _)
theorem Inv.cne (I : Inv X pins σ H s) : ∀ x c, X.env.cells.lookup x = some c -> c ≠ X.env.locals := fun x c e z => by
 obtain ⟨v,o,ho,hd⟩:=I.cell x c e;obtain ⟨m,⟨o',es,ep,ho',hd',_⟩,_⟩:=I.loc;rw [z,ho'] at ho; cases ho; rw [hd'] at hd; cases hd
theorem Inv.funs (I : Inv X pins σ H s) : s.heap.FunFrames X.base X.outer := by
 have all : ∀ (l : List Env), (∀ b ∈ frs l, b ∈ X.fs) -> X.s₀.heap.FunFrames X.base l -> s.heap.FunFrames X.base l := by
  intro l
  induction l with
  | nil=>intro _ _; exact trivial
  | cons env r ih =>
   intro hs hl;obtain ⟨hk,⟨L,o,hf,hn,ho,hd⟩,hr⟩:=hl;have hL : L∈X.fs:=hs L (by unfold frs; rw [yDL,hf]; exact yAR);obtain ⟨sl,e⟩:=I.base.slot L o ho (I.ok.frf L hL) hL λz=>I.ok.exfs L z hL;exact ⟨hk,⟨L,_,hf,hn,e,hd⟩,ih (λb hb=>hs b (by unfold frs; rw [yDL,hf]; exact yAO _ hb)) hr⟩
 exact all X.outer (λ_ hb=>hb) I.ok.funs
theorem Inv.stack (I : Inv X pins σ H s) : s.heap.FunFrames X.base X.stack := by
 rcases I.ok.stk with e | ⟨e,hf⟩
 ·rw [e]; exact I.funs
 ·rw [e]
  obtain ⟨m,hn,_⟩:=I.loc;refine .cons (by rw [I.ok.kind]; decide) hf hn ?_ I.funs;exact Heap.get?_none_of_le (yAk I.ok.bsz I.ok.above)
theorem Inv.stkSub (I : Inv X pins σ H s) : ∀ b ∈ frs X.stack, b ∈ X.env.locals :: X.fs := fun b hb => by
 rcases I.ok.stk with e | ⟨e,hf⟩
 ·rw [e] at hb; exact yAO _ hb
 ·rw [e] at hb
  unfold frs at hb;rw [yDL,hf] at hb;exact hb
theorem Inv.stkFree (I : Inv X pins σ H s) : ∀ b ∈ frs X.stack, H b = none := fun b hb => by
 rcases yAb.mp (I.stkSub b hb) with e | hb
 ·rw [e]; exact I.free
 ·obtain ⟨_, o, ho, _⟩ := I.ok.funs.mem hb
  exact I.base.free b o ho (I.ok.frf b hb) λz=>I.ok.exfs b z hb
theorem Inv.step {g' : Array GenState} {t' : Nat} {d' : Drawn} {ch : List Addr} (I : Inv X pins σ H s)
  (hch : ∀ b∈ch,(b∈X.ex \/ X.s₀.heap.objs.size <= b)/\b≠X.env.locals/\(∀ x c,X.env.cells.lookup x = some c -> c≠b)/\∀ p∈X.pn++pins,p.1≠b)
  (keep : ∀ b o,b≠X.env.locals -> b∉X.fs -> b∉ch -> s.heap.get? b = some o -> H b = none -> h'.get? b = some o)
  (slot : ∀ b o,b≠X.env.locals -> b∈X.fs -> b∉ch -> s.heap.get? b = some o -> H b = none -> ∃ sl,h'.get? b = some { o with slots:=sl }) (free : ∀ b o,b∉ch -> s.heap.get? b = some o -> H b = none -> H' b = none)
  (there : ∀ b o,b∉ch -> s.heap.get? b = some o -> ∃ o',h'.get? b = some o')
  (tups : ∀ b xs,H b = some (.tup xs) -> H' b = some (.tup xs)) (frzs : ∀ b o u,H b = some (.frz o u) -> H' b = some (.frz o u)) (tbls : ∀ b ps,H b = some (.tbl ps) -> ∃ more,H' b = some (.tbl (ps++more)))
  (ns : ∀ m,s.heap.Ns X.env.locals m -> h'.Ns X.env.locals m) (hok : HOk X.prog X.w H' h') (hg : AllBare g') :
  Inv X pins σ H' { s with heap:=h',gens:=g',drawn:=d',toks:=t' }:=by
 have neL : ∀ b o,X.s₀.heap.get? b = some o -> b≠X.env.locals:=λb o e=>yAi (yAh (yAJ e) I.ok.above)
 have neC : ∀ b o, X.s₀.heap.get? b = some o -> b ∉ X.ex -> b ∉ ch := fun b o e hx hb => by
  rcases (hch b hb).1 with z | z
  ·exact hx z
  ·exact absurd (yAh (yAJ e) z) (yBV _)
 have cellK : ∀ x c, X.env.cells.lookup x = some c -> ∀ v, s.heap.IsCell c v -> h'.IsCell c v := fun x c e v ⟨o, ho, hd⟩ => by
  have nch : c∉ch:=λz=>(hch c z).2.2.1 x c e rfl
  by_cases hc : c∈X.fs
  ·obtain ⟨sl, q⟩ := slot c o (I.cne x c e) hc nch ho (I.freeC x c e)
   exact ⟨_,q,hd⟩
  ·exact ⟨o,keep c o (I.cne x c e) hc nch ho (I.freeC x c e),hd⟩
 refine ⟨I.ok,I.os,hg,⟨λb o e n hb hx => ?_,λb o e n hb hx => ?_,λb o e n hx => ?_,λb o e hx => ?_,λb xs e=>tups b xs (I.base.tups b xs e),λb o xs e=>frzs b o xs (I.base.frzs b o xs e),λb ps e => ?_⟩,?_,λx c e => ?_,?_,λx c e => ?_,λp hp => ?_,hok,I.len⟩
 ·exact keep b o (neL b o e) hb (neC b o e hx) (I.base.keep b o e n hb hx) (I.base.free b o e n hx)
 ·obtain ⟨sl, e1⟩ := I.base.slot b o e n hb hx
  obtain ⟨sl',e2⟩:=slot b _ (neL b o e) hb (neC b o e hx) e1 (I.base.free b o e n hx);exact ⟨sl',e2⟩
 ·obtain ⟨o', e1⟩ := I.base.there b o e hx
  exact free b o' (neC b o e hx) e1 (I.base.free b o e n hx)
 ·obtain ⟨o', e1⟩ := I.base.there b o e hx
  exact there b o' (neC b o e hx) e1
 ·obtain ⟨m1, e1⟩ := I.base.tbls b ps e
  obtain ⟨m2,e2⟩:=tbls b _ e1;exact ⟨m1++m2,by rw [e2,Array.append_assoc]⟩
 ·obtain ⟨m, hn, hl⟩ := I.loc
  refine ⟨m,ns m hn,λi x v e1 e2 e3 => ?_⟩;obtain ⟨u,r,l⟩:=hl i x v e1 e2 e3;refine ⟨u,r,?_⟩
  rcases l with l | ⟨k,c,e,z⟩
  ·exact .inl l
  ·exact .inr ⟨k,c,e,cellK x c e _ z⟩
 ·obtain ⟨v, z⟩ := I.cell x c e
  exact ⟨v,cellK x c e v z⟩
 ·obtain ⟨m, ⟨o, _, _, ho, _⟩, _⟩ := I.loc
  exact free _ o (λz=>(hch _ z).2.1 rfl) ho I.free
 ·obtain ⟨v, o, ho, hd⟩ := I.cell x c e
  exact free c o (λz=>(hch c z).2.2.1 x c e rfl) ho (I.freeC x c e)
 ·obtain ⟨e, n, ne, nf, d⟩ := I.pin p hp
  have nch : p.1∉ch:=λz=>(hch p.1 z).2.2.2 p hp rfl;exact ⟨keep p.1 p.2 ne nf nch e n,free p.1 p.2 nch e n,ne,nf,d⟩
theorem Inv.un {t' : Nat} (I : Inv X pins σ H s) (u : Un X.fs [] H H' s.heap h') (hok : HOk X.prog X.w H' h') : Inv X pins σ H' { s with heap := h', toks := t' } := by
 obtain ⟨m,⟨o,es,ep,ho,r⟩,_⟩:=id I.loc;obtain ⟨sl,hL⟩:=u.any ho I.free (by simp)
 exact I.step (g' := s.gens) (d' := s.drawn) (ch := []) (fun _ z => nomatch z) (fun b o _ hb _ e n => u.keep b o e n hb (by simp)) (fun b o _ hb _ e n => u.slot b o e n hb (by simp)) (fun b o _ e n => u.free b o e n (by simp)) (fun b o _ e => u.there b o e (by simp)) u.tups u.frzs u.tbls (fun m' hm => by
  obtain ⟨o',es',ep',ho',r'⟩:=hm;rw [ho] at ho'; cases ho';exact ⟨_,es',ep',hL,r'⟩) hok I.bare
theorem Inv.call {g' : Array GenState} {t' : Nat} {d' : Drawn} {ch : List Addr} (I : Inv X pins σ H s) (u : Un (frs X.stack) ch H H' s.heap h') (hok : HOk X.prog X.w H' h') (hg : AllBare g')
  (hch : ∀ b∈ch,(b∈X.ex \/ X.s₀.heap.objs.size <= b)/\b≠X.env.locals/\(∀ x c,X.env.cells.lookup x = some c -> c≠b)/\∀ p∈X.pn++pins,p.1≠b) :
  Inv X pins σ H' { s with heap:=h',gens:=g',drawn:=d',toks:=t' }:=by
 obtain ⟨m,⟨o,es,ep,ho,r⟩,_⟩:=id I.loc;obtain ⟨sl,hL⟩:=u.any ho I.free λz=>(hch _ z).2.1 rfl
 exact I.step (ch := ch) hch (fun b o hL hb hc e n => u.keep b o e n (fun z => (yAb.mp (I.stkSub b z)).elim hL hb) hc) (fun b o _ _ hc e n => u.any e n hc) (fun b o hc e n => u.free b o e n hc) (fun b o hc e => u.there b o e hc) u.tups u.frzs u.tbls (fun m' hm => by
  obtain ⟨o',es',ep',ho',r'⟩:=hm;rw [ho] at ho'; cases ho';exact ⟨_,es',ep',hL,r'⟩) hok hg
theorem Inv.turned {t' : Nat} {it : Addr} (I : Inv X pins σ H s) (k : ∀ b o, b ≠ it -> s.heap.get? b = some o -> h'.get? b = some o) (hn : H it = none) (hL : it ≠ X.env.locals)
  (h1 : it∈X.ex \/ X.s₀.heap.objs.size <= it) (h2 : ∀ x c,X.env.cells.lookup x = some c -> c≠it) (h3 : ∀ p∈X.pn++pins,p.1≠it) : Inv X pins σ H { s with heap:=h',toks:=t' }:=by
 have nit : ∀ b u,H b = some u -> b≠it:=λb u e z=>by rw [z,hn] at e; cases e
 refine I.step (g' := s.gens) (d' := s.drawn) (ch := [it]) (fun b hb => ?_) (fun b o _ _ hc e _ => k b o (fun z => hc (by simp [z])) e) (fun b o _ _ hc e _ => ⟨o.slots, k b o (fun z => hc (by simp [z])) e⟩) (fun _ _ _ _ n => n)
  (λb o hc e=>⟨o,k b o (λz=>hc (by simp [z])) e⟩) (λ_ _ e=>e) (λ_ _ _ e=>e) (λb ps e=>⟨#[],by rw [e]; simp⟩) (λm hm => ?_) (λb u e => ?_) I.bare
 ·have e : b = it := by simpa using hb
  subst e;exact ⟨h1,hL,h2,h3⟩
 ·obtain ⟨o, es, ep, ho, r⟩ := hm
  exact ⟨o,es,ep,k _ o (Ne.symm hL) ho,r⟩
 ·refine (I.hok b u e).stay (fun c v hc q => k c v ?_ q) (fun _ q => q) fun _ _ q => q
  rcases hc with z | z
  ·rw [z]; exact nit b u e
  ·exact nit c _ z
theorem Inv.tok (I : Inv X pins σ H s) (t : Nat) : Inv X pins σ H { s with toks:=t }:=I.un (h':=s.heap) (t':=t) Un.refl I.hok
theorem Inv.kept {t' : Nat} (I : Inv X pins σ H s) (k : ∀ b u,s.heap.get? b = some u -> h'.get? b = some u) : Inv X pins σ H { s with heap:=h',toks:=t' }:=I.un (Un.kept k) (I.hok.kept k)
theorem Inv.laid {a : Addr} {o : HO} {t' : Nat} (I : Inv X pins σ H s) (k : ∀ b u, s.heap.get? b = some u -> h'.get? b = some u) (hp : s.heap.objs.size <= a) (new : ObjOk X.prog X.w (upd H a o) h' a o) :
  Inv X pins σ (upd H a o) { s with heap:=h',toks:=t' }:=I.un (Un.laid k hp (I.hok.fresh hp)) (I.hok.laid k hp new)
theorem Inv.write {x e : Addr} {o : HO} {t' : Nat} (I : Inv X pins σ H s) (mu : Mut (H x)) (he : e = x \/ H e = some (.own x)) (k : ∀ b u, b ≠ e -> s.heap.get? b = some u -> h'.get? b = some u) (heo : ∃ u, h'.get? e = some u)
  (new : ObjOk X.prog X.w (upd H x o) h' x o) : Inv X pins σ (upd H x o) { s with heap:=h',toks:=t' }:=I.un (Un.write mu he k heo) (I.hok.write mu he k heo new)
theorem Inv.weak {σ' : List (Option V)} (I : Inv X pins σ H s) (hl : σ'.length = σ.length) (w : ∀ (i : Nat) v, σ'[i]? = some (some v) -> σ[i]? = some (some v)) : Inv X pins σ' H s :=
 ⟨I.ok,I.os,I.bare,I.base,let ⟨m,hn,hl'⟩:=I.loc; ⟨m,hn,λi x v e1 e2 e3=>hl' i x v e1 (w i v e2) e3⟩,I.cell,I.free,I.freeC,I.pin,I.hok,hl.trans I.len⟩
theorem Inv.pins_of {pins' : List (Addr × Obj)} (I : Inv X pins σ H s) (h : ∀ p ∈ pins', s.heap.get? p.1 = some p.2 /\ H p.1 = none /\ p.1 ≠ X.env.locals /\ p.1 ∉ X.fs /\ ∀ v, p.2.data ≠ .cell v) : Inv X pins' σ H s :=
 ⟨I.ok,I.os,I.bare,I.base,I.loc,I.cell,I.free,I.freeC,λp hp=>(yAa.mp hp).elim (λz=>I.pin p (yBj _ z)) (h p),I.hok,I.len⟩
theorem zM4 {N : List Str} (hN : N.Nodup) {i j : Nat} {x : Str} (a : N[i]? = some x) (b : N[j]? = some x) : i = j := by
 obtain ⟨h1,e1⟩:=yAI.mp a;obtain ⟨h2,e2⟩:=yAI.mp b;exact (yCB hN).mp (e1.trans e2.symm)
theorem zI9 {M : Model} {A : Around} {E : Value -> Shared -> Prop} {i : Nat} {x : Str} {v : V} {u : Value} {Q : Unit -> Shared -> Prop} (I : Inv X pins σ H s) (hN : X.N.Nodup) (hi : X.N[i]? = some x) (hx : Loc X.env.scope x) (r : RelV v u)
  (h : ∀ s',Inv X pins (σ.set i (some v)) H s' -> (∃ a,Heap.SameBut a s.heap s'.heap/\(a = X.env.locals \/ X.env.cells.lookup x = some a)) -> Q () s') (hf : X.fn x = true \/ X.env.scope.names.lookup x = some .local:=by first | exact .inl rfl | exact .inr rfl | assumption) : wpAny M A (storeName X.env x u) Q E s:=by
 obtain ⟨m,hn,hl⟩:=id I.loc;have hcls : (X.env.scope.kind == .class||(X.env.scope.kind == .module&&X.env.locals != X.env.globals)) = false:=by rw [I.ok.kind]; rfl
 have hiσ : i < σ.length:=by rw [I.len]; exact (yAI.mp hi).1
 have cne:=I.cne
 have tracked : ∀ {a : Addr} {h' : Heap}, (∃ o, s.heap.get? a = some o /\ H a = none) -> Heap.SameBut a s.heap h' -> HOk X.prog X.w H h' := fun {a h'} ha hs b ob e => by
  obtain ⟨_,_,hfree⟩:=ha;refine (I.hok b ob e).stay (λc w' hc q=>(hs.2 c ?_).trans q) (λ_ q=>q) λ_ _ q=>q
  rintro rfl
  rcases hc with rfl | hc
  ·rw [hfree] at e; cases e
  ·rw [hfree] at hc; cases hc
 rcases hx with hk | hk
 ·refine wpAny_storeName_local hk hn (fun h' hn' hs => ?_) hcls
  obtain ⟨oL,_,_,hoL,_⟩:=id hn;refine h _ ⟨I.ok,I.os,I.bare,⟨λb o e n hb hx => ?_,λb o e n hb hx => ?_,I.base.free,λb o e hx => ?_,I.base.tups,I.base.frzs,I.base.tbls⟩,⟨_,hn',λj y v' e1 e2 e3 => ?_⟩,λy c e => ?_,I.free,I.freeC,λp hp => ?_,tracked ⟨oL,hoL,I.free⟩ hs,by simpa using I.len⟩ ⟨_,hs,.inl rfl⟩
  ·exact (hs.2 b (yAi (yAh (yAJ e) I.ok.above))).trans (I.base.keep b o e n hb hx)
  ·obtain ⟨sl, e1⟩ := I.base.slot b o e n hb hx
   exact ⟨sl,(hs.2 b (yAi (yAh (yAJ e) I.ok.above))).trans e1⟩
  ·obtain ⟨o', e1⟩ := I.base.there b o e hx
   exact ⟨o',(hs.2 b (yAi (yAh (yAJ e) I.ok.above))).trans e1⟩
  ·by_cases hj : j = i
   ·subst hj
    rw [hi] at e1; cases e1;rw [List.getElem?_set_self hiσ] at e2
    cases e2
    exact ⟨u,r,.inl ⟨hk,by simp⟩⟩
   ·rw [List.getElem?_set_ne (Ne.symm hj)] at e2
    obtain ⟨u',r',q⟩:=hl j y v' e1 e2 e3;refine ⟨u',r',?_⟩
    rcases q with ⟨k,e⟩ | ⟨k,c,e,z⟩
    ·refine .inl ⟨k, ?_⟩
     have : y≠x:=λe=>hj (zM4 hN e1 (e ▸ hi))
     simp [this,e]
    ·exact .inr ⟨k,c,e,z.sameBut hs (cne y c e)⟩
  ·obtain ⟨w', z⟩ := I.cell y c e
   exact ⟨w',z.sameBut hs (cne y c e)⟩
  ·obtain ⟨e, n, ne, nf, d⟩ := I.pin p hp
   exact ⟨(hs.2 p.1 ne).trans e,n,ne,nf,d⟩
 ·have hfn : X.fn x = true := by
   rcases hf with z | z
   ·exact z
   ·rw [z] at hk; cases hk
  obtain ⟨c,hc⟩:=I.ok.has x (.inl hk);obtain ⟨w',z⟩:=I.cell x c hc;refine wpAny_storeName_cell I.ok.kind hk hc z (λh' hc' hs => ?_);obtain ⟨oc,hoc,hocd⟩:=id z;refine h { s with heap:=h' } ⟨I.ok,I.os,I.bare,⟨λb o e n hb hx => ?_,λb o e n hb hx => ?_,I.base.free,λb o e hx => ?_,I.base.tups,I.base.frzs,I.base.tbls⟩,⟨m,hn.sameBut hs (Ne.symm (cne x c hc)),λj y v' e1 e2 e3 => ?_⟩,λy c' e => ?_,I.free,I.freeC,λp hp => ?_,tracked ⟨oc,hoc,I.freeC x c hc⟩ hs,by simpa using I.len⟩ ⟨c,hs,.inr hc⟩
  ·exact (hs.2 b (yAi (yAh (yAJ e) (I.ok.cab x c hfn hc)))).trans (I.base.keep b o e n hb hx)
  ·obtain ⟨sl, e1⟩ := I.base.slot b o e n hb hx
   exact ⟨sl,(hs.2 b (yAi (yAh (yAJ e) (I.ok.cab x c hfn hc)))).trans e1⟩
  ·obtain ⟨o', e1⟩ := I.base.there b o e hx
   exact ⟨o',(hs.2 b (yAi (yAh (yAJ e) (I.ok.cab x c hfn hc)))).trans e1⟩
  ·by_cases hj : j = i
   ·subst hj
    rw [hi] at e1; cases e1;rw [List.getElem?_set_self hiσ] at e2
    cases e2
    exact ⟨u,r,.inr ⟨.inl hk,c,hc,hc'⟩⟩
   ·rw [List.getElem?_set_ne (Ne.symm hj)] at e2
    obtain ⟨u',r',q⟩:=hl j y v' e1 e2 e3;refine ⟨u',r',?_⟩
    rcases q with q | ⟨k,c',e,z'⟩
    ·exact .inl q
    ·refine .inr ⟨k, c', e, z'.sameBut hs ?_⟩
     rintro rfl
     exact hj (zM4 hN e1 (I.ok.inj _ _ _ e hc ▸ hi))
  ·by_cases hcc : c' = c
   ·subst hcc; exact ⟨_,hc'⟩
   ·obtain ⟨w2, z2⟩ := I.cell y c' e
    exact ⟨w2,z2.sameBut hs hcc⟩
  ·obtain ⟨e, n, ne, nf, d⟩ := I.pin p hp
   refine ⟨(hs.2 p.1 ?_).trans e,n,ne,nf,d⟩;intro q;rw [q,hoc] at e;have q' : oc = p.2:=Option.some.inj e;exact d w' (by rw [<- q']; exact hocd)
theorem zHH {M : Model} {A : Around} {E : Value -> Shared -> Prop} {i : Nat} {x : Str} {v : V} {u : Value} {Q : Unit -> Shared -> Prop} (I : Inv X pins σ H s) (hN : X.N.Nodup) (hi : X.N[i]? = some x) (hx : Loc X.env.scope x) (r : RelV v u)
  (h : ∀ s',Inv X pins (σ.set i (some v)) H s' -> Q () s') (hf : X.fn x = true \/ X.env.scope.names.lookup x = some .local:=by first | exact .inl rfl | exact .inr rfl | assumption) : wpAny M A (storeName X.env x u) Q E s :=
 zI9 I hN hi hx r (λs' I' _=>h s' I') hf
theorem Inv.call' {s' : Shared} {ch : List Addr} (I : Inv X pins σ H s) (ho : s'.os = s.os) (u : Un (frs X.stack) ch H H' s.heap s'.heap) (hok : HOk X.prog X.w H' s'.heap) (hg : AllBare s'.gens)
  (hch : ∀ b∈ch,(b∈X.ex \/ X.s₀.heap.objs.size <= b)/\b≠X.env.locals/\(∀ x c,X.env.cells.lookup x = some c -> c≠b)/\∀ p∈X.pn++pins,p.1≠b) : Inv X pins σ H' s':=by
 obtain ⟨h',g',d',t',o'⟩:=s';have e : o' = s.os:=ho;subst e;exact I.call (g':=g') (t':=t') (d':=d') u hok hg hch
end
noncomputable abbrev XK:=Value -> Option Addr -> Hp -> Prop
noncomputable abbrev St:=List (Option V)
noncomputable abbrev VK:=V -> Hp -> Prop
noncomputable abbrev TE:=St -> Hp -> VK -> Prop
noncomputable abbrev TT:=St -> Hp -> (Bool -> Hp -> Prop) -> Prop
noncomputable abbrev TA:=St -> Hp -> (List V -> Hp -> Prop) -> Prop
structure Ends where
 nx : St -> Hp -> Prop
 rt : VK
 bk : St -> Hp -> Prop:=λ_ _=>False
 ct : St -> Hp -> Prop:=λ_ _=>False
noncomputable abbrev TS:=Ends -> St -> Hp -> Prop
noncomputable def EP (X : Cx) (pins : List (Addr × Obj)) (σ : St) (Q : VK) (u : Value) (s' : Shared) : Prop:=∃ v H',Inv X pins σ H' s'/\RelV v u/\Q v H'
noncomputable def TP (X : Cx) (pins : List (Addr × Obj)) (σ : St) (Q : Bool -> Hp -> Prop) (b : Bool) (s' : Shared) : Prop:=∃ H',Inv X pins σ H' s'/\Q b H'
noncomputable def AP (X : Cx) (pins : List (Addr × Obj)) (σ : St) (Q : List V -> Hp -> Prop) (us : List Value) (s' : Shared) : Prop:=∃ vs H',Inv X pins σ H' s'/\Vals vs us/\Q vs H'
noncomputable def SP (X : Cx) (pins : List (Addr × Obj)) (D : Ends) (f : Flow) (s' : Shared) : Prop :=
 match f with
 | .next=>∃ σ' H',Inv X pins σ' H' s'/\D.nx σ' H'
 | .brk=>∃ σ' H',Inv X pins σ' H' s'/\D.bk σ' H'
 | .cont=>∃ σ' H',Inv X pins σ' H' s'/\D.ct σ' H'
 | .ret u=>∃ v σ' H',Inv X pins σ' H' s'/\RelV v u/\D.rt v H'
noncomputable def PE (X : Cx) (e : Expr) (t : TE) : Prop :=
 ∀ (pins : List (Addr × Obj)) (s : Shared) (σ : St) (H : Hp) (Q : VK),Inv X pins σ H s -> t σ H Q -> wpAny (model X.prog X.w) X.A (eval e X.env) (EP X pins σ Q) X.xe s
noncomputable def PT (X : Cx) (e : Expr) (t : TT) : Prop :=
 ∀ (pins : List (Addr × Obj)) (s : Shared) (σ : St) (H : Hp) (Q : Bool -> Hp -> Prop),Inv X pins σ H s -> t σ H Q -> wpAny (model X.prog X.w) X.A (isTrue e X.env (eval e X.env)) (TP X pins σ Q) X.xe s
noncomputable def PW (X : Cx) (e : Expr) (t : TT) : Prop :=
 ∀ (whole : Sem Value) (pins : List (Addr × Obj)) (s : Shared) (σ : St) (H : Hp) (Q : Bool -> Hp -> Prop),Inv X pins σ H s -> t σ H Q -> wpAny (model X.prog X.w) X.A (isTrue e X.env whole) (TP X pins σ Q) X.xe s
theorem PW.pt {X : Cx} {e : Expr} {t : TT} (h : PW X e t) : PT X e t:=h _
noncomputable def PA (X : Cx) (es : List Expr) (t : TA) : Prop :=
 ∀ (pos : Pos) (pins : List (Addr × Obj)) (s : Shared) (σ : St) (H : Hp) (Q : List V -> Hp -> Prop),Inv X pins σ H s -> t σ H Q -> wpAny (model X.prog X.w) X.A (spliced (backTo pos (starEach es X.env))) (AP X pins σ Q) X.xe s
noncomputable def PS (X : Cx) (st : Stmt) (t : TS) : Prop :=
 ∀ (pins : List (Addr × Obj)) (s : Shared) (σ : St) (H : Hp) (D : Ends),Inv X pins σ H s -> t D σ H -> wpAny (model X.prog X.w) X.A (exec st X.env) (SP X pins D) X.xe s
noncomputable def PSs (X : Cx) (st : List Stmt) (t : TS) : Prop :=
 ∀ (pins : List (Addr × Obj)) (s : Shared) (σ : St) (H : Hp) (D : Ends),Inv X pins σ H s -> t D σ H -> wpAny (model X.prog X.w) X.A (execs st X.env) (SP X pins D) X.xe s
theorem thn {α : Type} {t : Sem α} {Q Q' : α -> Shared -> Prop} {M : Model} {A : Around} {E : Value -> Shared -> Prop} {s : Shared} (h : wpAny M A t Q E s) (hQ : ∀ a s,Q a s -> Q' a s) : wpAny M A t Q' E s:=yBO h hQ λ_ _ x=>x
section
variable {X : Cx}
noncomputable def zCT (i : Nat) : TE:=λσ H Q=>∃ v,σ[i]? = some (some v)/\Q v H
noncomputable def tC (v : V) : TE:=λ_ H Q=>Q v H
theorem zZO {i : Nat} {x : Str} {pos : Pos} (hN : X.N[i]? = some x) (hv : Vis X.env.scope x) (hd : (x == ("__debug__" : Str)) = false := by decide) (hcd : (x == ("__classdict__" : Str)) = false := by decide) : PE X (.Name x pos) (zCT i) := by
 intro pins s σ H Q I h;obtain ⟨v,e,h⟩:=h;obtain ⟨m,hn,hl⟩:=I.loc;obtain ⟨u,r,l⟩:=hl i x v hN e hv;have fin : EP X pins σ Q u s:=⟨v,H,I,r,h⟩
 rcases l with ⟨hk,hm⟩ | ⟨hk,c,hc,hcell⟩
 ·exact wpAny_Name (wpAny_loadName_local I.ok.kind hk hn hm fin) hd
 ·rcases hk with hk | hk
  ·exact wpAny_Name (wpAny_loadName_cell I.ok.kind hk hc hcell fin) hd
  ·exact wpAny_Name (wpAny_loadName_free I.ok.kind hk hc hcell fin hcd) hd
theorem zA8 {i j pos} : PE X (.Constant (.int i) j pos) (tC (.int i)):=λ_ _ _ H _ I h=>wpAny_Constant_int ⟨.int i,H,I.tok _,⟨_,rfl⟩,h⟩
theorem zDJ {b j pos} : PE X (.Constant (.bool b) j pos) (tC (.bl b)):=λ_ _ _ H _ I h=>Constant_bool ⟨.bl b,H,I,rfl,h⟩
theorem zCA {j pos} : PE X (.Constant .none j pos) (tC .non):=λ_ _ _ H _ I h=>Constant_none ⟨.non,H,I,rfl,h⟩
theorem zBB {x j pos} : PE X (.Constant (.str x) j pos) (tC (.str x)):=λ_ _ _ H _ I h=>Calls.Constant_str ⟨.str x,H,I.tok _,⟨_,rfl⟩,h⟩
noncomputable def Gl (X : Cx) (x : Str) : Prop:=X.env.kindOf x = some .globalImplicit
theorem zCY {E : Value -> Shared -> Prop} {pins : List (Addr × Obj)} {s : Shared} {σ : St} {H : Hp} {x : Str} {u : Value} {pos : Pos} {Q : Value -> Shared -> Prop} (I : Inv X pins σ H s) (hg : Gl X x) (hm : X.mg x = some u) (h : Q u s)
  (hd : (x == ("__debug__" : Str)) = false:=by decide) : wpAny (model X.prog X.w) X.A (eval (.Name x pos) X.env) Q E s :=
 Calls.Name_function_global I.ok.kind hg (Calls.loadGlobal_global (by rw [I.ok.glob]; exact I.mod.glob.keeps I.bk) hm h) hd
theorem zE2 {E : Value -> Shared -> Prop} {pins : List (Addr × Obj)} {s : Shared} {σ : St} {H : Hp} {x : Str} {u : Value} {pos : Pos} {Q : Value -> Shared -> Prop} (I : Inv X pins σ H s) (hg : Gl X x) (hm : X.mg x = none) (hv : bootBuiltins x = some u) (h : Q u s)
  (hn : x≠"__name__":=by decide) (hd : (x == ("__debug__" : Str)) = false:=by decide) : wpAny (model X.prog X.w) X.A (eval (.Name x pos) X.env) Q E s:=by
 obtain ⟨mb,h1,h2⟩:=I.mod.blt;exact Calls.Name_function_global I.ok.kind hg (Calls.loadGlobal_builtin (by rw [I.ok.glob]; exact I.mod.glob.keeps I.bk) hm (by rw [I.ok.blt]; exact h1.keeps I.bk) ((h2 x hn).trans hv) h) hd
theorem zFL {x : Str} {v : V} {u : Value} {pos : Pos} (hg : Gl X x) (hm : X.mg x = some u) (r : RelV v u) (hd : (x == ("__debug__" : Str)) = false := by decide) : PE X (.Name x pos) (tC v) :=
 λ_ _ _ H _ I h=>zCY I hg hm ⟨v,H,I,r,h⟩ hd
theorem zAY {x : Str} {v : V} {u : Value} {pos : Pos} (hg : Gl X x) (hm : X.mg x = none) (hv : bootBuiltins x = some u) (r : RelV v u) (hn : x ≠ "__name__" := by decide) (hd : (x == ("__debug__" : Str)) = false := by decide) : PE X (.Name x pos) (tC v) :=
 λ_ _ _ H _ I h=>zE2 I hg hm hv ⟨v,H,I,r,h⟩ hn hd
variable {a b : Expr} {ta tb : TE} {pos : Pos}
noncomputable def PC (X : Cx) (op : CmpOp) (a b : Expr) (t : TE) : Prop :=
 ∀ (pins : List (Addr × Obj)) (s : Shared) (σ : St) (H : Hp) (Q : VK),Inv X pins σ H s -> t σ H Q ->
  wpAny (model X.prog X.w) X.A (eval a X.env) (λv s₁ => wpAny (model X.prog X.w) X.A (eval b X.env) (λu s₂ => wpAny (model X.prog X.w) X.A (compareOp op v u) (EP X pins σ Q) X.xe s₂) X.xe s₁) X.xe s
noncomputable def tB (t : TE) : TT:=λσ H Q=>t σ H λx H1=>∃ c,x = .bl c/\Q c H1
theorem zQ0 {op : CmpOp} {t : TE} (h : PC X op a b t) (h1 : behindInMarks op b = false := by first | exact nobehind _ (by decide) (by decide) | rfl) : PT X (.Compare a [op] [b] pos) (tB t) := by
 intro pins s σ H Q I hw;refine wpAny_isTrue_Compare1 (thn (h pins s σ H _ I hw) λv s1 h1=>thn h1 λu s2 h2=>thn h2 λc s3 ⟨x,H1,I1,r1,q1⟩ => ?_) h1;obtain ⟨d,rfl,q⟩:=q1
 cases r1
 exact yBZ ⟨H1,I1,q⟩
theorem zBG {e : Expr} {t : TE} (h : PE X e t) (he : ∀ whole, isTrue e X.env whole = (do let v <- whole; standAt e.pos; holding [v] (truthy v)) := by intro _; rfl) : PT X e (tB t) := by
 intro pins s σ H Q I hw;refine isTrue_plain (thn (h pins s σ H _ I hw) λv s1 ⟨x,H1,I1,r1,q1⟩ => ?_) (he _);obtain ⟨d,rfl,q⟩:=q1
 cases r1
 exact yBZ ⟨H1,I1,q⟩
variable {tA tB' : TT} {rest : List Expr}
noncomputable def zd6 (t u : TT) : TT:=λσ H Q=>t σ H λc H1=>if c = true then u σ H1 Q else Q false H1
noncomputable def tOr (t u : TT) : TT:=λσ H Q=>t σ H λc H1=>if c = true then Q true H1 else u σ H1 Q
noncomputable def zd7 (t : TT) : TT:=λσ H Q=>t σ H λc H1=>Q (!c) H1
theorem zK7 (ha : PT X a tA) : PW X (.BoolOp .And [a] pos) tA := by
 intro wh pins s σ H Q I h;refine isTrue_and (thn (ha pins s σ H Q I h) λc s1 e => ?_)
 cases c with
 | true=>exact isTrue_and_nil e
 | false=>exact e
theorem zDK (ha : PT X a tA) : PW X (.BoolOp .Or [a] pos) tA := by
 intro wh pins s σ H Q I h;refine isTrue_or (thn (ha pins s σ H Q I h) λc s1 e => ?_)
 cases c with
 | false=>exact isTrue_or_nil e
 | true=>exact e
theorem zRQ (ha : PT X a tA) (hb : PW X (.BoolOp .And (b :: rest) pos) tB') : PW X (.BoolOp .And (a :: b :: rest) pos) (zd6 tA tB') := by
 intro wh pins s σ H Q I h;refine isTrue_and (thn (ha pins s σ H _ I h) λc s1 ⟨H1,I1,q1⟩ => ?_)
 cases c with
 | true=>exact hb wh pins s1 σ H1 Q I1 q1
 | false=>exact ⟨H1,I1,q1⟩
theorem zEA (ha : PT X a tA) (hb : PW X (.BoolOp .Or (b :: rest) pos) tB') : PW X (.BoolOp .Or (a :: b :: rest) pos) (tOr tA tB') := by
 intro wh pins s σ H Q I h;refine isTrue_or (thn (ha pins s σ H _ I h) λc s1 ⟨H1,I1,q1⟩ => ?_)
 cases c with
 | true=>exact ⟨H1,I1,q1⟩
 | false=>exact hb wh pins s1 σ H1 Q I1 q1
theorem zBI (ha : PT X a tA) : PT X (.UnaryOp .Not a pos) (zd7 tA) := by
 intro pins s σ H Q I h;exact isTrue_not (ha pins s σ H (λc H1=>Q (!c) H1) I h)
noncomputable def zaC (ta tb : TE) : TE:=λσ H Q=>ta σ H λx H1=>∃ c,x = .bl c/\if c = true then tb σ H1 Q else Q (.bl false) H1
noncomputable def zb8 (ta : TE) : TE:=λσ H Q=>ta σ H λx H1=>∃ c,x = .bl c/\Q (.bl (!c)) H1
theorem zEW {op} {t : TE} (h : PE X a t) : PE X (.BoolOp op [a] pos) t:=λpins s σ H Q I hw=>BoolOp_one (h pins s σ H Q I hw)
theorem zDL (ha : PE X a ta) (hb : PE X (.BoolOp .And (b :: rest) pos) tb) : PE X (.BoolOp .And (a :: b :: rest) pos) (zaC ta tb) := by
 intro pins s σ H Q I h;refine BoolOp_and (thn (ha pins s σ H _ I h) λv s1 ⟨x,H1,I1,r1,q1⟩ => ?_);obtain ⟨c,rfl,q1⟩:=q1
 cases r1
 refine yBZ ?_
 cases c with
 | true=>exact hb pins s1 σ H1 Q I1 q1
 | false=>exact ⟨.bl false,H1,I1,rfl,q1⟩
theorem zUS (ha : PE X a ta) : PE X (.UnaryOp .Not a pos) (zb8 ta) := by
 intro pins s σ H Q I h;refine UnaryOp_ (thn (ha pins s σ H _ I h) λv s1 ⟨x,H1,I1,r1,q1⟩ => ?_);obtain ⟨c,rfl,q1⟩:=q1
 cases r1
 exact not_of (yBZ ⟨.bl (!c),H1,I1,rfl,q1⟩)
noncomputable def tIf (t : TT) (ta tb : TE) : TE:=λσ H Q=>t σ H λc H1=>if c = true then ta σ H1 Q else tb σ H1 Q
theorem zU6 {c : Expr} (hc : PT X c tA) (ha : PE X a ta) (hb : PE X b tb) : PE X (.IfExp c a b pos) (tIf tA ta tb) := by
 intro pins s σ H Q I h;refine wpAny_IfExp (thn (hc pins s σ H _ I h) λd s1 ⟨H1,I1,q1⟩ => ?_)
 cases d with
 | true=>exact ha pins s1 σ H1 Q I1 q1
 | false=>exact hb pins s1 σ H1 Q I1 q1
end
noncomputable def SqL (K : PySem.W.Frag) (H : Hp) (a : Addr) (xs : List V) : Prop :=
 Rd H a (.lst xs) \/
  ∃ (o : Obj) (its : Array Value) (n : Nat),K.lookup a = some o/\o.cls = .type "list"/\o.dict = none/\o.data = .seq its n/\its.size <= sizeLine/\Vals xs its.toList
noncomputable def SqT (K : PySem.W.Frag) (H : Hp) (a : Addr) (xs : List V) : Prop :=
 Rd H a (.tup xs) \/
  ∃ (o : Obj) (its : Array Value) (n : Nat),K.lookup a = some o/\o.cls = .type "tuple"/\o.data = .seq its n/\its.size <= sizeLine/\Vals xs its.toList
noncomputable def zYP : Value -> Option V
 | .none=>some .non
 | .bool b=>some (.bl b)
 | .int i _=>some (.int i)
 | .str x _=>some (.str x)
 | .bytes b _=>some (.byt b)
 | .float b _=>some (.flt b)
 | .ref a=>some (.ref a)
 | .type n=>some (.ty n)
 | _=>none
theorem RelV.abs {x : V} {u : Value} (r : RelV x u) : zYP u = some x := by
 cases x with
 | non=>cases r; rfl
 | bl _=>cases r; rfl
 | int _=>obtain ⟨t,rfl⟩:=r; rfl
 | str _=>obtain ⟨t,rfl⟩:=r; rfl
 | byt _=>obtain ⟨t,rfl⟩:=r; rfl
 | flt _=>obtain ⟨t,rfl⟩:=r; rfl
 | ref _=>cases r; rfl
 | ty _=>cases r; rfl
theorem RelV.inj {x y : V} {u : Value} (r : RelV x u) (q : RelV y u) : x = y:=Option.some.inj (r.abs.symm.trans q.abs)
theorem Vals.inj : ∀ {xs ys : List V} {us : List Value}, Vals xs us -> Vals ys us -> xs = ys
 | _,_,_,.nil,.nil=>rfl
 | _,_,_,.cons r t,.cons r' t'=>by rw [r.inj r',Vals.inj t t']
section
variable {X : Cx} {pins : List (Addr × Obj)} {σ : St} {H : Hp} {s : Shared} {a : Addr} {xs ys : List V}
theorem SqL.of {K : PySem.W.Frag} (h : H a = some (.lst xs)) : SqL K H a xs := .inl (.inl h)
theorem SqT.of {K : PySem.W.Frag} (h : H a = some (.tup xs)) : SqT K H a xs := .inl (.inl h)
theorem Inv.list (I : Inv X pins σ H s) (h : SqL X.K H a xs) : ∃ its : List Value, Vals xs its /\ PlainL s.heap a its.toArray /\ xs.length <= sizeLine := by
 rcases h with h | ⟨o,its,n,hk,hc,hd,hs,hz,r⟩
 ·obtain ⟨z, its, n, r, e⟩ := h.ok I.hok
  exact ⟨its,r,⟨_,n,e,rfl,rfl,rfl⟩,z⟩
 ·refine ⟨its.toList, r, ⟨o, n, I.kIn a o hk, hc, hd, by simpa using hs⟩, ?_⟩
  have e:=r.length;simp only [yBI] at e;lia
theorem Inv.tuple (I : Inv X pins σ H s) (h : SqT X.K H a xs) : ∃ its : List Value, Vals xs its /\ IsTup s.heap a its.toArray /\ xs.length <= sizeLine := by
 rcases h with h | ⟨o,its,n,hk,hc,hs,hz,r⟩
 ·obtain ⟨z, its, r, p⟩ := h.ok I.hok
  exact ⟨its,r,p,z⟩
 ·refine ⟨its.toList, r, ⟨o, I.kIn a o hk, hc, n, by simpa using hs⟩, ?_⟩
  have e:=r.length;simp only [yBI] at e;lia
theorem Inv.list_inj (I : Inv X pins σ H s) (h : SqL X.K H a xs) (h' : SqL X.K H a ys) : xs = ys := by
 obtain ⟨its,r,⟨o,n,e,_,_,d⟩,_⟩:=I.list h;obtain ⟨its',r',⟨o',n',e',_,_,d'⟩,_⟩:=I.list h';rw [e] at e'; cases e';rw [d] at d'
 injection d' with d1 _
 have : its = its':=by simpa using congrArg Array.toList d1
 subst this;exact r.inj r'
theorem Inv.tuple_inj (I : Inv X pins σ H s) (h : SqT X.K H a xs) (h' : SqT X.K H a ys) : xs = ys := by
 obtain ⟨its,r,⟨o,e,_,n,d⟩,_⟩:=I.tuple h;obtain ⟨its',r',⟨o',e',_,n',d'⟩,_⟩:=I.tuple h';rw [e] at e'; cases e';rw [d] at d'
 injection d' with d1 _
 have : its = its':=by simpa using congrArg Array.toList d1
 subst this;exact r.inj r'
end
noncomputable abbrev Cx.wish (X : Cx) (E : Value -> Shared -> Prop) : Cx:={ X with xe:=E }
noncomputable abbrev Cx.nox (X : Cx) : Cx:=X.wish λ_ _=>False
theorem Cx.Ok.wish {X : Cx} (ok : X.Ok) (E : Value -> Shared -> Prop) : (X.wish E).Ok :=
 ⟨ok.mod,ok.kind,ok.glob,ok.blt,ok.above,ok.inj,ok.has,ok.cab,ok.hd,ok.frames,ok.stk,ok.exf,ok.bs,ok.bsz,ok.noex,ok.exfs,ok.funs,ok.frf⟩
theorem Cx.Ok.unwish {X : Cx} {E : Value -> Shared -> Prop} (ok : (X.wish E).Ok) : X.Ok :=
 ⟨ok.mod,ok.kind,ok.glob,ok.blt,ok.above,ok.inj,ok.has,ok.cab,ok.hd,ok.frames,ok.stk,ok.exf,ok.bs,ok.bsz,ok.noex,ok.exfs,ok.funs,ok.frf⟩
section
variable {X : Cx} {pins : List (Addr × Obj)} {σ : St} {H : Hp} {s : Shared} {E : Value -> Shared -> Prop}
theorem Inv.wish (I : Inv X pins σ H s) (E : Value -> Shared -> Prop) : Inv (X.wish E) pins σ H s:=⟨I.ok.wish E,I.os,I.bare,I.base,I.loc,I.cell,I.free,I.freeC,I.pin,I.hok,I.len⟩
theorem Inv.unwish (I : Inv (X.wish E) pins σ H s) : Inv X pins σ H s:=⟨I.ok.unwish,I.os,I.bare,I.base,I.loc,I.cell,I.free,I.freeC,I.pin,I.hok,I.len⟩
theorem SP.unwish {D : Ends} {f : Flow} {s' : Shared} (h : SP (X.wish E) pins D f s') : SP X pins D f s' := by
 cases f with
 | next=>obtain ⟨σ',H',I,q⟩:=h; exact ⟨σ',H',I.unwish,q⟩
 | brk=>obtain ⟨σ',H',I,q⟩:=h; exact ⟨σ',H',I.unwish,q⟩
 | cont=>obtain ⟨σ',H',I,q⟩:=h; exact ⟨σ',H',I.unwish,q⟩
 | ret u=>obtain ⟨v,σ',H',I,r,q⟩:=h; exact ⟨v,σ',H',I.unwish,r,q⟩
theorem PSs.nox {st : List Stmt} {t : TS} (h : PSs X.nox st t) : PSs X st t := fun pins s σ H D I hw =>
 yBO (h pins s σ H D (I.wish _) hw) (λ_ _ q=>q.unwish) λ_ _ z=>False.elim z
end
section
variable {X : Cx} {st : Stmt} {rest : List Stmt} {t u : TS} {e : Expr} {te : TE} {pos : Pos}
noncomputable def zaJ : TS:=λD σ H=>D.nx σ H
noncomputable def zaU (t u : TS) : TS:=λD σ H=>t { D with nx:=u D } σ H
theorem zAG : PSs X [] zaJ:=λ_ _ σ H _ I h=>yDK ⟨σ,H,I,h⟩
theorem zA3 (h1 : PS X st t) (h2 : PSs X rest u) : PSs X (st :: rest) (zaU t u) := by
 intro pins s σ H D I h;refine wpAny_execs_cons (thn (h1 pins s σ H { D with nx:=u D } I h) λf s1 q => ?_)
 cases f with
 | next =>
  obtain ⟨σ',H',I',q⟩:=q;exact h2 pins s1 σ' H' D I' q
 | ret v=>exact q
 | brk=>exact q
 | cont=>exact q
theorem zA4 (h1 : PS X st t) : PSs X [st] t := by
 intro pins s σ H D I h;refine wpAny_execs_cons (thn (h1 pins s σ H D I h) λf s1 q => ?_)
 cases f with
 | next=>exact yDK q
 | ret v=>exact q
 | brk=>exact q
 | cont=>exact q
theorem Inv.quiet {pins : List (Addr × Obj)} {σ : St} {H : Hp} {s : Shared} (I : Inv X pins σ H s) : interactive X.env = false:=by simp [interactive,I.ok.kind]
noncomputable def zb7 (te : TE) : TS:=λD σ H=>te σ H λ_ H1=>D.nx σ H1
theorem zCD (he : PE X e te) (hs : swapsWith e none pos.line X.env = pure false := by rfl) : PS X (.Expr e pos) (zb7 te) := by
 intro pins s σ H D I h;exact wpAny_Expr_any (thn (he pins s σ H _ I h) λv s1 ⟨x,H1,I1,r1,q1⟩=>⟨σ,H1,I1,q1⟩) I.quiet hs
noncomputable def zbO (te : TE) : TS:=λD σ H=>te σ H D.rt
theorem zAB (he : PE X e te) : PS X (.Return (some e) pos) (zbO te) := by
 intro pins s σ H D I h;exact wpAny_Return_some (thn (he pins s σ H _ I h) λv s1 ⟨x,H1,I1,r1,q1⟩=>⟨x,σ,H1,I1,r1,q1⟩)
noncomputable def zc5 (c : TT) (t u : TS) : TS:=λD σ H=>c σ H λb H1=>if b = true then t D σ H1 else u D σ H1
theorem zB7 {c : Expr} {a b : List Stmt} {tc : TT} (hc : PT X c tc) (ha : PSs X a t) (hb : PSs X b u) : PS X (.If c a b pos) (zc5 tc t u) := by
 intro pins s σ H D I h;refine wpAny_If (thn (hc pins s σ H _ I h) λd s1 ⟨H1,I1,q1⟩ => ?_)
 cases d with
 | true=>exact ha pins s1 σ H1 D I1 q1
 | false=>exact hb pins s1 σ H1 D I1 q1
noncomputable def zZX : TS:=λ_ _ _=>False
theorem zC4 {sts : List Stmt} : PSs X sts zZX:=λ_ _ _ _ _ _ h=>h.elim
end
noncomputable abbrev TG:=V -> St -> Hp -> (St -> Hp -> Prop) -> Prop
noncomputable abbrev TGs:=List V -> St -> Hp -> (St -> Hp -> Prop) -> Prop
noncomputable def PG (X : Cx) (target : Expr) (t : TG) : Prop :=
 ∀ (pins : List (Addr × Obj)) (s : Shared) (σ : St) (H : Hp) (v : V) (u : Value) (Q : St -> Hp -> Prop),Inv X pins σ H s -> RelV v u -> t v σ H Q ->
  wpAny (model X.prog X.w) X.A (assign target X.env u) (λ_ s'=>∃ σ' H',Inv X pins σ' H' s'/\Q σ' H') X.xe s
noncomputable def PGs (X : Cx) (ts : List Expr) (t : TGs) : Prop :=
 ∀ (pins : List (Addr × Obj)) (s : Shared) (σ : St) (H : Hp) (vs : List V) (us : List Value) (Q : St -> Hp -> Prop),Inv X pins σ H s -> Vals vs us -> t vs σ H Q ->
  wpAny (model X.prog X.w) X.A (assignInOrder ((assignEach ts X.env).map (·.2)) us) (λ_ s'=>∃ σ' H',Inv X pins σ' H' s'/\Q σ' H') X.xe s
noncomputable abbrev zaB:=V -> V -> V -> Hp -> (Hp -> Prop) -> Prop
noncomputable def zc8 (X : Cx) (t : zaB) : Prop :=
 ∀ (pins : List (Addr × Obj)) (s : Shared) (σ : St) (H : Hp) (o i v : V) (ov iv u : Value) (Q : Hp -> Prop),Inv X pins σ H s -> RelV o ov -> RelV i iv -> RelV v u -> t o i v H Q ->
  wpAny (model X.prog X.w) X.A (setItem ov iv u) (λ_ s'=>∃ H',Inv X pins σ H' s'/\Q H') X.xe s
noncomputable abbrev TIp:=V -> V -> Hp -> VK -> Prop
noncomputable def PIp (X : Cx) (op : Operator) (t : TIp) : Prop :=
 ∀ (pins : List (Addr × Obj)) (s : Shared) (σ : St) (H : Hp) (x y : V) (v u : Value) (Q : VK),Inv X pins σ H s -> RelV x v -> RelV y u -> t x y H Q ->
  wpAny (model X.prog X.w) X.A (inplaceOp op v u) (EP X pins σ Q) X.xe s
section
variable {X : Cx} {pos : Pos}
noncomputable def zEB (i : Nat) : TG:=λv σ H Q=>Q (σ.set i (some v)) H
theorem zAH {i : Nat} {x : Str} (hN : X.N.Nodup) (hi : X.N[i]? = some x) (hx : Loc X.env.scope x) (hf : X.fn x = true \/ X.env.scope.names.lookup x = some .local := by first | exact .inl rfl | exact .inr rfl | assumption) : PG X (.Name x pos) (zEB i) := by
 intro pins s σ H v u Q I r h;exact wpAny_assign_Name (zHH I hN hi hx r (λs' I'=>⟨_,H,I',h⟩) hf)
noncomputable def zb4 : TGs:=λvs σ H Q=>vs = []/\Q σ H
noncomputable def zOS (t : TG) (u : TGs) : TGs:=λvs σ H Q=>∃ v r,vs = v::r/\t v σ H λσ' H'=>u r σ' H' Q
theorem zG3 : PGs X [] zb4 := by
 intro pins s σ H vs us Q I r h;obtain ⟨e,h⟩:=h;subst e
 cases r
 exact assignInOrder_nil ⟨σ,H,I,h⟩
theorem zBL {e : Expr} {es : List Expr} {t : TG} {u : TGs} (h1 : PG X e t) (h2 : PGs X es u)
  (hs : (assignEach (e::es) X.env).map (·.2) = assign e X.env::(assignEach es X.env).map (·.2):=by rfl) : PGs X (e::es) (zOS t u):=by
 intro pins s σ H vs us Q I r h;obtain ⟨v,vr,e1,h⟩:=h;subst e1
 cases r with
 | cons r rr =>
  rw [hs];refine assignInOrder_cons (thn (h1 pins s σ H _ _ _ I r h) λ_ s1 ⟨σ1,H1,I1,q1⟩ => ?_);exact h2 pins s1 σ1 H1 _ _ Q I1 rr q1
noncomputable def za7 (K : PySem.W.Frag) (n : Nat) (t : TGs) : TG:=λv σ H Q=>∃ a xs,v = .ref a/\SqT K H a xs/\xs.length = n/\t xs σ H Q
theorem zPL {es : List Expr} {k : Nat} {t : TGs} {n : Nat} (hc : X.calm = true) (h : PGs X es t)
  (hn : (assignEach es X.env).length = n:=by rfl) (hst : (assignEach es X.env).findIdx? (·.1) = none:=by rfl) : PG X (.Tuple es k pos) (za7 X.K n t):=by
 intro pins s σ H v u Q I r hw;obtain ⟨a,xs,e1,hq,hl,hw⟩:=hw;subst e1
 cases r
 obtain ⟨its,rv,ht,hz⟩:=I.tuple hq;refine assign_Tuple_tuple (I.ok.hd hc) ht (by simp [hn,<- hl,rv.length]) hst λh' hx => ?_;have I1 : Inv X pins σ H { s with heap:=h' }:=I.kept (t':=s.toks) λb o e=>hx b o (yAi (yAJ e)) e;exact h pins _ σ H xs _ Q I1 (by simpa using rv) hw
noncomputable def zcF (to ti : TE) (t : zaB) : TG:=λv σ H Q=>to σ H λo H1=>ti σ H1 λi H2=>t o i v H2 λH3=>Q σ H3
theorem zMR {o i : Expr} {to ti : TE} {t : zaB} (ho : PE X o to) (hi : PE X i ti) (hs : zc8 X t)
  (ha : ∀ v, assign (.Subscript o i pos) X.env v = (do
   let ov <- holding [v] (eval o X.env)
   let iv <- holding [v,ov] (eval i X.env)
   standAt pos
   holding [v,ov,iv] (setItem ov iv v)
   release [v,ov,iv] []):=by intro _; rfl) : PG X (.Subscript o i pos) (zcF to ti t):=by
 intro pins s σ H v u Q I r h;rw [ha];refine yAD (yBa (thn (ho pins s σ H _ I h) λov s1 ⟨x,H1,I1,r1,q1⟩ => ?_));refine yAD (yBa (thn (hi pins s1 σ H1 _ I1 q1) λiv s2 ⟨y,H2,I2,r2,q2⟩ => ?_));refine yAD (yBy (yAD (yBa (thn (hs pins s2 σ H2 x y v ov iv u _ I2 r1 r2 r q2) λ_ s3 ⟨H3,I3,q3⟩ => ?_))));exact wpAny_release ⟨σ,H3,I3,q3⟩
noncomputable def zUT (te : TE) (g : TG) : TS:=λD σ H=>te σ H λx H1=>g x σ H1 D.nx
theorem zH7 {tg e : Expr} {te : TE} {g : TG} (he : PE X e te) (hg : PG X tg g) (hs : swapsWithSole [tg] e pos.line X.env = pure false := by rfl) (hw : swappedStores [tg] e X.env = pure none := by rfl)
  (h1 : (assignEach [tg] X.env).map (·.2) = [assign tg X.env]:=by rfl) : PS X (.Assign [tg] e pos) (zUT te g):=by
 intro pins s σ H D I h;refine wpAny_Assign_stores (thn (he pins s σ H _ I h) λv s1 ⟨x,H1,I1,r1,q1⟩ => ?_) hs hw;rw [h1];exact thn (hg pins s1 σ H1 x v _ I1 r1 q1) λ_ s2 q=>q
theorem zAE {i : Nat} {x : Str} {e : Expr} {te : TE} {pos' : Pos} (hN : X.N.Nodup) (hi : X.N[i]? = some x) (hx : Loc X.env.scope x) (he : PE X e te) (hs : swapsWith e (some (.Name x pos')) pos.line X.env = pure false := by rfl) (hf : X.fn x = true \/ X.env.scope.names.lookup x = some .local := by first | exact .inl rfl | exact .inr rfl | assumption) :
  PS X (.Assign [.Name x pos'] e pos) (zUT te (zEB i)):=by
 intro pins s σ H D I h;refine wpAny_Assign_Name (thn (he pins s σ H _ I h) λv s1 ⟨y,H1,I1,r1,q1⟩ => ?_) hs;exact zHH I1 hN hi hx r1 (λs2 I2=>⟨_,H1,I2,q1⟩) hf
noncomputable def zcY (i : Nat) (te : TE) (ti : TIp) : TS:=λD σ H=>∃ x,σ[i]? = some (some x)/\te σ H λy H1=>ti x y H1 λz H2=>D.nx (σ.set i (some z)) H2
theorem zRK {i : Nat} {x : Str} {e : Expr} {te : TE} {op : Operator} {ti : TIp} {pos' : Pos} (hN : X.N.Nodup) (hi : X.N[i]? = some x) (hx : Loc X.env.scope x) (he : PE X e te) (ho : PIp X op ti) (hf : X.fn x = true \/ X.env.scope.names.lookup x = some .local := by first | exact .inl rfl | exact .inr rfl | assumption) :
  PS X (.AugAssign (.Name x pos') op e pos) (zcY i te ti):=by
 intro pins s σ H D I h;obtain ⟨v,e1,h⟩:=h;obtain ⟨m,hn,hl⟩:=I.loc;have vis : Vis X.env.scope x:=by rcases hx with k | k; exact .inl k; exact .inr (.inl k)
 obtain ⟨u,r,l⟩:=hl i x v hi e1 vis;refine wpAny_AugAssign_Name ?_
 have go : wpAny (model X.prog X.w) X.A (eval e X.env) (fun w s₂ => wpAny (model X.prog X.w) X.A (inplaceOp op u w) (fun r s₃ => wpAny (model X.prog X.w) X.A (storeName X.env x r) (fun _ => SP X pins D .next) X.xe s₃) X.xe s₂) X.xe s := by
  refine thn (he pins s σ H _ I h) λw s1 ⟨y,H1,I1,r1,q1⟩ => ?_;refine thn (ho pins s1 σ H1 v y u w _ I1 r r1 q1) λz s2 ⟨zv,H2,I2,r2,q2⟩ => ?_;exact zHH I2 hN hi hx r2 (λs3 I3=>⟨_,H2,I3,q2⟩) hf
 rcases l with ⟨hk,hm⟩ | ⟨hk,c,hc,hcell⟩
 ·exact wpAny_loadName_local I.ok.kind hk hn hm go
 ·rcases hk with hk | hk
  ·exact wpAny_loadName_cell I.ok.kind hk hc hcell go
  ·rcases hx with k | k
   ·have : X.env.scope.names.lookup x = some .free := hk
    rw [k] at this; cases this
   ·have : X.env.scope.names.lookup x = some .free := hk
    rw [k] at this; cases this
noncomputable def ipI (f : Int -> Int -> Int) : TIp:=λx y H Q=>∃ i j,x = .int i/\y = .int j/\Q (.int (f i j)) H
theorem zPI : PIp X .Add (ipI fun i j => i + j) := by
 intro pins s σ H x y v u Q I r1 r2 h;obtain ⟨i,j,e1,e2,q⟩:=h;subst e1; subst e2;obtain ⟨t,rfl⟩:=r1;obtain ⟨t',rfl⟩:=r2;exact iadd_int ⟨.int _,H,I.tok _,⟨_,rfl⟩,q⟩
end
section
variable {X : Cx} {pos : Pos}
noncomputable def zZ5 (c : TT) (tb : TS) : TS := fun D σ H => ∃ W : Nat -> St -> Hp -> Prop, (∃ m, W m σ H) /\ ∀ m σ H, W m σ H ->
 c σ H λb H1=>if b = true then ∃ N : St -> Hp -> Prop,(∀ σ' H',N σ' H' -> ∃ m',m' < m/\W m' σ' H')/\tb { D with nx:=N,ct:=N,bk:=D.nx } σ H1 else D.nx σ H1
theorem zLG {c : Expr} {body : List Stmt} {tc : TT} {tb : TS} (hp : PassesOwn (model X.prog X.w) X.A X.env X.xe) (hc : PT X c tc) (hb : PSs X body tb) : PS X (.While c body [] pos) (zZ5 tc tb) := by
 intro pins s σ H D I h;obtain ⟨W,⟨m0,w0⟩,turn⟩:=h;refine wpAny_While (codeAny_whileLoop (λn s'=>∃ σ' H',Inv X pins σ' H' s'/\W n σ' H') ?_ m0 ⟨σ,H,I,w0⟩)
 rintro n s1 ⟨σ1,H1,I1,w1⟩
 refine yCY hp (thn (hc pins s1 σ1 H1 _ I1 (turn n σ1 H1 w1)) λb s2 ⟨H2,I2,q2⟩ => ?_)
 cases b with
 | true =>
  obtain ⟨N,hN,q2⟩:=q2;rw [yAQ rfl];refine yCY hp (thn (hb pins s2 σ1 H2 _ I2 q2) λf s3 q3 => ?_)
  cases f with
  | next =>
   obtain ⟨σ3,H3,I3,n3⟩:=q3;obtain ⟨m',hm,w3⟩:=hN σ3 H3 n3;exact ⟨m',hm,σ3,H3,I3,w3⟩
  | cont =>
   obtain ⟨σ3,H3,I3,n3⟩:=q3;obtain ⟨m',hm,w3⟩:=hN σ3 H3 n3;exact ⟨m',hm,σ3,H3,I3,w3⟩
  | brk=>exact q3
  | ret v=>exact q3
 | false =>
  rw [yAN yAY];exact yDK ⟨σ1,H2,I2,q2⟩
end
structure It where
 go : Nat -> Hp -> Prop
 yld : Nat -> Hp -> V -> Hp -> Prop
 stop : Nat -> Hp -> Prop
noncomputable def zGL (X : Cx) (pins : List (Addr × Obj)) (H : Hp) (b : Addr) : Prop :=
 H b = none/\b≠X.env.locals/\b∉X.fs/\(b∈X.ex \/ X.s₀.heap.objs.size <= b)/\(∀ x c,X.env.cells.lookup x = some c -> c≠b)/\∀ p∈X.pn++pins,p.1≠b
theorem Inv.fpOk {X : Cx} {pins : List (Addr × Obj)} {σ : St} {H H' : Hp} {s : Shared} {b : Addr} (I : Inv X pins σ H s) (hb : s.heap.objs.size <= b) (hn : H' b = none) : zGL X pins H' b := by
 refine ⟨hn,yBW (yAh I.lt hb),I.nofs hb,.inr (yAk I.sz hb),λx c e z => ?_,λp hp z => ?_⟩
 ·obtain ⟨v, q⟩ := I.cell x c e
  exact absurd (yAh q.lt (by rw [z]; exact hb)) (yBV _)
 ·exact absurd (yAh (yAJ (I.pin p hp).1) (by rw [z]; exact hb)) (yBV _)
structure Turn (P : Program) (w : World) (K : PySem.W.Frag) (tg : Expr) (J : It) (fp : List Addr) (it : Addr) (tn : Nat -> Heap -> Prop) : Prop where
 mem : it∈fp
 obj : ∀ i h,tn i h -> ∀ b∈fp,∃ o,h.get? b = some o/\∀ v,o.data ≠ .cell v
 keep : ∀ i h h',tn i h -> (∀ b∈fp,∀ o,h.get? b = some o -> h'.get? b = some o) -> tn i h'
 item : ∀ (X : Cx), X.prog = P -> X.w = w -> X.K = K -> X.calm = true -> ∀ (i : Nat) (pins : List (Addr × Obj)) (s : Shared) (σ : St) (H : Hp) (E : Value -> Shared -> Prop), Inv X pins σ H s -> (∀ b ∈ fp, zGL X pins H b) -> tn i s.heap -> J.go i H ->
  wpAny (model P w) X.A (pyNext (.ref it)) (fun r s1 => ∃ u, r = some u /\
   wpAny (model P w) X.A (letOwnedTupleGo tg (.ref it) u) (λ_ s2=>∃ x H',Inv X pins σ H' s2/\RelV x u/\J.yld i H x H'/\tn (i + 1) s2.heap/\∀ b∈fp,H' b = none) E s1) E s
 done : ∀ (X : Cx), X.prog = P -> X.w = w -> X.K = K -> X.calm = true -> ∀ (i : Nat) (pins : List (Addr × Obj)) (s : Shared) (σ : St) (H : Hp) (E : Value -> Shared -> Prop), Inv X pins σ H s -> (∀ b ∈ fp, zGL X pins H b) -> tn i s.heap -> J.stop i H ->
  wpAny (model P w) X.A (pyNext (.ref it)) (λr s1=>r = none/\Inv X pins σ H s1) E s
 self : ∀ (A : Around) (i : Nat) (s : Shared) (Q : Value -> Shared -> Prop) (E : Value -> Shared -> Prop),tn i s.heap -> Q (.ref it) s -> wpAny (model P w) A (pyIter (.ref it)) Q E s
noncomputable abbrev TI:=St -> Hp -> (It -> Hp -> Prop) -> Prop
noncomputable def PIE (X : Cx) (pins : List (Addr × Obj)) (σ : St) (tg : Expr) (R : It -> Hp -> Prop) (itv : Value) (s2 : Shared) : Prop :=
 ∃ (it : Addr) (fp : List Addr) (tn : Nat -> Heap -> Prop) (J : It) (H' : Hp),itv = .ref it/\Inv X pins σ H' s2/\Turn X.prog X.w X.K tg J fp it tn/\tn 0 s2.heap/\(∀ b∈fp,zGL X pins H' b)/\R J H'
noncomputable def PI (X : Cx) (tg iter : Expr) (wi : TI) : Prop :=
 ∀ (pins : List (Addr × Obj)) (s : Shared) (σ : St) (H : Hp) (R : It -> Hp -> Prop),Inv X pins σ H s -> wi σ H R ->
  wpAny (model X.prog X.w) X.A (eval iter X.env) (λv s1=>wpAny (model X.prog X.w) X.A (pyIter v) (PIE X pins σ tg R) X.xe s1) X.xe s
theorem zXB {M : Model} {A : Around} {E : Value -> Shared -> Prop} {s : Shared} {tg : Expr} {it : Addr} {u : Value} {o : Obj} {n : String} {vs : Array Value} {Q : Unit -> Shared -> Prop} (ho : s.heap.get? it = some o) (hc : o.cls = .type n) (hd : o.data = .fields vs)
  (hn : ["enumerate","zip","dict_itemiterator","dict_reverseitemiterator","odict_iterator","itertools.zip_longest","itertools.pairwise"].contains n = false) (hQ : Q () s) : wpAny M A (letOwnedTupleGo tg (.ref it) u) Q E s:=by
 unfold letOwnedTupleGo
 cases tg <;> first
  | exact yAW hQ
  | (cases u <;> first
    | exact yAW hQ
    | (refine yAD (wpAny_load ho ?_)
       rw [hc,hd];show wpAny M A (if (["enumerate","zip","dict_itemiterator","dict_reverseitemiterator","odict_iterator","itertools.zip_longest","itertools.pairwise"].contains n&&vs[0]? == some (rawInt _)) = true then _ else _) Q E s;rw [yAN (by intro h; rw [hn,yBz] at h; cases h)];exact yAW hQ))
noncomputable def Itl (K : PySem.W.Frag) (a : Addr) : It :=
 ⟨λi H=>∃ xs x,SqL K H a xs/\xs[i]? = some x,λi H x H'=>H' = H/\∀ xs,SqL K H a xs -> xs[i]? = some x,λi H=>∃ xs,SqL K H a xs/\xs.length <= i⟩
noncomputable def Itt (K : PySem.W.Frag) (a : Addr) : It :=
 ⟨λi H=>∃ xs x,SqT K H a xs/\xs[i]? = some x,λi H x H'=>H' = H/\∀ xs,SqT K H a xs -> xs[i]? = some x,λi H=>∃ xs,SqT K H a xs/\xs.length <= i⟩
noncomputable def Itr (lo : Int) (n : Nat) : It:=⟨λi _=>i < n,λi H x H'=>H' = H/\x = .int (lo + i),λi _=>n <= i⟩
theorem zJ6 {P : Program} {w : World} {K : PySem.W.Frag} {tg : Expr} (a it : Addr) : Turn P w K tg (Itl K a) [it] it (fun i h => h.IsListIter it a i) where
 mem:=by simp
 obj := fun i h st b hb => by
  have e : b = it:=by simpa using hb
  subst e;obtain ⟨o,e,c,d⟩:=st;exact ⟨o,e,λv z=>by rw [d] at z; cases z⟩
 keep:=λi h h' st k=>st.at λo e=>k it (by simp) o e
 item := by
  intro X hP hw hK hc i pins s σ H E I hf st hg;subst hP hw hK;obtain ⟨xs,x,hq,hx⟩:=hg;obtain ⟨its,rv,p,hz⟩:=I.list hq;obtain ⟨u,hu,ru⟩:=rv.get hx;obtain ⟨f0,f1,f2,f3,f4,f5⟩:=hf it (by simp);refine wpAny_pyNext_list_item st p.isList (x:=u) (by simpa using hu) λh' st' sb => ?_;have I1 : Inv X pins σ H { s with heap:=h' }:=I.turned (t':=s.toks) (λb o hb e=>(sb.2 b hb).trans e) f0 f1 f3 f4 f5;obtain ⟨o,e,c,d⟩:=id st';exact ⟨u,rfl,zXB (s:={ s with heap:=h' }) e c d (by decide) ⟨x,H,I1,ru,⟨rfl,λys hy=>by rw [I.list_inj hy hq]; exact hx⟩,st',λb hb=>(hf b hb).1⟩⟩
 done := by
  intro X hP hw hK hc i pins s σ H E I hf st hg;subst hP hw hK;obtain ⟨xs,hq,hx⟩:=hg;obtain ⟨its,rv,p,hz⟩:=I.list hq;obtain ⟨f0,f1,f2,f3,f4,f5⟩:=hf it (by simp);have hl:=rv.length;exact wpAny_pyNext_list_end (I.ok.hd hc) st p.isList (by simp; lia) λh' eb=>⟨rfl,I.turned (t':=s.toks) (λb o hb e=>eb b o hb e) f0 f1 f3 f4 f5⟩
 self:=λ_ _ _ _ _ st h=>wpAny_pyIter_listiter st h
theorem zND {P : Program} {w : World} {K : PySem.W.Frag} {tg : Expr} (a it : Addr) : Turn P w K tg (Itt K a) [it] it (fun i h => h.IsTupleIter it a i) where
 mem:=by simp
 obj := fun i h st b hb => by
  have e : b = it:=by simpa using hb
  subst e;obtain ⟨o,e,c,d⟩:=st;exact ⟨o,e,λv z=>by rw [d] at z; cases z⟩
 keep:=λi h h' st k=>st.at λo e=>k it (by simp) o e
 item := by
  intro X hP hw hK hc i pins s σ H E I hf st hg;subst hP hw hK;obtain ⟨xs,x,hq,hx⟩:=hg;obtain ⟨its,rv,p,hz⟩:=I.tuple hq;obtain ⟨u,hu,ru⟩:=rv.get hx;obtain ⟨f0,f1,f2,f3,f4,f5⟩:=hf it (by simp);refine wpAny_pyNext_tuple_item st (show s.heap.IsTuple a its.toArray from p) (x:=u) (by simpa using hu) λh' st' sb => ?_;have I1 : Inv X pins σ H { s with heap:=h' }:=I.turned (t':=s.toks) (λb o hb e=>(sb.2 b hb).trans e) f0 f1 f3 f4 f5;obtain ⟨o,e,c,d⟩:=id st';exact ⟨u,rfl,zXB (s:={ s with heap:=h' }) e c d (by decide) ⟨x,H,I1,ru,⟨rfl,λys hy=>by rw [I.tuple_inj hy hq]; exact hx⟩,st',λb hb=>(hf b hb).1⟩⟩
 done := by
  intro X hP hw hK hc i pins s σ H E I hf st hg;subst hP hw hK;obtain ⟨xs,hq,hx⟩:=hg;obtain ⟨its,rv,p,hz⟩:=I.tuple hq;obtain ⟨f0,f1,f2,f3,f4,f5⟩:=hf it (by simp);have hl:=rv.length;exact wpAny_pyNext_tuple_end (I.ok.hd hc) st (show s.heap.IsTuple a its.toArray from p) (by simp; lia) λh' eb=>⟨rfl,I.turned (t':=s.toks) (λb o hb e=>eb b o hb e) f0 f1 f3 f4 f5⟩
 self:=λ_ _ _ _ _ st h=>wpAny_pyIter_tupleiter st h
theorem zN7 {P : Program} {w : World} {K : PySem.W.Frag} {tg : Expr} (it : Addr) (lo : Int) (n : Nat) : Turn P w K tg (Itr lo n) [it] it (fun i h => IsRangeIter h it (lo + (i : Nat) * 1) ((n : Int) - (i : Nat)) 1) where
 mem:=by simp
 obj := fun i h st b hb => by
  have e : b = it:=by simpa using hb
  subst e
  exact ⟨_, st, fun v z => by
   have z' : Data.fields _ = Data.cell v:=z
   cases z'⟩
 keep:=λi h h' st k=>k it (by simp) _ st
 item := by
  intro X hP hw hK hc i pins s σ H E I hf st hg;subst hP hw hK;obtain ⟨f0,f1,f2,f3,f4,f5⟩:=hf it (by simp);have W:=Walks.range (prog:=X.prog) (w:=X.w) (I.ok.hd hc) it lo 1 n;refine W.item i s _ _ hg st λv h' tk hv st' kk => ?_;obtain ⟨t,rfl⟩:=hv;have I1 : Inv X pins σ H { s with heap:=h',toks:=tk }:=I.turned (λb o hb e=>kk b o (by simpa using hb) e) f0 f1 f3 f4 f5;refine ⟨_,rfl,zXB (s:={ s with heap:=h',toks:=tk }) (n:="range_iterator") st' rfl rfl (by decide) ⟨.int (lo + i),H,I1,⟨t,?_⟩,⟨rfl,rfl⟩,st',λb hb=>(hf b hb).1⟩⟩;rw [Int.mul_one]
 done := by
  intro X hP hw hK hc i pins s σ H E I hf st hg;subst hP hw hK;obtain ⟨f0,f1,f2,f3,f4,f5⟩:=hf it (by simp);exact wpAny_pyNext_range_end (I.ok.hd hc) st (by have : n <= i:=hg; lia) λh' eb=>⟨rfl,I.turned (t':=s.toks) (λb o hb e=>eb b o hb e) f0 f1 f3 f4 f5⟩
 self:=λ_ _ _ _ _ st h=>wpAny_pyIter_rangeiter st h
section
variable {X : Cx} {tg : Expr}
noncomputable def zaX (K : PySem.W.Frag) (tl : TE) : TI:=λσ H R=>tl σ H λx H1=>∃ a,x = .ref a/\(∃ xs,SqL K H1 a xs)/\R (Itl K a) H1
theorem zVG {l : Expr} {tl : TE} (hl : PE X l tl) : PI X tg l (zaX X.K tl) := by
 intro pins s σ H R I h;refine thn (hl pins s σ H _ I h) λv s1 ⟨x,H1,I1,r1,q1⟩ => ?_;obtain ⟨a,e,⟨xs,hq⟩,q⟩:=q1;subst e
 cases r1
 obtain ⟨its,rv,p,hz⟩:=I1.list hq;refine yCH p.isList ?_;refine ⟨s1.heap.objs.size,[s1.heap.objs.size],_,_,H1,rfl,I1.kept (t':=s1.toks) λb o e=>yAC _ e,zJ6 a _,⟨_,yAS _ rfl,rfl,rfl⟩,λb hb => ?_,q⟩;have e : b = s1.heap.objs.size:=by simpa using hb
 subst e;exact I1.fpOk (yAE _) (I1.hok.fresh (yAE _))
theorem zTK {pins : List (Addr × Obj)} {σ : St} {H : Hp} {s : Shared} {R : It -> Hp -> Prop} {E : Value -> Shared -> Prop} {lo hi : Int} {t u v : Tok} {tk : Nat} (I : Inv X pins σ H s) (h1 : -(2 ^ 62) <= lo) (h2 : lo < 2 ^ 62) (h3 : -(2 ^ 62) <= hi) (h4 : hi < 2 ^ 62)
  (q : R (Itr lo (hi - lo).toNat) H) : wpAny (model X.prog X.w) X.A (pyIter (.ref s.heap.objs.size)) (PIE X pins σ tg R) E { s with heap:=s.heap.push { cls := .type "range",data := .fields #[.int lo t,.int hi u,.int 1 v] },toks:=tk }:=by
 refine wpAny_pyIter_range (IsRange.new ..) (small_one h1 h2 h3 h4) ?_;have I1 : Inv X pins σ H { s with heap:=s.heap.push { cls := .type "range",data := .fields #[.int lo t,.int hi u,.int 1 v] },toks:=tk }:=I.kept λb o e=>yAC _ e
 refine ⟨(s.heap.push { cls := .type "range", data := .fields #[.int lo t, .int hi u, .int 1 v] }).objs.size, [(s.heap.push { cls := .type "range", data := .fields #[.int lo t, .int hi u, .int 1 v] }).objs.size], _, _, H, rfl,
  I1.kept (t':=tk) λb o e=>yAC _ e,zN7 _ lo (hi - lo).toNat,?_,λb hb => ?_,q⟩
 ·have e1 : lo + ((0 : Nat) : Int) * 1 = lo := by simp
  have e2 : (((hi - lo).toNat : Nat) : Int) - ((0 : Nat) : Int) = Builtin.Range.rangeSize lo hi 1:=by rw [rangeSize_one]; split <;> lia
  show IsRangeIter _ _ (lo + ((0 : Nat) : Int) * 1) ((((hi - lo).toNat : Nat) : Int) - ((0 : Nat) : Int)) 1;rw [e1,e2];exact yAS _ rfl
 ·have e : b = (s.heap.push { cls := .type "range", data := .fields #[.int lo t, .int hi u, .int 1 v] }).objs.size := by simpa using hb
  subst e;exact I1.fpOk (yAE _) (I1.hok.fresh (yAE _))
noncomputable def zZP (ta : TA) : TI:=λσ H R=>ta σ H λvs H1=>∃ j : Int,vs = [.int j] /\ -(2 ^ 62) <= j/\j < 2 ^ 62/\R (Itr 0 j.toNat) H1
theorem zC0 {a : Expr} {ta : TA} {p pos : Pos} (hg : Gl X "range") (hm : X.mg "range" = none) (ha : PA X [a] ta) (hs : starEach [a] X.env = [(false, eval a X.env)] := by rfl) : PI X tg (.Call (.Name "range" p) [a] [] pos) (zZP ta) := by
 intro pins s σ H R I h;refine Call_ (zE2 I hg hm boot_range (yCZ (thn (ha pos pins s σ H _ I h) λus s1 ⟨vs,H1,I1,r1,q1⟩ => ?_) hs rfl));obtain ⟨j,e,q1,q2,q⟩:=q1;subst e
 cases r1 with
 | cons r rr =>
  cases rr
  obtain ⟨t,rfl⟩:=r;exact call_range_1 (zTK I1 (by lia) (by lia) q1 q2 (by simpa using q))
noncomputable def zcB (wi : TI) (g : TG) (tb : TS) : TS := fun D σ H => wi σ H fun J H1 => ∃ W : Nat -> Nat -> St -> Hp -> Prop, (∃ m, W 0 m σ H1) /\ ∀ i m σ H, W i m σ H ->
 (J.stop i H/\D.nx σ H) \/ (J.go i H/\∃ N : St -> Hp -> Prop,(∀ σ' H',N σ' H' -> ∃ m',m' < m/\W (i + 1) m' σ' H')/\∀ x H',J.yld i H x H' -> g x σ H' λσ2 H2=>tb { D with nx:=N,ct:=N,bk:=D.nx } σ2 H2)
noncomputable def zIG (fp : List Addr) (h : Heap) : List (Addr × Obj):=fp.filterMap λb=>(h.get? b).map λo=>(b,o)
theorem zDF {fp : List Addr} {h : Heap} {b : Addr} {o : Obj} (hb : b∈fp) (e : h.get? b = some o) : (b,o)∈zIG fp h:=List.mem_filterMap.mpr ⟨b,hb,by rw [e]; rfl⟩
theorem zO2 {fp : List Addr} {h : Heap} {p : Addr × Obj} (hp : p ∈ zIG fp h) : p.1 ∈ fp /\ h.get? p.1 = some p.2 := by
 obtain ⟨b,hb,e⟩:=List.mem_filterMap.mp hp
 cases q : h.get? b with
 | none=>rw [q] at e; cases e
 | some o =>
  rw [q] at e;have e' : (b,o) = p:=Option.some.inj e;subst e';exact ⟨hb,q⟩
theorem Inv.pinned {pins : List (Addr × Obj)} {σ : St} {H : Hp} {s : Shared} {fp : List Addr} (I : Inv X pins σ H s) (hf : ∀ b ∈ fp, zGL X pins H b) (ho : ∀ b ∈ fp, ∃ o, s.heap.get? b = some o /\ ∀ v, o.data ≠ .cell v) : Inv X (pins ++ zIG fp s.heap) σ H s :=
 I.pins_of fun p hp => (yAa.mp hp).elim (fun z => I.pin p (yAP _ z)) fun z => by
  obtain ⟨hb,e⟩:=zO2 z;obtain ⟨f0,f1,f2,_⟩:=hf p.1 hb;obtain ⟨o,e',d⟩:=ho p.1 hb;rw [e] at e'; cases e';exact ⟨e,f0,f1,f2,d⟩
theorem Inv.unpinned {pins pl : List (Addr × Obj)} {σ : St} {H : Hp} {s : Shared} (I : Inv X (pins++pl) σ H s) : Inv X pins σ H s:=I.pins_of λp hp=>I.pin p (yAP _ (yBj _ hp))
theorem zC8 {iter : Expr} {body : List Stmt} {wi : TI} {g : TG} {tb : TS} {pos : Pos} (hp : PassesOwn (model X.prog X.w) X.A X.env X.xe) (hc : X.calm = true) (hi : PI X tg iter wi) (hg : PG X tg g) (hb : PSs X body tb)
  (hs : ∀ x,foldedSetIterable iter X.env x = pure x:=by intro _; rfl) : PS X (.For tg iter body [] pos) (zcB wi g tb):=by
 intro pins s σ H D I h;refine wpAny_For (thn (hi pins s σ H _ I h) λv s1 h1=>thn h1 λitv s2 h2 => ?_) hs;obtain ⟨it,fp,tn,J,H2,e,I2,T,st2,f2,W,⟨m0,w0⟩,turn⟩:=h2;subst e;have stat : ∀ {H' : Hp},(∀ b∈fp,H' b = none) -> ∀ b∈fp,zGL X pins H' b:=λhn b hb=>⟨hn b hb,(f2 b hb).2⟩;refine codeAny_forLoop_any (λn s'=>∃ i σ' H',Inv X pins σ' H' s'/\tn i s'.heap/\(∀ b∈fp,H' b = none)/\W i n σ' H') ?_ m0 ⟨0,σ,H2,I2,st2,λb hb=>(f2 b hb).1,w0⟩
 rintro n s3 ⟨i,σ3,H3,I3,st3,fr3,w3⟩
 rcases turn i n σ3 H3 w3 with ⟨stop,qn⟩ | ⟨go,N,hN,step⟩
 ·refine yCY hp (thn (T.done X rfl rfl rfl hc i pins s3 σ3 H3 X.xe I3 (stat fr3) st3 stop) fun r s4 ⟨hr, I4⟩ => ?_)
  subst hr;exact yDK ⟨σ3,H3,I4,qn⟩
 ·refine yCY hp (thn (T.item X rfl rfl rfl hc i pins s3 σ3 H3 X.xe I3 (stat fr3) st3 go) fun r s4 ⟨u, hr, h4⟩ => ?_)
  subst hr;refine yCY hp (thn h4 λ_ s5 ⟨x,H5,I5,r5,y5,st5,fr5⟩ => ?_);have I5':=I5.pinned (stat fr5) (T.obj _ _ st5);refine yCY hp (thn (hg _ s5 σ3 H5 x u _ I5' r5 (step x H5 y5)) λ_ s6 ⟨σ6,H6,I6,q6⟩ => ?_);refine yCY hp (thn (hb _ s6 σ6 H6 _ I6 q6) λf s7 q7 => ?_)
  have again : ∀ {σ7 : St} {H7 : Hp}, Inv X (pins ++ zIG fp s5.heap) σ7 H7 s7 -> N σ7 H7 -> ∃ m, m < n /\ ∃ i σ' H', Inv X pins σ' H' s7 /\ tn i s7.heap /\ (∀ b ∈ fp, H' b = none) /\ W i m σ' H' := fun {σ7 H7} I7 n7 => by
   obtain ⟨m',hm,w7⟩:=hN σ7 H7 n7;refine ⟨m',hm,i + 1,σ7,H7,I7.unpinned,T.keep _ _ _ st5 λb hb o e=>(I7.pin (b,o) (yAP _ (yAP _ (zDF hb e)))).1,λb hb => ?_,w7⟩;obtain ⟨o,e,d⟩:=T.obj _ _ st5 b hb;exact (I7.pin (b,o) (yAP _ (yAP _ (zDF hb e)))).2.1
  cases f with
  | next=>obtain ⟨σ7,H7,I7,n7⟩:=q7; exact again I7 n7
  | cont=>obtain ⟨σ7,H7,I7,n7⟩:=q7; exact again I7 n7
  | brk=>obtain ⟨σ7,H7,I7,q7⟩:=q7; exact ⟨σ7,H7,I7.unpinned,q7⟩
  | ret v=>obtain ⟨x7,σ7,H7,I7,r7,q7⟩:=q7; exact ⟨x7,σ7,H7,I7.unpinned,r7,q7⟩
end
theorem zCF {lo : Int} {n : Nat} {g : TG} {tb : TS} {D : Ends} {σ : St} {H : Hp} (Pv : Nat -> St -> Hp -> Prop) (h0 : Pv 0 σ H)
  (hs : ∀ i σ H,i < n -> Pv i σ H -> g (.int (lo + i)) σ H λσ2 H2=>tb { D with nx:=Pv (i + 1),ct:=Pv (i + 1),bk:=D.nx } σ2 H2) (hd : ∀ σ H,Pv n σ H -> D.nx σ H) :
  ∃ W : Nat -> Nat -> St -> Hp -> Prop,(∃ m,W 0 m σ H)/\∀ i m σ H,W i m σ H ->
   ((Itr lo n).stop i H/\D.nx σ H) \/ ((Itr lo n).go i H/\∃ N : St -> Hp -> Prop,(∀ σ' H',N σ' H' -> ∃ m',m' < m/\W (i + 1) m' σ' H')/\∀ x H',(Itr lo n).yld i H x H' -> g x σ H' λσ2 H2=>tb { D with nx:=N,ct:=N,bk:=D.nx } σ2 H2):=by
 refine ⟨λi m σ H=>m = n - i/\i <= n/\Pv i σ H,⟨n,by simp,yBL _,h0⟩,?_⟩
 rintro i m σ H ⟨rfl,hi,p⟩
 by_cases hlt : i < n
 ·refine .inr ⟨hlt, Pv (i + 1), fun σ' H' p' => ⟨n - (i + 1), by lia, rfl, hlt, p'⟩, fun x H' y => ?_⟩
  obtain ⟨e,y⟩:=y;subst e y;exact hs i σ _ hlt p
 ·have e : i = n := by lia
  subst e;exact .inl ⟨yAE _,hd σ H p⟩
noncomputable abbrev R2:=V -> V -> Hp -> VK -> Prop
noncomputable def OpR (X : Cx) (f : Value -> Value -> Sem Value) (r : R2) : Prop :=
 ∀ (pins : List (Addr × Obj)) (s : Shared) (σ : St) (H : Hp) (x y : V) (v u : Value) (Q : VK),Inv X pins σ H s -> RelV x v -> RelV y u -> r x y H Q ->
  wpAny (model X.prog X.w) X.A (f v u) (EP X pins σ Q) X.xe s
noncomputable def UnR (X : Cx) (f : Value -> Sem Value) (r : V -> Hp -> VK -> Prop) : Prop :=
 ∀ (pins : List (Addr × Obj)) (s : Shared) (σ : St) (H : Hp) (x : V) (v : Value) (Q : VK),Inv X pins σ H s -> RelV x v -> r x H Q ->
  wpAny (model X.prog X.w) X.A (f v) (EP X pins σ Q) X.xe s
noncomputable def zCW (X : Cx) (f : Value) (r : List V -> Hp -> VK -> Prop) : Prop :=
 ∀ (pins : List (Addr × Obj)) (s : Shared) (σ : St) (H : Hp) (xs : List V) (us : List Value) (Q : VK),Inv X pins σ H s -> Vals xs us -> r xs H Q ->
  wpAny (model X.prog X.w) X.A (call f us) (EP X pins σ Q) X.xe s
noncomputable def zcP (X : Cx) (r : V -> Hp -> (Bool -> Hp -> Prop) -> Prop) : Prop :=
 ∀ (pins : List (Addr × Obj)) (s : Shared) (σ : St) (H : Hp) (x : V) (v : Value) (Q : Bool -> Hp -> Prop),Inv X pins σ H s -> RelV x v -> r x H Q ->
  wpAny (model X.prog X.w) X.A (truthy v) (TP X pins σ Q) X.xe s
noncomputable def tOp (r : R2) (ta tb : TE) : TE:=λσ H Q=>ta σ H λx H1=>tb σ H1 λy H2=>r x y H2 Q
noncomputable def tUn (r : V -> Hp -> VK -> Prop) (ta : TE) : TE:=λσ H Q=>ta σ H λx H1=>r x H1 Q
noncomputable def rI (C : Int -> Int -> Prop) (g : Int -> Int -> V) : R2:=λx y H Q=>∃ i j,x = .int i/\y = .int j/\C i j/\Q (g i j) H
noncomputable def rI0 (g : Int -> Int -> V) : R2:=λx y H Q=>∃ i j,x = .int i/\y = .int j/\Q (g i j) H
noncomputable def rU (g : Int -> V) : V -> Hp -> VK -> Prop:=λx H Q=>∃ i,x = .int i/\Q (g i) H
section
variable {X : Cx} {a b c : Expr} {ta tb tc : TE} {pos : Pos}
theorem zb0 (ha : PE X a ta) (hb : PE X b tb) {pins : List (Addr × Obj)} {s : Shared} {σ : St} {H : Hp} {R : V -> V -> Hp -> Prop} (I : Inv X pins σ H s)
  (h : ta σ H λx H1=>tb σ H1 λy H2=>R x y H2) {Q : Value -> Shared -> Prop} {f : Value -> Value -> Sem Value}
  (hf : ∀ v u s2 x y H2,Inv X pins σ H2 s2 -> RelV x v -> RelV y u -> R x y H2 -> wpAny (model X.prog X.w) X.A (f v u) Q X.xe s2) :
  wpAny (model X.prog X.w) X.A (eval a X.env) (λv s₁ => wpAny (model X.prog X.w) X.A (eval b X.env) (λu s₂ => wpAny (model X.prog X.w) X.A (f v u) Q X.xe s₂) X.xe s₁) X.xe s:=by
 refine thn (ha pins s σ H _ I h) λv s1 ⟨x,H1,I1,r1,q1⟩ => ?_;refine thn (hb pins s1 σ H1 _ I1 q1) λu s2 ⟨y,H2,I2,r2,q2⟩ => ?_;exact hf v u s2 x y H2 I2 r1 r2 q2
theorem zAC {op : Operator} {r : R2} (ho : OpR X (binaryOp op) r) (ha : PE X a ta) (hb : PE X b tb) : PE X (.BinOp a op b pos) (tOp r ta tb) := by
 intro pins s σ H Q I h;exact wpAny_BinOp (zb0 ha hb I h λv u s2 x y H2 I2 rx ry q=>ho pins s2 σ H2 x y v u Q I2 rx ry q)
theorem zb9 {op : UnaryOp} {r : V -> Hp -> VK -> Prop} (ho : UnR X (unaryOp op) r) (ha : PE X a ta) : PE X (.UnaryOp op a pos) (tUn r ta) := by
 intro pins s σ H Q I h;exact UnaryOp_ (thn (ha pins s σ H _ I h) λv s1 ⟨x,H1,I1,r1,q1⟩=>ho pins s1 σ H1 x v Q I1 r1 q1)
theorem opI {f : Value -> Value -> Sem Value} {C : Int -> Int -> Prop} {g : Int -> Int -> Int}
  (rule : ∀ (i j : Int) (t u : Tok) (s : Shared) (Q : Value -> Shared -> Prop) (E : Value -> Shared -> Prop),C i j -> Q (.int (g i j) s.toks) { s with toks:=s.toks + 1 } -> wpAny (model X.prog X.w) X.A (f (.int i t) (.int j u)) Q E s) :
  OpR X f (rI C λi j => .int (g i j)):=by
 intro pins s σ H x y v u Q I rx ry h;obtain ⟨i,j,rfl,rfl,hc,q⟩:=h;obtain ⟨t,rfl⟩:=rx;obtain ⟨t',rfl⟩:=ry;exact rule i j t t' s _ _ hc ⟨.int (g i j),H,I.tok _,⟨_,rfl⟩,q⟩
theorem zZW {f : Value -> Value -> Sem Value} {g : Int -> Int -> Int}
  (rule : ∀ (i j : Int) (t u : Tok) (s : Shared) (Q : Value -> Shared -> Prop) (E : Value -> Shared -> Prop),Q (.int (g i j) s.toks) { s with toks:=s.toks + 1 } -> wpAny (model X.prog X.w) X.A (f (.int i t) (.int j u)) Q E s) :
  OpR X f (rI0 λi j => .int (g i j)):=by
 intro pins s σ H x y v u Q I rx ry h;obtain ⟨i,j,rfl,rfl,q⟩:=h;obtain ⟨t,rfl⟩:=rx;obtain ⟨t',rfl⟩:=ry;exact rule i j t t' s _ _ ⟨.int (g i j),H,I.tok _,⟨_,rfl⟩,q⟩
theorem zbI {f : Value -> Value -> Sem Value} {g : Int -> Int -> Bool}
  (rule : ∀ (i j : Int) (t u : Tok) (s : Shared) (Q : Value -> Shared -> Prop) (E : Value -> Shared -> Prop),Q (.bool (g i j)) s -> wpAny (model X.prog X.w) X.A (f (.int i t) (.int j u)) Q E s) :
  OpR X f (rI0 λi j => .bl (g i j)):=by
 intro pins s σ H x y v u Q I rx ry h;obtain ⟨i,j,rfl,rfl,q⟩:=h;obtain ⟨t,rfl⟩:=rx;obtain ⟨t',rfl⟩:=ry;exact rule i j t t' s _ _ ⟨.bl (g i j),H,I,rfl,q⟩
noncomputable def zd5 (i j : Int) : Prop:=0 < j/\j < 1073741824
noncomputable def zXV (i j : Int) : Prop:=0 <= j/\j <= 1000000/\i.natAbs < 2 ^ 64
noncomputable def CMul (i j : Int) : Prop:=(-(2 ^ 64) < i/\i < 2 ^ 64) \/ (-(2 ^ 64) < j/\j < 2 ^ 64)
theorem CMul.ok {i j : Int} (h : CMul i j) : IntMulOk i j := by
 rcases h with ⟨h1,h2⟩ | ⟨h1,h2⟩
 ·exact .of_left (intBits_le_64 h1 h2)
 ·exact .of_right (intBits_le_64 h1 h2)
theorem zN6 (k : Nat) : (0 : Int) <= 2 ^ k := by
 rw [two_pow_cast];exact yCX _
theorem zBV : OpR X (binaryOp .Add) (rI0 λi j => .int (i + j)):=zZW λ_ _ _ _ _ _ _ q=>add_int q
theorem zRA : OpR X (binaryOp .Sub) (rI0 λi j => .int (i - j)):=zZW λ_ _ _ _ _ _ _ q=>sub_int q
theorem zH6 : OpR X (binaryOp .Mult) (rI CMul λi j => .int (i * j)):=opI λ_ _ _ _ _ _ _ hc q=>mul_int q hc.ok
theorem zPP : OpR X (binaryOp .FloorDiv) (rI zd5 fun i j => .int (i / j)) := opI fun i j _ _ _ _ _ hc q => by
 have h1 : (0 : Int) < j:=hc.1;have h2 : j < 1073741824:=hc.2;exact floordiv_int (by lia) (by rw [Int.fdiv_eq_ediv_of_nonneg i (by lia)]; exact q) (.inl (PyProof.noPylong_small (by lia)))
theorem zG0 : OpR X (binaryOp .Mod) (rI (fun _ j => 0 < j) fun i j => .int (i % j)) := opI fun i j _ _ _ _ _ hc q => by
 have h1 : (0 : Int) < j:=hc;exact mod_int' (by lia) (by rw [Int.fmod_eq_emod_of_nonneg i (by lia)]; exact q)
theorem zYJ : OpR X (binaryOp .Pow) (rI zXV λi j => .int (i ^ j.toNat)):=opI λ_ _ _ _ _ _ _ hc q=>pow_int_small hc.1 hc.2.1 hc.2.2 q
theorem zCU : OpR X (binaryOp .LShift) (rI zXV λi j => .int (i * 2 ^ j.toNat)):=opI λ_ _ _ _ _ _ _ hc q=>lshift_int_small hc.1 hc.2.1 hc.2.2 q
theorem zP6 : OpR X (binaryOp .RShift) (rI (fun _ j => 0 <= j) fun i j => .int (i / 2 ^ j.toNat)) := opI fun i j _ _ _ _ _ hc q =>
 rshift_int hc (by rw [Int.fdiv_eq_ediv_of_nonneg i (zN6 _)]; exact q)
theorem zCI : OpR X (binaryOp .BitAnd) (rI0 λi j => .int (Builtin.bitAnd i j)):=zZW λ_ _ _ _ _ _ _ q=>and_int q
theorem zaG : OpR X (binaryOp .BitOr) (rI0 λi j => .int (Builtin.bitOr i j)):=zZW λ_ _ _ _ _ _ _ q=>or_int q
theorem zQ5 : OpR X (binaryOp .BitXor) (rI0 λi j => .int (Builtin.bitXor i j)):=zZW λ_ _ _ _ _ _ _ q=>xor_int q
theorem unI {f : Value -> Sem Value} {g : Int -> Int}
  (rule : ∀ (i : Int) (t : Tok) (s : Shared) (Q : Value -> Shared -> Prop) (E : Value -> Shared -> Prop),Q (.int (g i) s.toks) { s with toks:=s.toks + 1 } -> wpAny (model X.prog X.w) X.A (f (.int i t)) Q E s) :
  UnR X f (rU λi => .int (g i)):=by
 intro pins s σ H x v Q I rx h;obtain ⟨i,rfl,q⟩:=h;obtain ⟨t,rfl⟩:=rx;exact rule i t s _ _ ⟨.int (g i),H,I.tok _,⟨_,rfl⟩,q⟩
theorem zYF : UnR X (unaryOp .USub) (rU λi => .int (-i)):=unI λ_ _ _ _ _ q=>neg_int q
end
noncomputable def zbZ : V -> V -> Bool
 | .non,.non=>true | .non,.int _=>true | .int _,.non=>true | .non,.bl _=>true | .bl _,.non=>true | .non,.str _=>true | .str _,.non=>true
 | .int _,.int _=>true | .bl _,.bl _=>true | .str _,.str _=>true | .byt _,.byt _=>true
 | .int _,.str _=>true | .str _,.int _=>true | .bl _,.str _=>true | .str _,.bl _=>true
 | _,_=>false
noncomputable def rEq : R2:=λx y H Q=>zbZ x y = true/\Q (.bl (decide (x = y))) H
noncomputable def rNe : R2:=λx y H Q=>zbZ x y = true/\Q (.bl (!decide (x = y))) H
theorem zR7 {i j : Int} : decide (V.int i = V.int j) = (i == j) := by
 rw [yAg]
 simp
theorem zV6 {i j : Bool} : decide (V.bl i = V.bl j) = (i == j) := by
 rw [yAg]
 simp
theorem zR6 {i j : Str} : decide (V.str i = V.str j) = (i == j) := by
 rw [yAg]
 simp
theorem zQC {i j : Array UInt8} : decide (V.byt i = V.byt j) = (i.toList == j.toList) := by
 rw [yAg]
 cases i
 cases j
 simp
section
variable {X : Cx} {a b c : Expr} {ta tb tc : TE} {pos : Pos}
theorem zAP {pins : List (Addr × Obj)} {σ : St} {H : Hp} {s : Shared} {Q : VK} {k k' : Bool} (I : Inv X pins σ H s) (q : Q (.bl k) H) (e : k = k') : EP X pins σ Q (.bool k') s := by
 subst e;exact ⟨.bl k,H,I,rfl,q⟩
theorem zF3 : OpR X (compareOp .Eq) rEq := by
 intro pins s σ H x y v u Q I rx ry h;obtain ⟨hs,q⟩:=h
 cases x with
 | non =>
  cases rx
  cases y with
  | non=>cases ry; exact PySem.EqNone.eq_none_none (zAP I q (by simp))
  | bl j=>cases ry; exact PySem.EqNone.eq_none_bool (zAP I q (by simp))
  | int j=>obtain ⟨t',rfl⟩:=ry; exact PySem.EqNone.eq_none_int (zAP I q (by simp))
  | str j=>obtain ⟨t',rfl⟩:=ry; exact PySem.EqNone.eq_none_str (zAP I q (by simp))
  | _=>exact absurd (show false = true from hs) yAY
 | bl i =>
  cases rx
  cases y with
  | non=>cases ry; exact PySem.EqNone.eq_bool_none (zAP I q (by simp))
  | bl j=>cases ry; exact eq_bool (zAP I q zV6)
  | str j=>obtain ⟨t',rfl⟩:=ry; exact PySem.EqMixed.eq_bool_str (zAP I q (by simp))
  | _=>exact absurd (show false = true from hs) yAY
 | int i =>
  obtain ⟨t,rfl⟩:=rx
  cases y with
  | non=>cases ry; exact PySem.EqNone.eq_int_none (zAP I q (by simp))
  | int j=>obtain ⟨t',rfl⟩:=ry; exact eq_int (zAP I q zR7)
  | str j=>obtain ⟨t',rfl⟩:=ry; exact PySem.EqMixed.eq_int_str (zAP I q (by simp))
  | _=>exact absurd (show false = true from hs) yAY
 | str i =>
  obtain ⟨t,rfl⟩:=rx
  cases y with
  | non=>cases ry; exact PySem.EqNone.eq_str_none (zAP I q (by simp))
  | bl j=>cases ry; exact PySem.EqMixed.eq_str_bool (zAP I q (by simp))
  | int j=>obtain ⟨t',rfl⟩:=ry; exact PySem.EqMixed.eq_str_int (zAP I q (by simp))
  | str j=>obtain ⟨t',rfl⟩:=ry; exact eq_str (zAP I q zR6)
  | _=>exact absurd (show false = true from hs) yAY
 | byt i =>
  obtain ⟨t,rfl⟩:=rx
  cases y with
  | byt j=>obtain ⟨t',rfl⟩:=ry; exact PySem.W.eq_bytes (zAP I q zQC)
  | _=>exact absurd (show false = true from hs) yAY
 | _=>cases y <;> exact absurd (show false = true from hs) yAY
theorem zSH : OpR X (compareOp .NotEq) rNe := by
 intro pins s σ H x y v u Q I rx ry h;obtain ⟨hs,q⟩:=h
 cases x with
 | non =>
  cases rx
  cases y with
  | non=>cases ry; exact PySem.EqNone.ne_none_none (zAP I q (by simp))
  | bl j=>cases ry; exact PySem.EqNone.ne_none_bool (zAP I q (by simp))
  | int j=>obtain ⟨t',rfl⟩:=ry; exact PySem.EqNone.ne_none_int (zAP I q (by simp))
  | str j=>obtain ⟨t',rfl⟩:=ry; exact PySem.EqNone.ne_none_str (zAP I q (by simp))
  | _=>exact absurd (show false = true from hs) yAY
 | bl i =>
  cases rx
  cases y with
  | non=>cases ry; exact PySem.EqNone.ne_bool_none (zAP I q (by simp))
  | bl j=>cases ry; exact ne_bool (zAP I q (congrArg not zV6))
  | str j=>obtain ⟨t',rfl⟩:=ry; exact PySem.EqMixed.ne_bool_str (zAP I q (by simp))
  | _=>exact absurd (show false = true from hs) yAY
 | int i =>
  obtain ⟨t,rfl⟩:=rx
  cases y with
  | non=>cases ry; exact PySem.EqNone.ne_int_none (zAP I q (by simp))
  | int j=>obtain ⟨t',rfl⟩:=ry; exact ne_int (zAP I q (congrArg not zR7))
  | str j=>obtain ⟨t',rfl⟩:=ry; exact PySem.EqMixed.ne_int_str (zAP I q (by simp))
  | _=>exact absurd (show false = true from hs) yAY
 | str i =>
  obtain ⟨t,rfl⟩:=rx
  cases y with
  | non=>cases ry; exact PySem.EqNone.ne_str_none (zAP I q (by simp))
  | bl j=>cases ry; exact PySem.EqMixed.ne_str_bool (zAP I q (by simp))
  | int j=>obtain ⟨t',rfl⟩:=ry; exact PySem.EqMixed.ne_str_int (zAP I q (by simp))
  | str j=>obtain ⟨t',rfl⟩:=ry; exact ne_str (zAP I q (congrArg not zR6))
  | _=>exact absurd (show false = true from hs) yAY
 | byt i =>
  obtain ⟨t,rfl⟩:=rx
  cases y with
  | byt j=>obtain ⟨t',rfl⟩:=ry; exact PySem.W.ne_bytes (zAP I q (congrArg not zQC))
  | _=>exact absurd (show false = true from hs) yAY
 | _=>cases y <;> exact absurd (show false = true from hs) yAY
theorem zbA : OpR X (compareOp .Lt) (rI0 λi j => .bl (decide (i < j))):=zbI λ_ _ _ _ _ _ _ q=>lt_int q
theorem zNG : OpR X (compareOp .LtE) (rI0 λi j => .bl (decide (i <= j))):=zbI λ_ _ _ _ _ _ _ q=>le_int q
theorem zPK : OpR X (compareOp .Gt) (rI0 λi j => .bl (decide (j < i))):=zbI λ_ _ _ _ _ _ _ q=>gt_int q
theorem zQ9 : OpR X (compareOp .In) (fun x y H Q => ∃ i j, x = .str i /\ y = .str j /\ Q (.bl (!(Builtin.Str.occurrences j i 0 j.length 1).isEmpty)) H) := by
 intro pins s σ H x y v u Q I rx ry h;obtain ⟨i,j,rfl,rfl,q⟩:=h;obtain ⟨t,rfl⟩:=rx;obtain ⟨t',rfl⟩:=ry;exact in_str (zAP I q rfl)
theorem zUK : OpR X (compareOp .Is) (fun x y H Q => y = .non /\ Q (.bl (decide (x = .non))) H) := by
 intro pins s σ H x y v u Q I rx ry h;obtain ⟨rfl,q⟩:=h
 cases ry
 refine is_none_gen (zAP I q ?_)
 cases x <;> first
  | (cases rx; rfl)
  | (obtain ⟨t,rfl⟩:=rx; rfl)
theorem zWI : OpR X (compareOp .IsNot) (fun x y H Q => y = .non /\ Q (.bl (!decide (x = .non))) H) := by
 intro pins s σ H x y v u Q I rx ry h;obtain ⟨rfl,q⟩:=h
 cases ry
 refine isnot_none_gen (zAP I q ?_)
 cases x <;> first
  | (cases rx; rfl)
  | (obtain ⟨t,rfl⟩:=rx; rfl)
theorem zAO (b : Expr) {op : CmpOp} (h : op ≠ .In := by decide) (h2 : op ≠ .NotIn := by decide) : behindInMarks op b = false := by
 have e1 : (op == CmpOp.In) = false:=by cases op <;> first | rfl | exact absurd rfl h
 have e2 : (op == CmpOp.NotIn) = false:=by cases op <;> first | rfl | exact absurd rfl h2
 cases b <;> simp [behindInMarks,e1,e2]
theorem zBN {op : CmpOp} {r : R2} (ho : OpR X (compareOp op) r) (ha : PE X a ta) (hb : PE X b tb) (hm : behindInMarks op b = false) : PE X (.Compare a [op] [b] pos) (tOp r ta tb) := by
 intro pins s σ H Q I h;exact wpAny_Compare1 (zb0 ha hb I h λv u s2 x y H2 I2 rx ry q=>ho pins s2 σ H2 x y v u Q I2 rx ry q) hm
noncomputable def zZK (t : TE) : TT:=λσ H Q=>t σ H λx H'=>∃ k,x = .bl k/\Q k H'
theorem zAM {op : CmpOp} {r : R2} (ho : OpR X (compareOp op) r) (ha : PE X a ta) (hb : PE X b tb) (hm : behindInMarks op b = false) : PT X (.Compare a [op] [b] pos) (zZK (tOp r ta tb)) := by
 intro pins s σ H Q I h
 refine wpAny_isTrue_Compare1 (thn (ha pins s σ H _ I h) fun v s1 ⟨x, H1, I1, r1, q1⟩ => thn (hb pins s1 σ H1 _ I1 q1) fun u s2 ⟨y, H2, I2, r2, q2⟩ =>
  thn (ho pins s2 σ H2 x y v u _ I2 r1 r2 q2) λc s3 ⟨z,H3,I3,r3,k,e,q3⟩ => ?_) hm
 subst e
 cases r3
 exact yBZ ⟨H3,I3,q3⟩
noncomputable def zV0 (r r' : R2) (ta tb tc : TE) : TE := fun σ H Q => ta σ H fun x H1 => tb σ H1 fun y H2 => r x y H2 fun z H3 => ∃ k, z = .bl k /\
 (if k = true then tc σ H3 λw' H4=>r' y w' H4 Q else Q (.bl false) H3)
theorem zSE {op op' : CmpOp} {r r' : R2} (ho : OpR X (compareOp op) r) (ho' : OpR X (compareOp op') r') (ha : PE X a ta) (hb : PE X b tb) (hc : PE X c tc)
  (hm : lastMarks [op,op'] [b,c] = false:=by with_unfolding_all rfl) : PE X (.Compare a [op,op'] [b,c] pos) (zV0 r r' ta tb tc):=by
 intro pins s σ H Q I h
 refine Compare_chain (thn (ha pins s σ H _ I h) fun v s1 ⟨x, H1, I1, r1, q1⟩ => chain_link (thn (hb pins s1 σ H1 _ I1 q1) fun u s2 ⟨y, H2, I2, r2, q2⟩ =>
  thn (ho pins s2 σ H2 x y v u _ I2 r1 r2 q2) λd s3 ⟨z,H3,I3,r3,k,e,q3⟩ => ?_)) hm
 subst e
 cases r3
 refine yBZ ?_
 cases k with
 | false=>exact ite_ff ⟨.bl false,H3,I3,rfl,q3⟩
 | true=>exact ite_tt (chain_last (thn (hc pins s3 σ H3 _ I3 q3) λw' s4 ⟨z',H4,I4,r4,q4⟩=>ho' pins s4 σ H4 y z' u w' Q I4 r2 r4 q4))
theorem zL6 {op op' : CmpOp} {r r' : R2} (ho : OpR X (compareOp op) r) (ho' : OpR X (compareOp op') r') (ha : PE X a ta) (hb : PE X b tb) (hc : PE X c tc)
  (hm : lastMarks [op,op'] [b,c] = false:=by with_unfolding_all rfl) : PT X (.Compare a [op,op'] [b,c] pos) (zZK (zV0 r r' ta tb tc)):=by
 intro pins s σ H Q I h
 refine isTrue_chain (thn (ha pins s σ H _ I h) fun v s1 ⟨x, H1, I1, r1, q1⟩ => test_link (thn (hb pins s1 σ H1 _ I1 q1) fun u s2 ⟨y, H2, I2, r2, q2⟩ =>
  thn (ho pins s2 σ H2 x y v u _ I2 r1 r2 q2) λd s3 ⟨z,H3,I3,r3,k,e,q3⟩ => ?_)) hm
 subst e
 cases r3
 refine yBZ ?_
 cases k with
 | false =>
  obtain ⟨k',e',q'⟩:=q3
  cases e'
  exact ite_ff ⟨H3,I3,q'⟩
 | true =>
  refine ite_tt (test_last (thn (hc pins s3 σ H3 _ I3 q3) λw' s4 ⟨z',H4,I4,r4,q4⟩=>thn (ho' pins s4 σ H4 y z' u w' _ I4 r2 r4 q4) λd' s5 ⟨z2,H5,I5,r5,k2,e2,q5⟩ => ?_));subst e2
  cases r5
  exact yBZ ⟨H5,I5,q5⟩
noncomputable def zc6 (K : PySem.W.Frag) (x : V) (H : Hp) (k : Bool) : Prop :=
 match x with
 | .non=>k = false
 | .bl b=>k = b
 | .int i=>k = (i != 0)
 | .str y=>y.length <= sizeLine/\k = ((y.length : Int) != 0)
 | .byt y=>y.size <= sizeLine/\k = ((y.size : Int) != 0)
 | .ref p=>(∃ xs,SqL K H p xs/\k = !xs.isEmpty) \/ (∃ xs,SqT K H p xs/\k = !xs.isEmpty) \/ ∃ kvs,H p = some (.dK kvs)/\k = !kvs.isEmpty
 | _=>False
theorem zMW {κ : Type} {kvs : List (κ × V)} {vs : List (κ × Value)} (r : KV kvs vs) : (!vs.isEmpty) = !kvs.isEmpty := by
 cases r <;> rfl
theorem zGP {xs : List V} {its : List Value} (r : Vals xs its) : (!its.toArray.isEmpty) = !xs.isEmpty := by
 cases r <;> simp
theorem zG6 : (sizeLine : Nat) < 2 ^ 63:=by rw [sizeLine_eq]; decide
theorem zYR : zcP X (fun x H Q => ∃ k, zc6 X.K x H k /\ Q k H) := by
 intro pins s σ H x v Q I rx h;obtain ⟨k,e,q⟩:=h;have hl:=zG6;have hs : sizeLine = 16777216:=sizeLine_eq
 cases x with
 | non =>
  cases rx
  have e' : k = false:=e;subst e';exact truthy_none ⟨H,I,q⟩
 | bl b =>
  cases rx
  have e' : k = b:=e;subst e';exact yBZ ⟨H,I,q⟩
 | int i =>
  obtain ⟨t,rfl⟩:=rx;have e' : k = (i != 0):=e;subst e';exact PySem.P.truthy_int ⟨H,I,q⟩
 | str y =>
  obtain ⟨t,rfl⟩:=rx;obtain ⟨hy,e'⟩ : y.length <= sizeLine/\k = ((y.length : Int) != 0):=e;subst e';exact PySem.P.truthy_str (by lia) ⟨H,I.tok _,q⟩
 | byt y =>
  obtain ⟨t,rfl⟩:=rx;obtain ⟨hy,e'⟩ : y.size <= sizeLine/\k = ((y.size : Int) != 0):=e;subst e';exact PySem.W.truthy_bytes (by lia) ⟨H,I.tok _,q⟩
 | ref p =>
  cases rx
  have e' : (∃ xs,SqL X.K H p xs/\k = !xs.isEmpty) \/ (∃ xs,SqT X.K H p xs/\k = !xs.isEmpty) \/ ∃ kvs,H p = some (.dK kvs)/\k = !kvs.isEmpty:=e
  rcases e' with ⟨xs,hx,e'⟩ | ⟨xs,hx,e'⟩ | ⟨kvs,hx,e'⟩
  ·subst e'
   obtain ⟨its,r,pl,hz⟩:=I.list hx;have hlen:=r.length;exact wpAny_truthy_list pl.isList (by simp only [yAH]; lia) ⟨H,I.tok _,by rw [zGP r]; exact q⟩
  ·subst e'
   obtain ⟨its,r,pl,hz⟩:=I.tuple hx;have hlen:=r.length;exact truthy_tuple pl (by simp only [yAH]; lia) ⟨H,I.tok _,by rw [zGP r]; exact q⟩
  ·subst e'
   obtain ⟨hz,hS,vs,r,m⟩ : kvs.length <= sizeLine/\(p == sysModules) = false/\∃ vs,KV kvs vs/\s.heap.DictOf (zAI X.prog X.w) p vs:=I.hok p _ hx;have hlen : kvs.length = vs.length:=Paired.length r;exact wpAny_truthy_dict hS m (by lia) ⟨H,I.tok _,by rw [zMW r]; exact q⟩
 | _=>exact (show False from e).elim
theorem zF8 (ha : PE X a ta) (he : ∀ whole, isTrue a X.env whole = (do let v <- whole; standAt a.pos; holding [v] (truthy v))) :
  PT X a (λσ H Q=>ta σ H λx H'=>∃ k,zc6 X.K x H' k/\Q k H'):=by
 intro pins s σ H Q I h;exact isTrue_plain (thn (ha pins s σ H _ I h) λv s1 ⟨x,H1,I1,r1,q1⟩=>zYR pins s1 σ H1 x v Q I1 r1 q1) (he _)
theorem zEC : OpR X (binaryOp .Add) (fun x y H Q => ∃ i j, x = .str i /\ y = .str j /\ i.length + j.length <= sizeLine /\ Q (.str (i ++ j)) H) := by
 intro pins s σ H x y v u Q I rx ry h;obtain ⟨i,j,rfl,rfl,hz,q⟩:=h;obtain ⟨t,rfl⟩:=rx;obtain ⟨t',rfl⟩:=ry;exact add_str (λt' tk=>⟨.str (i++j),H,I.tok _,⟨_,rfl⟩,q⟩) hz
theorem zDN {x : V} {us : List Value} (r : Vals [x] us) : ∃ u, us = [u] /\ RelV x u := by
 cases r with
 | cons r1 r2=>cases r2; exact ⟨_,rfl,r1⟩
theorem zTJ {x y : V} {us : List Value} (r : Vals [x, y] us) : ∃ u w', us = [u, w'] /\ RelV x u /\ RelV y w' := by
 cases r with
 | cons r1 r2 =>
  cases r2 with
  | cons r3 r4=>cases r4; exact ⟨_,_,rfl,r1,r3⟩
theorem zJH (hc : X.calm = true) : zCW X (.builtin "max") (fun xs H Q => ∃ i j, xs = [.int i, .int j] /\ Q (.int (if j > i then j else i)) H) := by
 intro pins s σ H xs us Q I r h;obtain ⟨i,j,rfl,q⟩:=h;obtain ⟨u,w',rfl,⟨t,rfl⟩,⟨t',rfl⟩⟩:=zTJ r;refine max_two_ints (I.ok.hd hc) λh' tk k=>⟨_,H,I.kept k,?_,q⟩
 by_cases hj : j > i
 ·rw [yAQ hj,yAQ hj]; exact ⟨_,rfl⟩
 ·rw [yAN hj,yAN hj]; exact ⟨_,rfl⟩
theorem zOH (hc : X.calm = true) : zCW X (.builtin "min") (fun xs H Q => ∃ i j, xs = [.int i, .int j] /\ Q (.int (if j < i then j else i)) H) := by
 intro pins s σ H xs us Q I r h;obtain ⟨i,j,rfl,q⟩:=h;obtain ⟨u,w',rfl,⟨t,rfl⟩,⟨t',rfl⟩⟩:=zTJ r;refine min_two_ints (I.ok.hd hc) λh' tk k=>⟨_,H,I.kept k,?_,q⟩
 by_cases hj : j < i
 ·rw [yAQ hj,yAQ hj]; exact ⟨_,rfl⟩
 ·rw [yAN hj,yAN hj]; exact ⟨_,rfl⟩
end
structure ObjM (h : Heap) (x dx C : Addr) (mA : Str -> Option Value) : Prop where
 obj : h.get? x = some (PySem.W.instObj C dx)
 ns : h.Ns1 dx mA
 ne : dx≠x
theorem zRP {h : Heap} {dx : Addr} {mA : Str -> Option Value} (n : h.Ns1 dx mA) : ∃ od, h.get? dx = some od /\ ∀ name, PySem.W.lookIn name od = some (mA name) := by
 obtain ⟨o,es,ep,ho,hd,hk,_,hm⟩:=n;refine ⟨o,ho,λname => ?_⟩;have e:=hm name;unfold nsFind findBy at e;rw [<- Array.find?_toList] at e;unfold PySem.W.lookIn;rw [hd];dsimp only
 split
 ·rename_i y q
  rw [q] at e;exact congrArg some e
 ·rename_i q
  rw [q] at e
  have a : es.toList.any (·.refKey) = false := by
   rw [yDB];intro y hy;obtain ⟨z,t,hkey⟩:=hk y (Array.mem_toList_iff.mp hy)
   simp [DictEntry.refKey,hkey]
  have a' : ¬ es.toList.any (·.refKey) = true:=by rw [a]; exact yAY
  rw [yAN a'];exact congrArg some e
theorem ObjM.look {h : Heap} {x dx C : Addr} {mA : Str -> Option Value} (I : ObjM h x dx C mA) : ∃ od, PySem.W.InstAt h x (PySem.W.instObj C dx) C (some od) /\ ∀ name, PySem.W.lookIn name od = some (mA name) :=
 let ⟨od,ho,hl⟩:=zRP I.ns
 ⟨od,⟨I.obj,rfl,rfl,ho⟩,hl⟩
section
variable {prog : Program} {w : World} {A : Around} {E : Value -> Shared -> Prop} {s : Shared} {K : PySem.W.Frag} {x dx C f : Addr} {mA : Str -> Option Value} {name : Str} {v : Value}
theorem zVY {expr : Bool} {Q : Value -> Shared -> Prop} (X : K.In s.heap) (I : ObjM s.heap x dx C mA) (hg : PySem.W.plainGet K C name = true) (hh : PySem.W.hasDictIn K C = true)
  (ha : PySem.W.findIn K (.ref C) name = some none) (hv : mA name = some v) (hv' : PySem.W.handedIn v = true) (h : Q v { s with toks:=s.toks + 1 }) :
  wpAny (model prog w) A (getAttr (.ref x) name expr) Q E s:=by
 obtain ⟨od,J,hl⟩:=I.look;exact PySem.W.get_value X J (PySem.W.plainGet_of hg).1 (PySem.W.findObj_own hh ha rfl (by rw [hl,hv])) hv' h
theorem zS7 {pl : Sem Bool} {Q : Value × List Value -> Shared -> Prop} (X : K.In s.heap) (I : ObjM s.heap x dx C mA) (hg : PySem.W.plainGet K C name = true)
  (hf : PySem.W.findIn K (.ref C) name = some (some (.ref f))) (ht : PySem.W.isFn K (.ref f) = true) (hv : mA name = none) (h : Q (.ref f,[.ref x]) s) :
  wpAny (model prog w) A (getMethod (.ref x) name pl) Q E s:=by
 obtain ⟨od,J,hl⟩:=I.look;exact PySem.W.method_fn X J (PySem.W.plainGet_of hg).1 (PySem.W.plainGet_of hg).2 hf (yAc.mp ht) (by show (PySem.W.lookIn name od).map (·.isSome) = some false; rw [hl,hv]; rfl) h
theorem zVB {ns : List Str} {Q : Unit -> Shared -> Prop} (X : K.In s.heap) (I : ObjM s.heap x dx C mA)
  (hs : PySem.W.findIn K (.ref C) "__setattr__" = some (some (.builtin "object.__setattr__"))) (hp : PySem.W.plainOver K C = true) (ht : PySem.W.takerIn K C name = some none) (hh : PySem.W.hasDictIn K C = true)
  (hw : PySem.Within mA ns) (hsz : ns.length <= sizeLine)
  (h : ∀ h',ObjM h' x dx C (λy=>if y = name then some v else mA y) -> Heap.SameBut dx s.heap h' -> Q () { s with heap:=h',toks:=s.toks + 2 }) :
  wpAny (model prog w) A (setAttr (.ref x) name v) Q E s:=by
 obtain ⟨od,J,hl⟩:=I.look;refine PySem.W.set_plain X J hs (PySem.W.osa_open (s:={ s with toks:=s.toks + 1 }) (r:=none) X J hp ht λb => ?_);obtain ⟨cd,hc,hd'⟩:=PySem.W.any_some hh;have hx : s.heap.get? x = some ⟨.ref C,some dx,.plain,#[]⟩:=I.obj;refine yAD (yAW (yAD (yAD (wpAny_loadPart hx (yAD (PySem.W.Looks.here (s:={ s with toks:=s.toks + 1 }) (PySem.W.looks_clsIn X hc) ?_))))));rw [hd'];refine yAW (a:=some dx) (yAD (yAW (yAD ?_)));refine wpAny_nsSet1 (s:={ s with toks:=s.toks + 1 }) I.ns λh' hn2 hs2 => ?_;obtain ⟨oD,esD,epD,hoD,hdD,hcD⟩:=hn2.count (PySem.Within.cons name v hw);refine yAD (wpAny_lookBehind hoD (by rw [hdD]; exact pastItsLine_dict (yAk hcD (by rw [yBA]; lia))) ?_);exact yAW (h _ ⟨(hs2.2 _ (Ne.symm I.ne)).trans I.obj,hn2,I.ne⟩ hs2)
theorem zTZ {R : Result -> Shared -> Prop} {vs : List Value} {kw : List (Str × Value)} (X : K.In s.heap) (hm : PySem.W.makesIn K C = true)
  (hi : PySem.W.findIn K (.ref C) "__init__" = some (some (.ref f))) (hf : PySem.W.typeIn K (.ref f) = some (.type "function"))
  (h : codeAny (model prog w) (A.under (.builtin "type.__call__" ⟨.ref C :: vs, kw⟩)) (.call (.ref f) ⟨.ref (s.heap.objs.size + 1) :: vs, kw⟩) (PySem.W.InitBack (s.heap.objs.size + 1) R)
   { s with heap:=(s.heap.push PySem.W.emptyDict).push (PySem.W.instObj C s.heap.objs.size) }) :
  codeAny (model prog w) A (.call (.ref C) ⟨vs,kw⟩) R s:=by
 obtain ⟨hh,g,d,t,os⟩:=s;exact PySem.W.make_core (PySem.W.makes_of X hm) (PySem.W.looks_findIn X hi) (λself=>PySem.W.bind_fn X self hf) (.inl rfl) h
end
noncomputable def zGD (f : Str) (v : V) : List (Str × V) -> List (Str × V)
 | []=>[(f,v)]
 | (g,x)::r=>if g = f then (g,v)::r else (g,x)::zGD f v r
theorem zG5 (f g : Str) (v : V) : ∀ fs : List (Str × V), (zGD f v fs).lookup g = if g = f then some v else fs.lookup g
 | []=>by
  show List.lookup g [(f,v)] = _
  by_cases h : g = f
  ·have hb : (g == f) = true := yAc.mpr h
   simp only [List.lookup,hb,yAQ h]
  ·have hb : (g == f) = false := yCk.mpr h
   simp only [List.lookup,hb,yAN h]
 | (k,x)::r=>by
  have ih:=zG5 f g v r;rw [show zGD f v ((k,x)::r) = (if k = f then (k,v)::r else (k,x)::zGD f v r) from rfl]
  by_cases hk : k = f
  ·rw [yAQ hk]
   by_cases h : g = k
   ·have hb : (g == k) = true := yAc.mpr h
    simp only [List.lookup,hb,yAQ (h.trans hk)]
   ·have hb : (g == k) = false := yCk.mpr h
    simp only [List.lookup,hb,yAN (λe : g = f=>h (e.trans hk.symm))]
  ·rw [yAN hk]
   by_cases h : g = k
   ·have hb : (g == k) = true := yAc.mpr h
    simp only [List.lookup,hb,yAN (λe : g = f=>hk (h.symm.trans e))]
   ·have hb : (g == k) = false := yCk.mpr h
    simp only [List.lookup,hb];exact ih
theorem zG9 (f : Str) (v : V) : ∀ fs : List (Str × V), f ∈ (zGD f v fs).map (·.1) /\ ∀ g, g ∈ fs.map (·.1) -> g ∈ (zGD f v fs).map (·.1)
 | []=>⟨by simp [zGD],λg h=>by simp at h⟩
 | (k,x)::r=>by
  obtain ⟨i1,i2⟩:=zG9 f v r;rw [show zGD f v ((k,x)::r) = (if k = f then (k,v)::r else (k,x)::zGD f v r) from rfl]
  by_cases hk : k = f
  ·rw [yAQ hk]
   subst hk;exact ⟨by simp,λg h=>by simpa using h⟩
  ·rw [yAN hk]
   refine ⟨?_,λg h => ?_⟩
   ·rw [yAl]
    exact yAO _ i1
   ·rw [yAl] at h ⊢
    rcases yAb.mp h with e | e
    ·exact yAb.mpr (.inl e)
    ·exact yAO _ (i2 g e)
theorem zFR (f : Str) (v : V) : ∀ fs : List (Str × V), (zGD f v fs).length <= fs.length + 1
 | []=>by simp [zGD]
 | (k,x)::r=>by
  have ih:=zFR f v r;rw [show zGD f v ((k,x)::r) = (if k = f then (k,v)::r else (k,x)::zGD f v r) from rfl]
  by_cases hk : k = f
  ·rw [yAQ hk,yBA,yBA]; lia
  ·rw [yAN hk,yBA,yBA]; lia
theorem RelO.some_of {v : V} {o : Option Value} (r : RelO (some v) o) : ∃ u, o = some u /\ RelV v u := by
 cases o with
 | none=>exact (show False from r).elim
 | some u=>exact ⟨u,rfl,r⟩
theorem RelO.none_of {o : Option Value} (r : RelO none o) : o = none := by
 cases o with
 | none=>rfl
 | some u=>exact (show False from r).elim
theorem zQ1 {v : V} {u : Value} (r : RelV v u) : PySem.W.handedIn u = true := by
 cases v with
 | non=>cases (show u = Value.none from r); rfl
 | bl b=>cases (show u = Value.bool b from r); rfl
 | int i=>obtain ⟨t,e⟩:=(show ∃ t,u = Value.int i t from r); cases e; rfl
 | str x=>obtain ⟨t,e⟩:=(show ∃ t,u = Value.str x t from r); cases e; rfl
 | byt b=>obtain ⟨t,e⟩:=(show ∃ t,u = Value.bytes b t from r); cases e; rfl
 | flt b=>obtain ⟨t,e⟩:=(show ∃ t,u = Value.float b t from r); cases e; rfl
 | ref a=>cases (show u = Value.ref a from r); rfl
 | ty n=>cases (show u = Value.type n from r); rfl
section
variable {P : Program} {w : World} {H H' : Hp} {h h' : Heap} {a C dx : Addr} {fs fs' : List (Str × V)}
theorem zFQ (hok : HOk P w H h) (e : H a = some (.ins C dx fs)) : ∃ mA, ObjM h a dx C mA /\ (∀ f, RelO (fs.lookup f) (mA f)) /\ PySem.Within mA (fs.map (·.1)) /\ fs.length <= 1000 /\ H dx = some (.own a) := by
 obtain ⟨d,z,ne,ob,mA,n,r,q⟩:=(show ObjOk P w H h a (.ins C dx fs) from hok a _ e);exact ⟨mA,⟨ob,n,ne⟩,r,q,z,d⟩
end
structure Cls (K : PySem.W.Frag) (C : Addr) : Prop where
 pg : PySem.W.plainGet K C Str.empty = true
 hd : PySem.W.hasDictIn K C = true
 po : PySem.W.plainOver K C = true
 sa : PySem.W.findIn K (.ref C) "__setattr__" = some (some (.builtin "object.__setattr__"))
theorem Cls.get {K : PySem.W.Frag} {C : Addr} (c : Cls K C) (f : Str) : PySem.W.plainGet K C f = true:=c.pg
noncomputable def NoAttr (K : PySem.W.Frag) (C : Addr) (f : Str) : Prop:=PySem.W.findIn K (.ref C) f = some none
theorem NoAttr.taker {K : PySem.W.Frag} {C : Addr} {f : Str} (n : NoAttr K C f) : PySem.W.takerIn K C f = some none := by
 unfold PySem.W.takerIn;rw [show PySem.W.findIn K (.ref C) f = some none from n];rfl
structure Con (K : PySem.W.Frag) (C : Addr) (f : Str) (v : V) (u : Value) : Prop where
 at_ : PySem.W.findIn K (.ref C) f = some (some u)
 rel : RelV v u
 get : PySem.W.specialIn K u "__get__" = some none
 cp : PySem.W.copiedNames.contains f = false
structure Meth (K : PySem.W.Frag) (C : Addr) (m : Str) (f : Addr) : Prop where
 at_ : PySem.W.findIn K (.ref C) m = some (some (.ref f))
 fn : PySem.W.isFn K (.ref f) = true
 kp : PySem.W.keepIn K (.ref f) = true
section
variable {X : Cx} {pins : List (Addr × Obj)} {σ : St} {H : Hp} {s : Shared} {a C dx : Addr} {fs : List (Str × V)} {f : Str} {v : V} {A : Around} {E : Value -> Shared -> Prop}
theorem zNU {b : Bool} {Q : Value -> Shared -> Prop} (I : Inv X pins σ H s) (e : H a = some (.ins C dx fs)) (c : Cls X.K C) (n : NoAttr X.K C f) (l : fs.lookup f = some v)
  (h : ∀ u s',Inv X pins σ H s' -> RelV v u -> Q u s') : wpAny (model X.prog X.w) A (getAttr (.ref a) f b) Q E s:=by
 obtain ⟨mA,O,r,_,_,_⟩:=zFQ I.hok e;obtain ⟨u,hu,ru⟩:=RelO.some_of (v:=v) (o:=mA f) (by rw [<- l]; exact r f);exact zVY I.kIn O (c.get f) c.hd n hu (zQ1 ru) (h u _ (I.tok _) ru)
theorem zGM {m : Str} {g : Addr} {pl : Sem Bool} {Q : Value × List Value -> Shared -> Prop} (I : Inv X pins σ H s) (e : H a = some (.ins C dx fs)) (c : Cls X.K C) (k : Meth X.K C m g) (l : fs.lookup m = none)
  (h : Q (.ref g,[.ref a]) s) : wpAny (model X.prog X.w) A (getMethod (.ref a) m pl) Q E s:=by
 obtain ⟨mA,O,r,_,_,_⟩:=zFQ I.hok e;have hn : mA m = none:=RelO.none_of (by rw [<- l]; exact r m);exact zS7 I.kIn O (c.get m) k.at_ k.fn hn h
theorem zNM {y : V} {u : Value} {Q : Unit -> Shared -> Prop} (I : Inv X pins σ H s) (e : H a = some (.ins C dx fs)) (c : Cls X.K C) (n : NoAttr X.K C f) (hl : fs.length < 1000) (ry : RelV y u)
  (h : ∀ s',Inv X pins σ (upd H a (.ins C dx (zGD f y fs))) s' -> Q () s') : wpAny (model X.prog X.w) A (setAttr (.ref a) f u) Q E s:=by
 obtain ⟨mA,O,r,wi,_,ho⟩:=zFQ I.hok e;have hz : (fs.map (·.1)).length <= sizeLine:=by rw [yAB,sizeLine_eq]; lia
 refine zVB I.kIn O c.sa c.po n.taker c.hd wi hz λh' O' sb=>h _ ?_;have hd : ∃ o,h'.get? dx = some o:=let ⟨o,_,_,e',_⟩:=O'.ns; ⟨o,e'⟩;refine I.write (x:=a) (e:=dx) (by rw [e]; exact True.intro) (.inr ho) (λb q hb z=>(sb.2 b hb).trans z) hd ?_;refine ⟨by rw [zA6 O.ne]; exact ho,?_,O.ne,O'.obj,_,O'.ns,λg => ?_,λg hg => ?_⟩
 ·have:=zFR f y fs; lia
 ·show RelO ((zGD f y fs).lookup g) (if g = f then some u else mA g)
  rw [zG5]
  by_cases q : g = f
  ·rw [yAQ q,yAQ q]; exact ry
  ·rw [yAN q,yAN q]; exact r g
 ·by_cases q : g = f
  ·rw [q]; exact (zG9 f y fs).1
  ·refine (zG9 f y fs).2 g (wi g fun z => hg ?_)
   show (if g = f then some u else mA g) = none;rw [yAN q]; exact z
theorem Inv.made (I : Inv X pins σ H s) : Inv X pins σ (upd (upd H s.heap.objs.size (.own (s.heap.objs.size + 1))) (s.heap.objs.size + 1) (.ins C s.heap.objs.size []))
  { s with heap:=(s.heap.push PySem.W.emptyDict).push (PySem.W.instObj C s.heap.objs.size) }:=by
 have e1 : (s.heap.push PySem.W.emptyDict).get? s.heap.objs.size = some PySem.W.emptyDict:=yAS s.heap rfl
 have e2 : ((s.heap.push PySem.W.emptyDict).push (PySem.W.instObj C s.heap.objs.size)).get? (s.heap.objs.size + 1) = some (PySem.W.instObj C s.heap.objs.size) := by
  have:=yAS (s.heap.push PySem.W.emptyDict) (o:=PySem.W.instObj C s.heap.objs.size) rfl
  rwa [yCS] at this
 have e3 : (s.heap.push PySem.W.emptyDict).Ns s.heap.objs.size (λ_=>none):=⟨PySem.W.emptyDict,#[],_,e1,rfl,(λe he=>absurd he (by simp)),λ_=>rfl⟩;have I1:=I.laid (a:=s.heap.objs.size) (o := .own (s.heap.objs.size + 1)) (h':=s.heap.push PySem.W.emptyDict) (t':=s.toks) (λb u q=>yAC _ q) (yAE _) ⟨_,e1⟩;refine I1.laid (a:=s.heap.objs.size + 1) (o := .ins C s.heap.objs.size []) (t':=s.toks) (λb u q=>yAC _ q) (Nat.le_of_eq (yCS _ _)) ?_;have ne : s.heap.objs.size≠s.heap.objs.size + 1:=yAi (yCi _);refine ⟨by rw [zA6 ne,zA2],yBL _,ne,e2,λ_=>none,(Heap.Ns1.of_empty e3).at λo q=>yAC _ q,λ_=>True.intro,λy hy=>absurd rfl hy⟩
theorem zWZ {prog : Program} {w : World} {env : Env} {e : Expr} {f : Str} {pos : Pos} {s : Shared} {Q : Value -> Shared -> Prop} (hb : attributeBase e f env (eval e env) = eval e env)
  (h : wpAny (model prog w) A (eval e env) (λo s₁ => wpAny (model prog w) A (getAttr o f true) Q E s₁) E s) : wpAny (model prog w) A (eval (.Attribute e f pos) env) Q E s :=
 Attribute_any_ h (by rw [arm_eval_Attribute,hb])
end
noncomputable def zc0 (K : PySem.W.Frag) (ta : TE) (f : Str) : TE:=λσ H Q=>ta σ H λx H1=>∃ a C dx fs v,x = .ref a/\H1 a = some (.ins C dx fs)/\Cls K C/\NoAttr K C f/\fs.lookup f = some v/\Q v H1
noncomputable def zbT (K : PySem.W.Frag) (ta tv : TE) (f : Str) : TS := fun D σ H => tv σ H fun y H1 => ta σ H1 fun x H2 => ∃ a C dx fs, x = .ref a /\ H2 a = some (.ins C dx fs) /\ Cls K C /\ NoAttr K C f /\ fs.length < 1000 /\
 D.nx σ (upd H2 a (.ins C dx (zGD f y fs)))
section
variable {X : Cx} {o e value : Expr} {f : Str} {pos pos' tpos : Pos} {ta tv : TE}
theorem zBF (he : PE X e ta) (hb : attributeBase e f X.env (eval e X.env) = eval e X.env) : PE X (.Attribute e f pos) (zc0 X.K ta f) := by
 intro pins s σ H Q I h;refine zWZ hb (thn (he pins s σ H _ I h) λu s1 ⟨x,H1,I1,rx,a,C,dx,fs,v,ex,ea,c,n,l,q⟩ => ?_);subst ex;obtain rfl : u = Value.ref a:=rx;exact zNU I1 ea c n l λu' s2 I2 ru=>⟨v,H1,I2,ru,q⟩
theorem zMP (ha : PE X o ta) (hv : PE X value tv) (hs : swapsWith value (some (.Attribute o f pos')) pos.line X.env = pure false) : PS X (.Assign [.Attribute o f pos'] value pos) (zbT X.K ta tv f) := by
 intro pins s σ H D I h;refine plainObj_wpAny_Assign_Attribute (thn (hv pins s σ H _ I h) λu s1 ⟨y,H1,I1,ry,q⟩=>thn (ha pins s1 σ H1 _ I1 q) λov s2 ⟨x,H2,I2,rx,a,C,dx,fs,ex,ea,c,n,l,q2⟩ => ?_) hs;subst ex;obtain rfl : ov = Value.ref a:=rx;exact zNM I2 ea c n l ry λs3 I3=>⟨σ,_,I3,q2⟩
end
section
variable {X : Cx} {pins : List (Addr × Obj)} {σ : St} {H : Hp} {s : Shared} {A : Around} {E : Value -> Shared -> Prop} {Q : Value -> Shared -> Prop} {c : Value} {b : Bool}
inductive TyOf (K : PySem.W.Frag) (H : Hp) : V -> Value -> Prop where
 | non : TyOf K H .non (.type "NoneType")
 | bl (x : Bool) : TyOf K H (.bl x) (.type "bool")
 | int (i : Int) : TyOf K H (.int i) (.type "int")
 | str (x : Str) : TyOf K H (.str x) (.type "str")
 | flt (x : UInt64) : TyOf K H (.flt x) (.type "float")
 | lst {a : Addr} {xs : List V} (e : H a = some (.lst xs)) : TyOf K H (.ref a) (.type "list")
 | frz {a : Addr} {o : Obj} {xs : List V} (e : H a = some (.frz o (.lst xs))) : TyOf K H (.ref a) (.type "list")
 | tup {a : Addr} {xs : List V} (e : H a = some (.tup xs)) : TyOf K H (.ref a) (.type "tuple")
 | dK {a : Addr} {kvs : List (Key × V)} (e : H a = some (.dK kvs)) : TyOf K H (.ref a) (.type "dict")
 | dT {a : Addr} {kvs : List (List Key × V)} (e : H a = some (.dT kvs)) : TyOf K H (.ref a) (.type "dict")
 | ins {a C dx : Addr} {fs : List (Str × V)} (e : H a = some (.ins C dx fs)) (cl : Cls K C) (ha : PySem.W.findIn K (.ref C) "__class__" = some (some (.builtin "object.__class__")))
   (hn : PySem.W.specialIn K (.builtin "object.__class__") "__get__" = some (some (.builtin "getset_descriptor.__get__"))) (htk : PySem.W.takesIn K (.builtin "object.__class__") = some true)
   (hm : PySem.W.mroIn K C (.type "object") = some true) : TyOf K H (.ref a) (.ref C)
theorem zPQ {x : V} {u t : Value} (I : Inv X pins σ H s) (rx : RelV x u) (ty : TyOf X.K H x t) (e : PySem.W.kitOne X.K t c = some b) (h : ∀ tk, Q (.bool b) { s with toks := tk }) :
  wpAny (model X.prog X.w) A (call (.builtin "isinstance") [u,c]) Q E s:=by
 cases ty with
 | non=>cases (show u = Value.none from rx); exact yBg PySem.W.kitx_none I.kIn True.intro e (λz=>nomatch z) h
 | bl y=>cases (show u = Value.bool y from rx); exact yBg PySem.W.kitx_bool I.kIn True.intro e (λz=>nomatch z) h
 | int i=>obtain ⟨t,q⟩:=(show ∃ t,u = Value.int i t from rx); cases q; exact yBg PySem.W.kitx_int I.kIn True.intro e (λz=>nomatch z) h
 | str y=>obtain ⟨t,q⟩:=(show ∃ t,u = Value.str y t from rx); cases q; exact yBg PySem.W.kitx_str I.kIn True.intro e (λz=>nomatch z) h
 | flt y=>obtain ⟨t,q⟩:=(show ∃ t,u = Value.float y t from rx); cases q; exact yBg PySem.W.kitx_float I.kIn True.intro e (λz=>nomatch z) h
 | @lst a xs ea =>
  cases (show u = Value.ref a from rx)
  obtain ⟨_,_,n,_,h1⟩:=(show ObjOk X.prog X.w H s.heap a (.lst xs) from I.hok a _ ea);exact yBg yDa I.kIn ⟨_,h1,rfl⟩ e (λz=>nomatch z) h
 | @frz a ob xs ea =>
  cases (show u = Value.ref a from rx)
  obtain ⟨_,_,_,n,_,h1⟩:=(show ObjOk X.prog X.w H s.heap a (.frz ob (.lst xs)) from I.hok a _ ea);exact yBg yDa I.kIn ⟨_,h1,rfl⟩ e (λz=>nomatch z) h
 | @tup a xs ea =>
  cases (show u = Value.ref a from rx)
  obtain ⟨_,_,_,p⟩:=(show ObjOk X.prog X.w H s.heap a (.tup xs) from I.hok a _ ea);obtain ⟨o,h1,h2,_⟩:=p;exact yBg PySem.W.kitx_tuple I.kIn ⟨o,h1,h2⟩ e (λz=>nomatch z) h
 | @dK a kvs ea =>
  cases (show u = Value.ref a from rx)
  obtain ⟨_,_,vs,_,p⟩:=(show ObjOk X.prog X.w H s.heap a (.dK kvs) from I.hok a _ ea);obtain ⟨o,es,ep,h1,h2,_⟩:=p;exact yBg yDb I.kIn ⟨o,h1,h2.1⟩ e (λz=>nomatch z) h
 | @dT a kvs ea =>
  cases (show u = Value.ref a from rx)
  obtain ⟨_,_,xs,_,o,es,ep,h1,h2,_⟩:=(show ObjOk X.prog X.w H s.heap a (.dT kvs) from I.hok a _ ea);exact yBg yDb I.kIn ⟨o,h1,h2.1⟩ e (λz=>nomatch z) h
 | @ins a C dx fs ea cl ha hn htk hm =>
  cases (show u = Value.ref a from rx)
  obtain ⟨mA,O,_⟩:=zFQ I.hok ea;obtain ⟨od,J,_⟩:=O.look;exact yBg (PySem.W.kitx_own (cl.get _) cl.hd ha hn htk hm) I.kIn J e (λz=>nomatch z) h
end
structure Room (k : Nat) (A : Around) : Prop where
 hd : A.handled = none
 dp : A.depth + 3 * k + 5 < recursionLimit
 un : A.units + 16 * k + 200 < cLine
 gd : A.guards = some []
theorem Room.mono {j k : Nat} {A : Around} (r : Room k A) (h : j <= k) : Room j A:=⟨r.hd,by have:=r.dp; lia,by have:=r.un; lia,r.gd⟩
theorem Room.deeper {k : Nat} {A : Around} (r : Room (k + 1) A) (env : Env) : Room k (A.deeper env) :=
 ⟨r.hd,by have:=r.dp; show A.depth + 1 + 3 * k + 5 < _; lia,by have:=r.un; show A.units + 3 + 16 * k + 200 < _; lia,r.gd⟩
theorem Room.in1 {k : Nat} {A : Around} (r : Room (k + 1) A) : Room k A.in1 :=
 ⟨r.hd,by have:=r.dp; show A.depth + 3 * k + 5 < _; lia,by have:=r.un; show A.units + 1 + 16 * k + 200 < _; lia,r.gd⟩
theorem zO0 {A : Around} {C : Addr} {us : List Value} {kw : List (Str × Value)} : (A.under (.builtin "type.__call__" ⟨.ref C :: us, kw⟩)).depth = A.depth + 1 := by
 first | rfl | simp [Around.under,Code.weight,Code.isCreation,Code.isGuard,Code.isCaller,Code.frames,Code.isFrame,guardIds]
theorem zNI {A : Around} {C : Addr} {us : List Value} {kw : List (Str × Value)} : (A.under (.builtin "type.__call__" ⟨.ref C :: us, kw⟩)).units = A.units + 1 := by
 first | rfl | simp [Around.under,Code.cUnits,Code.frames,Code.isFrame]
theorem make_guards {A : Around} {C : Addr} {us : List Value} {kw : List (Str × Value)} : (A.under (.builtin "type.__call__" ⟨.ref C :: us, kw⟩)).guards = A.guards := by
 first | rfl | simp [Around.under,Code.guards,Code.isGuard,guardIds,pushGuards]
theorem Room.make {k : Nat} {A : Around} (r : Room (k + 1) A) (C : Addr) (us : List Value) (kw : List (Str × Value)) : Room k (A.under (.builtin "type.__call__" ⟨.ref C :: us, kw⟩)) :=
 ⟨r.hd,by have:=r.dp; rw [zO0]; lia,by have:=r.un; rw [zNI]; lia,make_guards.trans r.gd⟩
theorem Room.depth {k : Nat} {A : Around} (r : Room k A) : A.depth < recursionLimit:=by have:=r.dp; lia
theorem Room.units {k : Nat} {A : Around} (r : Room k A) : A.units + 64 < cLine:=by have:=r.un; lia
noncomputable def zFB : TA:=λ_ H Q=>Q [] H
noncomputable def zBO (ta : TE) (tr : TA) : TA:=λσ H Q=>ta σ H λx H1=>tr σ H1 λxs H2=>Q (x::xs) H2
section
variable {X : Cx} {e : Expr} {es : List Expr} {te : TE} {t : TA} {pos : Pos}
theorem zA1 : PA X [] zFB:=λ_ _ _ _ H Q I h=>Calls.spliced_nil ⟨[],H,I,.nil,h⟩
theorem zA0 (ha : PE X e te) (hr : PA X es t) (hs : starEach (e :: es) X.env = (false, eval e X.env) :: starEach es X.env := by rfl) : PA X (e :: es) (zBO te t) := by
 intro pos pins s σ H Q I h;rw [hs];show wpAny _ _ (spliced ((false,eval e X.env)::backTo pos (starEach es X.env))) _ _ s;refine Calls.spliced_cons (thn (ha pins s σ H _ I h) λu s1 ⟨x,H1,I1,r1,q1⟩ => ?_);exact thn (hr pos pins s1 σ H1 _ I1 q1) λus s2 ⟨xs,H2,I2,r2,q2⟩=>⟨x::xs,H2,I2,.cons r1 r2,q2⟩
noncomputable def zaA (t : TA) : TE:=λσ H Q=>t σ H λxs H1=>xs.length <= sizeLine/\∀ p,H1 p = none -> Q (.ref p) (upd H1 p (.tup xs))
noncomputable def zUM (t : TA) : TE:=λσ H Q=>t σ H λxs H1=>xs.length <= sizeLine/\∀ p,H1 p = none -> Q (.ref p) (upd H1 p (.lst xs))
theorem zAS {x1} (h : PA X es t) : PE X (.Tuple es x1 pos) (zaA t) := by
 intro pins s σ H Q I hq;refine wpAny_Tuple_spliced (thn (h pos pins s σ H _ I hq) λus s1 ⟨xs,H1,I1,r,z,q⟩=>⟨by rw [<- r.length]; exact z,?_⟩);have hf : H1 s1.heap.objs.size = none:=I1.hok.fresh (yAE _);refine ⟨.ref s1.heap.objs.size,upd H1 s1.heap.objs.size (.tup xs),I1.laid (t':=s1.toks) (λb u e=>yAC _ e) (yAE _) ?_,rfl,q _ hf⟩;exact ⟨z,us,r,⟨_,yAS _ rfl,rfl,_,rfl⟩⟩
theorem zAQ (h : PA X es t) : PE X (.List es pos) (zUM t) := by
 intro pins s σ H Q I hq;refine wpAny_List_spliced (thn (h pos pins s σ H _ I hq) λus s1 ⟨xs,H1,I1,r,z,q⟩=>⟨by rw [<- r.length]; exact z,?_⟩);have hf : H1 s1.heap.objs.size = none:=I1.hok.fresh (yAE _);refine ⟨.ref s1.heap.objs.size,upd H1 s1.heap.objs.size (.lst xs),I1.laid (t':=s1.toks) (λb u e=>yAC _ e) (yAE _) ?_,rfl,q _ hf⟩;exact ⟨z,us,0,r,yAS _ rfl⟩
end
noncomputable abbrev Sp:=List V -> Hp -> VK -> XK -> Prop
noncomputable abbrev CXT:=List Env -> Hp -> Shared -> XK -> Value -> Shared -> Prop
structure Env0 (P : Program) (w : World) (K : PySem.W.Frag) (mg : Str -> Option Value) (base : Heap) (A : Around) (outer : List Env) (s : Shared) (H : Hp) : Prop where
 frames : A.frames = some outer
 mod : Mod K mg base
 bs : ∀ b o,base.get? b = some o -> s.heap.get? b = some o/\H b = none
 bsz : base.objs.size <= s.heap.objs.size
 funs : s.heap.FunFrames base outer
 frf : ∀ b∈frs outer,H b = none
 hok : HOk P w H s.heap
 bare : AllBare s.gens
noncomputable def CE (outer : List Env) (P : Program) (w : World) (H : Hp) (s : Shared) (Q : VK) (u : Value) (s' : Shared) : Prop :=
 ∃ v H',s'.os = s.os/\AllBare s'.gens/\Un (frs outer) [] H H' s.heap s'.heap/\HOk P w H' s'.heap/\RelV v u/\Q v H'
noncomputable def CR (CX : CXT) (outer : List Env) (P : Program) (w : World) (H : Hp) (s : Shared) (Q : VK) (E : XK) (r : Result) (s' : Shared) : Prop :=
 match r with
 | .ok (.ret u)=>CE outer P w H s Q u s'
 | .ok _=>False
 | .error e=>CX outer H s E e s'
structure FnOk (P : Program) (w : World) (K : PySem.W.Frag) (mg : Str -> Option Value) (base : Heap) (CX : CXT) (k : Nat) (f : Addr) (fd : FuncData) (ps : List Str) (sp : Sp) : Prop where
 len : ∀ vs H Q E,sp vs H Q E -> vs.length = ps.length
 run : ∀ (A : Around) (outer : List Env) (s : Shared) (H : Hp) (args : Args) (us : List Value) (vs : List V) (Q : VK) (E : XK), Room k A -> Env0 P w K mg base A outer s H -> BindsTo s fd args (ps.zip us) -> Vals vs us -> sp vs H Q E ->
  codeAny (model P w) A (.call (.ref f) args) (CR CX outer P w H s Q E) s
theorem Env0.make {P : Program} {w : World} {K : PySem.W.Frag} {mg : Str -> Option Value} {base : Heap} {A : Around} {outer : List Env} {s : Shared} {H : Hp} (e : Env0 P w K mg base A outer s H) (C : Addr) (us : List Value) (kw : List (Str × Value)) :
  Env0 P w K mg base (A.under (.builtin "type.__call__" ⟨.ref C::us,kw⟩)) outer s H:=⟨by first | exact e.frames | (simpa [Around.under,Code.envs,Code.isFrame,pushEnvs] using e.frames),e.mod,e.bs,e.bsz,e.funs,e.frf,e.hok,e.bare⟩
theorem Env0.in1 {P : Program} {w : World} {K : PySem.W.Frag} {mg : Str -> Option Value} {base : Heap} {A : Around} {outer : List Env} {s : Shared} {H : Hp} (e : Env0 P w K mg base A outer s H) :
  Env0 P w K mg base A.in1 outer s H:=⟨e.frames,e.mod,e.bs,e.bsz,e.funs,e.frf,e.hok,e.bare⟩
section
variable {X : Cx} {pins : List (Addr × Obj)} {σ : St} {H : Hp} {s s' : Shared}
theorem Inv.env0 (I : Inv X pins σ H s) : Env0 X.prog X.w X.K X.mg X.base X.A X.stack s H :=
 ⟨I.ok.frames,I.ok.mod,I.bs,yAk I.ok.bsz I.sz,I.stack,I.stkFree,I.hok,I.bare⟩
theorem Inv.after {Q : VK} {u : Value} (I : Inv X pins σ H s) (h : CE X.stack X.prog X.w H s Q u s') : EP X pins σ Q u s' := by
 obtain ⟨v,H',os,bare,un,hok,r,q⟩:=h;obtain ⟨hh,g,d,t,os'⟩:=s';obtain rfl : os' = s.os:=os;exact ⟨v,H',I.call (h':=hh) (g':=g) (d':=d) (t':=t) (ch:=[]) un hok bare (λb z=>absurd z (by simp)),r,q⟩
end
noncomputable def zH8 (sp : Sp) (dvs : List V) (E : XK) (t : TA) : TE:=λσ H Q=>t σ H λvs H1=>sp (vs++dvs) H1 Q E
noncomputable def zYE (C : Addr) (m : Str) (sp : Sp) (dvs : List V) (E : XK) (ta : TE) (t : TA) : TE := fun σ H Q => ta σ H fun x H1 => ∃ a dx fs, x = .ref a /\ H1 a = some (.ins C dx fs) /\ fs.lookup m = none /\
 t σ H1 λvs H2=>sp (x::(vs++dvs)) H2 Q E
noncomputable def zbP (C : Addr) (sp : Sp) (dvs : List V) (E : XK) (t : TA) : TE := fun σ H Q => t σ H fun vs H1 => ∀ x dx, H1 x = none -> H1 dx = none -> dx ≠ x ->
 sp (.ref x::(vs++dvs)) (upd (upd H1 dx (.own x)) x (.ins C dx [])) (λv H2=>v = .non/\Q (.ref x) H2) E
noncomputable def Binds (K : PySem.W.Frag) (fd : FuncData) (ps : List Str) (ds : List Value) : Prop :=
 ∀ (s : Shared) (us : List Value),K.In s.heap -> (us++ds).length = ps.length -> BindsTo s fd ⟨us,[]⟩ (ps.zip (us++ds))
theorem Binds.all {K : PySem.W.Frag} {fd : FuncData} {ps : List Str} (h : ∀ us : List Value, us.length = ps.length -> bindArgs fd ⟨us, []⟩ = pure (ps.zip us)) : Binds K fd ps [] := fun s us _ hl => by
 rw [yBh] at hl ⊢;exact .of_eq (h us hl)
noncomputable def zCV (CX : CXT) (X : Cx) (E : XK) : Prop:=∀ (pins : List (Addr × Obj)) (σ : St) (H : Hp) (s : Shared) (e : Value) (s' : Shared),Inv X pins σ H s -> CX X.stack H s E e s' -> X.xe e s'
section
variable {X : Cx} {CX : CXT} {k : Nat} {f C : Addr} {fd : FuncData} {ps : List Str} {sp : Sp} {dvs : List V} {ds : List Value} {E : XK} {x m : Str} {p pos apos : Pos} {e o : Expr} {es : List Expr} {ta : TE} {t : TA}
theorem zM1 {pins : List (Addr × Obj)} {σ : St} {H : Hp} {s : Shared} {Q : VK} {us : List Value} {vs : List V} (F : FnOk X.prog X.w X.K X.mg X.base CX k f fd ps sp) (hr : Room k X.A) (hb : Binds X.K fd ps ds) (hd : Vals dvs ds) (hx : zCV CX X E)
  (I : Inv X pins σ H s) (r : Vals vs us) (h : sp (vs++dvs) H Q E) : wpAny (model X.prog X.w) X.A (call (.ref f) us) (EP X pins σ Q) X.xe s:=by
 have r2 : Vals (vs++dvs) (us++ds):=r.append hd;have hl : (us++ds).length = ps.length:=by rw [<- r2.length]; exact F.len _ _ _ _ h
 refine yDJ (yCM (F.run X.A X.stack s H ⟨us,[]⟩ (us++ds) (vs++dvs) Q E hr I.env0 (hb s us I.kIn hl) r2 h) λr s' hq => ?_)
 cases r with
 | error e=>exact hx pins σ H s e s' I hq
 | ok fl =>
  cases fl with
  | ret u=>exact I.after hq
  | next=>exact False.elim hq
  | brk=>exact False.elim hq
  | cont=>exact False.elim hq
theorem zA9 (F : FnOk X.prog X.w X.K X.mg X.base CX k f fd ps sp) (hr : Room k X.A) (hg : Gl X x) (hm : X.mg x = some (.ref f)) (hk : PySem.W.keepIn X.K (.ref f) = true) (hb : Binds X.K fd ps ds) (hd : Vals dvs ds) (hx : zCV CX X E)
  (ha : PA X (e::es) t) (hdb : (x == ("__debug__" : Str)) = false:=by decide) (he : starEach (e::es) X.env = (false,eval e X.env)::starEach es X.env:=by rfl) (hpl : (backTo pos (starEach es X.env)).any (·.1) = false:=by rfl) :
  PE X (.Call (.Name x p) (e::es) [] pos) (zH8 sp dvs E t):=by
 intro pins s σ H Q I h;refine yBs (zCY I hg hm ?_ hdb);refine yCp (h₀ := X.base) I.ok.mod.kin hk (thn (ha pos pins s σ H _ I h) λus s1 ⟨vs,H1,I1,r,q⟩=>⟨I1.kIn,?_⟩) he hpl;exact zM1 F hr hb hd hx I1 r q
theorem zBH {pl : Sem Bool} (he : PE X o ta) (c : Cls X.K C) (hm : Meth X.K C m f) (F : FnOk X.prog X.w X.K X.mg X.base CX k f fd ps sp) (hr : Room k X.A) (hb : Binds X.K fd ps ds) (hd : Vals dvs ds) (hx : zCV CX X E) (ha : PA X (e :: es) t)
  (hst : starEach (e::es) X.env = (false,eval e X.env)::starEach es X.env:=by rfl) (hpl : (backTo pos (starEach es X.env)).any (·.1) = false:=by rfl)
  (ht : eval (.Call (.Attribute o m apos) (e :: es) [] pos) X.env = (do
   let ov <- eval o X.env
   standAt apos.atName
   let (f,first) <- holding [ov] (getMethod ov m pl)
   callWith pos f first (backTo pos (starEach (e::es) X.env)) (backToKw pos (keywordEach [] X.env))):=by rfl) :
  PE X (.Call (.Attribute o m apos) (e::es) [] pos) (zYE C m sp dvs E ta t):=by
 intro pins s σ H Q I h;refine yDC (pl:=pl) (thn (he pins s σ H _ I h) λu s1 ⟨x,H1,I1,rx,a,dx,fs,ex,ea,l,q⟩ => ?_) ht;subst ex;obtain rfl : u = Value.ref a:=rx;refine zGM I1 ea c hm l ?_;refine yCp (first:=[.ref a]) (h₀ := X.base) I.ok.mod.kin hm.kp (thn (ha pos pins s1 σ H1 _ I1 q) λus s2 ⟨vs,H2,I2,r,q2⟩=>⟨I2.kIn,?_⟩) hst hpl;exact zM1 (us := .ref a::us) (vs := .ref a::vs) F hr hb hd hx I2 (.cons rfl r) q2
theorem zE6 {pl : Sem Bool} (he : PE X o ta) (c : Cls X.K C) (hm : Meth X.K C m f) (F : FnOk X.prog X.w X.K X.mg X.base CX k f fd ps sp) (hr : Room k X.A) (hb : Binds X.K fd ps ds) (hd : Vals dvs ds) (hx : zCV CX X E)
  (ht : eval (.Call (.Attribute o m apos) [] [] pos) X.env = (do
   let ov <- eval o X.env
   standAt apos.atName
   let (f,first) <- holding [ov] (getMethod ov m pl)
   callWith pos f first (backTo pos (starEach [] X.env)) (backToKw pos (keywordEach [] X.env))):=by rfl) :
  PE X (.Call (.Attribute o m apos) [] [] pos) (zYE C m sp dvs E ta zFB):=by
 intro pins s σ H Q I h;refine yDC (pl:=pl) (thn (he pins s σ H _ I h) λu s1 ⟨x,H1,I1,rx,a,dx,fs,ex,ea,l,q⟩ => ?_) ht;subst ex;obtain rfl : u = Value.ref a:=rx;refine zGM I1 ea c hm l ?_;exact PySem.W.callWith_K0 (first:=[.ref a]) I1.kIn hm.kp (zM1 (us:=[.ref a]) (vs:=[.ref a]) F hr hb hd hx I1 (.cons rfl .nil) q)
structure Mk (K : PySem.W.Frag) (C f : Addr) : Prop where
 makes : PySem.W.makesIn K C = true
 init : PySem.W.findIn K (.ref C) "__init__" = some (some (.ref f))
 fn : PySem.W.isFn K (.ref f) = true
 kp : PySem.W.keepIn K (.ref C) = true
theorem zTX {pins : List (Addr × Obj)} {σ : St} {H : Hp} {s : Shared} {Q : VK} {us : List Value} {vs : List V} (M : Mk X.K C f) (F : FnOk X.prog X.w X.K X.mg X.base CX k f fd ps sp) (hr : Room (k + 1) X.A) (hb : Binds X.K fd ps ds) (hd : Vals dvs ds)
  (hx : zCV CX X E) (I : Inv X pins σ H s) (r : Vals vs us)
  (h : ∀ x dx,H x = none -> H dx = none -> dx≠x -> sp (.ref x::(vs++dvs)) (upd (upd H dx (.own x)) x (.ins C dx [])) (λv H2=>v = .non/\Q (.ref x) H2) E) :
  wpAny (model X.prog X.w) X.A (call (.ref C) us) (EP X pins σ Q) X.xe s:=by
 have hq:=h (s.heap.objs.size + 1) s.heap.objs.size (I.hok.fresh (yCl _)) (I.hok.fresh (yAE _)) (yAi (yCi _));have I2:=Inv.made (C:=C) I;have r2 : Vals (V.ref (s.heap.objs.size + 1)::(vs++dvs)) (Value.ref (s.heap.objs.size + 1)::(us++ds)) := .cons rfl (r.append hd)
 have hl : (Value.ref (s.heap.objs.size + 1) :: us ++ ds).length = ps.length := by
  have e:=r2.length;rw [F.len _ _ _ _ hq] at e;exact e.symm
 refine yDJ (zTZ (f := f) I.kIn M.makes M.init (yAc.mp M.fn) (yCM (F.run _ X.stack _ _ ⟨Value.ref (s.heap.objs.size + 1) :: us, []⟩ (Value.ref (s.heap.objs.size + 1) :: (us ++ ds)) _ _ E (hr.make C us [])
  (I2.env0.make C us []) (hb _ (Value.ref (s.heap.objs.size + 1)::us) I2.kIn hl) r2 hq) λr s' hq' => ?_))
 cases r with
 | error e=>exact hx pins σ _ _ e s' I2 hq'
 | ok fl =>
  cases fl with
  | ret u =>
   obtain ⟨v,H',I3,rv,ev,q3⟩:=I2.after hq';subst ev;exact ⟨rv,⟨V.ref (s.heap.objs.size + 1),H',I3,rfl,q3⟩⟩
  | next=>exact False.elim hq'
  | brk=>exact False.elim hq'
  | cont=>exact False.elim hq'
theorem zHF (M : Mk X.K C f) (F : FnOk X.prog X.w X.K X.mg X.base CX k f fd ps sp) (hr : Room (k + 1) X.A) (hg : Gl X x) (hm : X.mg x = some (.ref C)) (hb : Binds X.K fd ps ds) (hd : Vals dvs ds) (hx : zCV CX X E)
  (ha : PA X (e::es) t) (hdb : (x == ("__debug__" : Str)) = false:=by decide) (he : starEach (e::es) X.env = (false,eval e X.env)::starEach es X.env:=by rfl) (hpl : (backTo pos (starEach es X.env)).any (·.1) = false:=by rfl) :
  PE X (.Call (.Name x p) (e::es) [] pos) (zbP C sp dvs E t):=by
 intro pins s σ H Q I h;refine yBs (zCY I hg hm ?_ hdb);refine yCp (h₀ := X.base) I.ok.mod.kin M.kp (thn (ha pos pins s σ H _ I h) λus s1 ⟨vs,H1,I1,r,q⟩=>⟨I1.kIn,?_⟩) he hpl;exact zTX M F hr hb hd hx I1 r q
end
section
variable {X : Cx} {CX : CXT} {k : Nat} {f C : Addr} {fd : FuncData} {ps ks : List Str} {sp : Sp} {E : XK} {x m : Str} {p pos apos kpos : Pos} {e o : Expr} {es : List Expr} {kws : List Keyword} {te ta : TE} {t tk : TA} {nm : Option Str}
structure KBinds (K : PySem.W.Frag) (fd : FuncData) (ps ks : List Str) (g : List Value -> List Value -> List Value) (gV : List V -> List V -> List V) : Prop where
 to : ∀ (s : Shared) (us ws : List Value),K.In s.heap -> (g us ws).length = ps.length -> BindsTo s fd ⟨us,ks.zip ws⟩ (ps.zip (g us ws))
 rel : ∀ {vs : List V} {us : List Value} {zs : List V} {ws : List Value},Vals vs us -> Vals zs ws -> Vals (gV vs zs) (g us ws)
variable {g : List Value -> List Value -> List Value} {gV : List V -> List V -> List V}
end
structure FnScope (N P : List Str) (sc : Scope) : Prop where
 kind : sc.kind = .function
 co : sc.isCoroutine = false
 gen : sc.isGenerator = false
 nd : N.Nodup
 pre : N.take P.length = P
 par : ∀ x∈P,sc.names.lookup x = some .local \/ sc.names.lookup x = some .cell
 nofree : ∀ y∈sc.names,y.2 ≠ .free
theorem zIX {kindOf : Str -> Option NameKind} {x : Str} : ∀ {binds : List (Str × Value)} {m : Str -> Option Value}, (∀ v, (x, v) ∉ binds) -> bindL kindOf binds m x = m x
 | [],_,_=>rfl
 | (n,v)::r,m,h=>by
  unfold bindL;rw [zIX λw hw=>h w (yAO _ hw)]
  split
  ·have : x ≠ n := by rintro rfl; exact h v yAR
   simp [this]
  ·rfl
theorem zJD {kindOf : Str -> Option NameKind} {x : Str} : ∀ {binds : List (Str × Value)} {m : Str -> Option Value}, (∀ v, (x, v) ∉ binds) -> bindC kindOf binds m x = m x
 | [],_,_=>rfl
 | (n,v)::r,m,h=>by
  unfold bindC;rw [zJD λw hw=>h w (yAO _ hw)]
  split
  ·rfl
  ·have : x ≠ n := by rintro rfl; exact h v yAR
   simp [this]
theorem zI8 {kindOf : Str -> Option NameKind} {x : Str} {v : Value} : ∀ {P : List Str} {vs : List Value} {i : Nat} {m : Str -> Option Value}, P.Nodup -> P[i]? = some x -> vs[i]? = some v -> kindOf x = some .local ->
  bindL kindOf (P.zip vs) m x = some v
 | [],_,_,_,_,h,_,_=>by simp at h
 | _::_,[],_,_,_,_,h,_=>by simp at h
 | p::P,w::vs,0,m,nd,h1,h2,hk=>by
  simp at h1 h2; subst h1; subst h2
  show bindL kindOf ((p,w)::P.zip vs) m p = _;unfold bindL;rw [zIX λv hv=>(yDs.mp nd).1 (List.of_mem_zip hv).1,yAQ hk]
  simp
 | p::P,w::vs,i + 1,m,nd,h1,h2,hk=>by
  show bindL kindOf ((p,w)::P.zip vs) m x = _;unfold bindL;exact zI8 (i:=i) (yDs.mp nd).2 (by simpa using h1) (by simpa using h2) hk
theorem zIW {kindOf : Str -> Option NameKind} {x : Str} {v : Value} : ∀ {P : List Str} {vs : List Value} {i : Nat} {m : Str -> Option Value}, P.Nodup -> P[i]? = some x -> vs[i]? = some v -> kindOf x ≠ some .local ->
  bindC kindOf (P.zip vs) m x = some v
 | [],_,_,_,_,h,_,_=>by simp at h
 | _::_,[],_,_,_,_,h,_=>by simp at h
 | p::P,w::vs,0,m,nd,h1,h2,hk=>by
  simp at h1 h2; subst h1; subst h2
  show bindC kindOf ((p,w)::P.zip vs) m p = _;unfold bindC;rw [zJD λv hv=>(yDs.mp nd).1 (List.of_mem_zip hv).1,yAN hk]
  simp
 | p::P,w::vs,i + 1,m,nd,h1,h2,hk=>by
  show bindC kindOf ((p,w)::P.zip vs) m x = _;unfold bindC;exact zIW (i:=i) (yDs.mp nd).2 (by simpa using h1) (by simpa using h2) hk
noncomputable def zGF (N : List Str) (vs : List V) : St:=vs.map some++List.replicate (N.length - vs.length) none
noncomputable def zQ2 (CX : CXT) (P : Program) (w : World) (K : PySem.W.Frag) (mg : Str -> Option Value) (base : Heap) (N : List Str) (qual : Str) (scope : Scope) (f : Addr) (cd : Value) (A : Around) (outer : List Env) (s : Shared) (H : Hp) (E : XK) : Cx where
 prog:=P
 w:=w
 K:=K
 mg:=mg
 base:=base
 A:=A.deeper (envOfC qual scope s.heap.objs.size f cd)
 N:=N
 s₀ := s
 H₀ := H
 env:=envOfC qual scope s.heap.objs.size f cd
 outer:=outer
 stack:=envOfC qual scope s.heap.objs.size f cd::outer
 ex:=[]
 calm:=true
 fn:=λ_=>true
 pn:=[]
 xe:=λe s'=>wpAny (model P w) (A.deeper (envOfC qual scope s.heap.objs.size f cd)) (leaving (envOfC qual scope s.heap.objs.size f cd) e) (λ_ s''=>CX outer H s E e s'') (λe' s''=>CX outer H s E e' s'') s'
theorem zLL {sc : Scope} {n : Nat} {x : Str} (h : sc.names.lookup x = some .cell) : ∃ c, (cellsFrom n sc.names []).lookup x = some c := by
 have q:=PySem.W.cellsFrom_some sc.names n [] (.inl h);exact yBf.mp q
theorem zQT {CX : CXT} {P : Program} {w : World} {K : PySem.W.Frag} {mg : Str -> Option Value} {base : Heap} {N ps : List Str} {qual : Str} {scope : Scope} {f : Addr} {cd : Value} {A : Around} {outer : List Env} {s s1 : Shared} {H : Hp} {E : XK} {us : List Value} {vs : List V}
  (S : FnScope N ps scope) (hd : A.handled = none) (e0 : Env0 P w K mg base A outer s H) (hl : vs.length = ps.length) (r : Vals vs us)
  (x : InCallC s s.heap.objs.size (bindL (envOfC qual scope s.heap.objs.size f cd).kindOf (ps.zip us) λ_=>none) (cellsFrom (s.heap.objs.size + 1) scope.names []) (bindC (envOfC qual scope s.heap.objs.size f cd).kindOf (ps.zip us) λ_=>none) s1) :
  Inv (zQ2 CX P w K mg base N qual scope f cd A outer s H E) [] (zGF N vs) H s1:=by
 have hpl : ps.length <= N.length:=by have:=congrArg List.length S.pre; rw [yAp] at this; lia
 obtain ⟨h1,tk,rfl,hk⟩:=x.done;have noA : ∀ b : Addr,b∉(zQ2 CX P w K mg base N qual scope f cd A outer s H E).ex:=λb z=>absurd (show b∈([] : List Addr) from z) (by simp)
 refine ⟨⟨e0.mod, S.kind, rfl, rfl, yAE _, fun y z c h1 h2 => ?_, fun y hy => ?_, fun y c _ h => ?_, fun _ => hd, Around.frames_deeper e0.frames, .inr ⟨rfl, rfl⟩, fun b z => absurd z (noA b), e0.bs, e0.bsz, fun b _ _ => noA b, fun b z => absurd z (noA b), e0.funs, e0.frf⟩,
  rfl,e0.bare,Un.kept hk,⟨_,x.toInCall.ns,λi y v h1 h2 h3 => ?_⟩,λy c h=>⟨_,x.cell y c h⟩,e0.hok.fresh (yAE _),λy c h => ?_,λp hp=>absurd (show p∈([] : List (Addr × Obj)) from hp) (by simp),e0.hok.kept hk,?_⟩
 ·exact name_of_addr x.apart (yBe h1) (yBe h2)
 ·have hy : scope.names.lookup y = some .cell \/ scope.names.lookup y = some .free := hy
  rcases hy with hy | hy
  ·exact zLL hy
  ·exact absurd rfl (S.nofree _ (yBe hy))
 ·exact yDq (x.above y c (yBe h))
 ·have hi : i < vs.length := by
   unfold zGF at h2
   by_cases hi : i < vs.length
   ·exact hi
   ·rw [yBP (by simpa using hi)] at h2
    rw [yDh] at h2
    split at h2 <;> cases h2
  have ha : vs[i]? = some v := by
   unfold zGF at h2;rw [yBR (by simpa using hi),yAe] at h2
   cases e : vs[i]? with
   | none=>rw [e] at h2; cases h2
   | some a=>rw [e] at h2; cases h2; rfl
  obtain ⟨u,hu,rv⟩:=r.get ha
  have hp : ps[i]? = some y := by
   rw [<- S.pre,List.getElem?_take_of_lt (by lia)]; exact h1
  have ndP : ps.Nodup:=by rw [<- S.pre]; exact S.nd.sublist (yDc _ _)
  refine ⟨u,rv,?_⟩
  rcases S.par y (yAm hp) with k | k
  ·exact .inl ⟨k,zI8 ndP hp hu k⟩
  ·obtain ⟨c, e⟩ := zLL (n := s.heap.objs.size + 1) k
   refine .inr ⟨.inl k,c,e,?_⟩;have q:=x.cell y c e;rw [zIW ndP hp hu (by show scope.names.lookup y≠_; rw [k]; decide)] at q;exact q
 ·exact e0.hok.fresh (yDq (x.above y c (yBe h)))
 ·unfold zGF
  show _ = N.length;rw [yAX,yAB,List.length_replicate];lia
theorem zZL {CX : CXT} {P : Program} {w : World} {K : PySem.W.Frag} {mg : Str -> Option Value} {base : Heap} {k : Nat} {f : Addr} {name qual : Str} {params : Arguments} {body : List Stmt} {scope : Scope} {dV kV doc pm cdv ct oc : Value} {an od : Option Addr}
  {osl : Array (Option Value)} {N ps : List Str} {sp : Sp} (lk : K.lookup f = some ⟨oc,od,.func (PySem.W.fnOf name qual params body scope dV kV doc pm an cdv ct),osl⟩) (hcd : PySem.W.codeIn K cdv qual = true) (S : FnScope N ps scope)
  (len : ∀ vs H Q E,sp vs H Q E -> vs.length = ps.length)
  (hbody : ∀ (A : Around) (outer : List Env) (s : Shared) (H : Hp) (vs : List V) (Q : VK) (E : XK), Room k (A.deeper (envOfC qual scope s.heap.objs.size f cdv)) -> sp vs H Q E ->
   ∃ t,PSs (zQ2 CX P w K mg base N qual scope f cdv A outer s H E) body t/\t { nx:=λ_ H'=>Q .non H',rt:=Q } (zGF N vs) H) :
  FnOk P w K mg base CX (k + 1) f (PySem.W.fnOf name qual params body scope dV kV doc pm an cdv ct) ps sp:=by
 refine ⟨len,λA outer s H args us vs Q E hr e0 hb r hsp => ?_⟩;have hl:=len _ _ _ _ hsp;have KX : K.In s.heap:=e0.mod.kin.keeps λb o e=>(e0.bs b o e).1;have lim : s.heap.NoLimit:=e0.mod.nolimit.keeps λb o e=>(e0.bs b o e).1
 have hkind : ∀ y ∈ ps.zip us, scope.names.lookup y.1 = some .local \/ (scope.names.lookup y.1 = some .cell /\ ((cellsFrom (s.heap.objs.size + 1) scope.names []).lookup y.1).isSome = true) := fun ⟨n, v⟩ hy => by
  rcases S.par n (List.of_mem_zip hy).1 with q | q
  ·exact .inl q
  ·exact .inr ⟨q,PySem.W.cellsFrom_some _ _ _ (.inl q)⟩
 refine codeAny_call_function hr.depth (KX _ _ lk) rfl S.co S.gen rfl (PySem.W.codeRec_of KX hcd) (hb _ _ _ _ ?_);refine wpAny_newFunctionEnv_cells S.kind hkind λenv he s1 x => ?_;subst he;refine ⟨lim.keeps x.toInCall.keep,codeAny_func ?_⟩;obtain ⟨t,ht,hq⟩:=hbody A outer s H vs Q E (hr.deeper _) hsp;have I : Inv (zQ2 CX P w K mg base N qual scope f cdv A outer s H E) [] (zGF N vs) H s1:=zQT S hr.hd e0 hl r x;refine yBO (ht [] s1 (zGF N vs) H _ I hq) (λfl s' hs => ?_) λe s' hs=>hs
 have fin : ∀ {σ' : St} {H' : Hp} {v : V} {u : Value}, Inv (zQ2 CX P w K mg base N qual scope f cdv A outer s H E) [] σ' H' s' -> RelV v u -> Q v H' -> CE outer P w H s Q u s' :=
  λ{σ' H' v u} J rv q=>⟨v,H',J.os,J.bare,J.base,J.hok,rv,q⟩
 cases fl with
 | ret u =>
  obtain ⟨v,σ',H',J,rv,q⟩:=hs;exact fin J rv q
 | next =>
  obtain ⟨σ',H',J,q⟩:=hs;exact fin (v:=V.non) (u:=Value.none) J rfl q
 | brk =>
  obtain ⟨_,_,_,q⟩:=hs;exact False.elim q
 | cont =>
  obtain ⟨_,_,_,q⟩:=hs;exact False.elim q
section
variable {X : Cx} {x : Str} {p pos : Pos} {e : Expr} {es : List Expr} {t : TA} {id T : String} {r : List V -> Hp -> VK -> Prop}
noncomputable def tCB (r : List V -> Hp -> VK -> Prop) (t : TA) : TE:=λσ H Q=>t σ H λvs H1=>r vs H1 Q
theorem zAA (hc : zCW X (.builtin id) r) (hg : Gl X x) (hm : X.mg x = none) (hv : bootBuiltins x = some (.builtin id)) (ha : PA X (e :: es) t) (hn : x ≠ "__name__" := by decide) (hdb : (x == ("__debug__" : Str)) = false := by decide)
  (he : starEach (e::es) X.env = (false,eval e X.env)::starEach es X.env:=by rfl) (hpl : (backTo pos (starEach es X.env)).any (·.1) = false:=by rfl) : PE X (.Call (.Name x p) (e::es) [] pos) (tCB r t):=by
 intro pins s σ H Q I h;refine yBs (zE2 I hg hm hv ?_ hn hdb);exact yDD (thn (ha pos pins s σ H _ I h) λus s1 ⟨vs,H1,I1,r1,q1⟩=>hc pins s1 σ H1 vs us Q I1 r1 q1) he hpl
theorem zB8 (hc : zCW X (.type T) r) (hg : Gl X x) (hm : X.mg x = none) (hv : bootBuiltins x = some (.type T)) (ha : PA X (e :: es) t) (hn : x ≠ "__name__" := by decide) (hdb : (x == ("__debug__" : Str)) = false := by decide)
  (he : starEach (e::es) X.env = (false,eval e X.env)::starEach es X.env:=by rfl) (hpl : (backTo pos (starEach es X.env)).any (·.1) = false:=by rfl) : PE X (.Call (.Name x p) (e::es) [] pos) (tCB r t):=by
 intro pins s σ H Q I h;refine yBs (zE2 I hg hm hv ?_ hn hdb);exact yCZ (thn (ha pos pins s σ H _ I h) λus s1 ⟨vs,H1,I1,r1,q1⟩=>hc pins s1 σ H1 vs us Q I1 r1 q1) he hpl
end
end L2
namespace HT
open PySem PyProof.Rows
noncomputable def lexLt : List Int -> List Int -> Bool
 | [],[]=>false
 | [],_::_=>true
 | _::_,[]=>false
 | x::xs,y::ys=>if x = y then lexLt xs ys else decide (x < y)
theorem lexLt_cons (x y : Int) (xs ys : List Int) : lexLt (x::xs) (y::ys) = if x = y then lexLt xs ys else decide (x < y):=rfl
theorem zI1 : lexLt [] [] = false:=rfl
theorem zGE (y : Int) (ys : List Int) : lexLt [] (y::ys) = true:=rfl
theorem zGH (x : Int) (xs : List Int) : lexLt (x::xs) [] = false:=rfl
theorem zT4 (A : Around) (s : Shared) (a : Int) (t : Tok) (c : Int) (u : Tok) : ∃ e, SeqAt.EqAt A s (.int a t) (.int c u) e /\ (e = true ↔ a = c) :=
 ⟨(a == c),SeqAt.EqAt.int_int a t c u,by simp⟩
theorem zUB (A : Around) (s : Shared) (a : Int) (t : Tok) (c : Int) (u : Tok) (prog : Program) (w : World) (E : Value -> Shared -> Prop) (Q : Value -> Shared -> Prop) (h : Q (.bool (decide (a < c))) s) :
  wpAny (model prog w) A (richCompare .Lt (.int a t) (.int c u)) Q E s :=
 (PyProof.Rows.lt_int h : wpAny (model prog w) A (compareOp .Lt (.int a t) (.int c u)) Q E s)
section
open PySem.SeqAt
open PySem.AutoSeq1 (wpAny_loadPart')
open PySem.MeetsSeq PySem.MeetsSeq2 PySem.MeetsSeq3
theorem zHJ (l b : Addr) (items items2 : Array Value) (n n2 : Nat) (dd dd2 : Option Addr) (sl sl2 : Array (Option Value)) (ns ms : List Int) (hi : IntsAre items.toList ns) (hj : IntsAre items2.toList ms) :
  Meets (Builtin.«tuple.__lt__» ⟨[.ref l, .ref b], []⟩)
   (fun _ R s => s.heap.get? l = some { cls := .type "tuple", dict := dd, data := .seq items n, slots := sl } /\ s.heap.get? b = some { cls := .type "tuple", dict := dd2, data := .seq items2 n2, slots := sl2 } /\
    R (.ok (.ret (.bool (lexLt ns ms)))) s) :=
 .of_wp λprog w A R s h=>by
  obtain ⟨hp,g,d,tk,os⟩:=s; obtain ⟨hl,hb,h⟩:=h;have f2:=AutoSeq1.sub_tuple_tuple;have z1 : items.size = ns.length:=by rw [<- hi.length]; simp
  have z2 : items2.size = ms.length:=by rw [<- hj.length]; simp
  wp_walk using yCI hl, yCI hb, wpAny_forIn_list _ (fun rest b s' => b.1 = none /\ s' = ⟨hp, g, d, tk, os⟩ /\ ∃ (vs ws : List Value) (ns' ms' : List Int), rest = vs.zip ws /\
   IntsAre vs ns'/\IntsAre ws ms'/\ns'.length + items2.size = ms'.length + items.size/\R (.ok (.ret (.bool (lexLt ns' ms')))) ⟨hp,g,d,tk,os⟩) _
  case turn =>
   rintro ⟨y,x⟩ rest b s' ⟨hb',rfl,vs,ws,ns',ms',hz,hvi,hwi,hlen,hR⟩
   cases hvi with
   | nil=>rw [List.zip_nil_left] at hz; cases hz
   | cons a t hvi' =>
    cases hwi with
    | nil=>rw [List.zip_nil_right] at hz; cases hz
    | cons c u hwi' =>
     rw [List.zip_cons_cons] at hz
     injection hz with hyx hrest
     injection hyx with hy hx
     subst hy hx;rw [lexLt_cons] at hR;simp only [yBA] at hlen;obtain ⟨e,he,hiff⟩:=zT4 A.in1 ⟨hp,g,d,tk,os⟩ a t c u;refine yAD (he prog w _ _ ?_)
     cases e with
     | true =>
      rw [yAQ (hiff.mp rfl)] at hR
      wp_walk
      exact ⟨rfl,rfl,_,_,_,_,hrest,hvi',hwi',by lia,hR⟩
     | false =>
      rw [yAN (λq=>absurd (hiff.mpr q) yAY)] at hR;have hri:=zUB A.in1 ⟨hp,g,d,tk,os⟩ a t c u prog w
      wp_walk using hri
      exact ⟨_,rfl,by simpa using hR⟩
  case fin =>
   rintro ⟨b1,b2⟩ s' ⟨hb',rfl,vs,ws,ns',ms',hz,hvi,hwi,hlen,hR⟩
   simp only at hb';subst hb'
   have hv : lexLt ns' ms' = decide (items.size < items2.size) := by
    cases hvi with
    | nil =>
     cases hwi with
     | nil =>
      simp only [yCs] at hlen;rw [zI1];exact (yAG (by lia)).symm
     | cons c u hw =>
      simp only [yCs,yBA] at hlen;rw [zGE];exact (yAM (by lia)).symm
    | cons a t hv =>
     cases hwi with
     | nil =>
      simp only [yCs,yBA] at hlen;rw [zGH];exact (yAG (by lia)).symm
     | cons c u hw =>
      rw [List.zip_cons_cons] at hz
      cases hz
   rw [hv] at hR
   wp_walk
   exact ⟨_,rfl,by simpa [Builtin.Tuple.tupleCompareSizes] using hR⟩
  case h =>
   exact ⟨rfl,rfl,items.toList,items2.toList,ns,ms,rfl,hi,hj,by lia,h⟩
end
section
variable {prog : Program} {w : World} {A : Around} {E : Value -> Shared -> Prop} {s : Shared}
theorem lt_tupInts {l b : Addr} {items items2 : Array Value} {ns ms : List Int} {Q : Value -> Shared -> Prop} (hl : IsTup s.heap l items) (hb : IsTup s.heap b items2) (hi : IntsAre items.toList ns) (hj : IntsAre items2.toList ms)
  (hu : A.units < cLine) (h : Q (.bool (lexLt ns ms)) s) : wpAny (model prog w) A (compareOp .Lt (.ref l) (.ref b)) Q E s:=by
 obtain ⟨⟨cls,dd,data,sl⟩,ho,hc,n,hd⟩:=id hl;obtain ⟨⟨cls2,dd2,data2,sl2⟩,ho2,hc2,n2,hd2⟩:=id hb;simp only at hc hd hc2 hd2;subst hc hd hc2 hd2
 exact richCompare_meets_room (op := .Lt) ⟨_, ho, rfl⟩ ⟨_, ho2, rfl⟩ PySem.F.slot_tuple_lt PySem.F.entry_tuple_lt (PySem.F.args_tuple_lt_2 _ _) (zHJ l b items items2 n n2 dd dd2 sl sl2 ns ms hi hj)
  ⟨ho,ho2,show Value.bool (lexLt ns ms)≠Value.notImplemented/\Q (.bool (lexLt ns ms)) s from ⟨(λx=>nomatch x),h⟩⟩ hu
theorem cat_tup {t b : Addr} {vs ws : List Value} {Q : Value -> Shared -> Prop} (ht : IsTup s.heap t vs.toArray) (hb : IsTup s.heap b ws.toArray) (hv : vs ≠ [])
  (h1 : ws = [] -> Q (.ref t) s) (h2 : ws≠[] -> Q (.ref s.heap.objs.size) { s with heap:=s.heap.push { cls := .type "tuple",data := .seq (vs++ws).toArray } })
  (hsz : vs.length + ws.length <= sizeLine) : wpAny (model prog w) A (binaryOp .Add (.ref t) (.ref b)) Q E s:=by
 obtain ⟨⟨cls,dd,data,sl⟩,ho,hc,n,hd⟩:=id ht;obtain ⟨⟨cls2,dd2,data2,sl2⟩,ho2,hc2,n2,hd2⟩:=id hb;simp only at hc hd hc2 hd2;subst hc hd hc2 hd2;have e : vs.toArray++ws.toArray = (vs++ws).toArray:=by simp
 by_cases hw : ws = []
 ·exact concat_meets ⟨_, ho, rfl⟩ ⟨_, ho2, rfl⟩ noFill_tuple_add seq_tuple_add PySem.F.slot_tuple_add PySem.F.entry_tuple_add (PySem.F.args_tuple_add_2 _ _)
   (tuple_addW1 t b vs.toArray ws.toArray n n2 dd dd2 sl sl2 (by simpa using hv) (by simp [hw])) ⟨ho,ho2,h1 hw⟩
 ·refine concat_meets ⟨_, ho, rfl⟩ ⟨_, ho2, rfl⟩ noFill_tuple_add seq_tuple_add PySem.F.slot_tuple_add PySem.F.entry_tuple_add (PySem.F.args_tuple_add_2 _ _)
   (tuple_addW2 t b vs.toArray ws.toArray n n2 dd dd2 sl sl2 (by simpa using hv) (by simpa using hw) (by rw [yAH,yAH]; exact hsz)) ⟨ho,ho2,?_⟩
  rw [e];exact h2 hw
noncomputable def sIx (n d : Nat) : Option Int -> Nat
 | none=>d
 | some v=>if v < 0 then (v + (n : Int)).toNat else min v.toNat n
end
end HT
namespace L2
open PySem PySem.Spec PyProof.Rows
noncomputable abbrev TO:=St -> Hp -> (Option Int -> Hp -> Prop) -> Prop
noncomputable def PO (X : Cx) (e : Option Expr) (t : TO) : Prop :=
 ∀ (pins : List (Addr × Obj)) (s : Shared) (σ : St) (H : Hp) (Q : Option Int -> Hp -> Prop),Inv X pins σ H s -> t σ H Q ->
  wpAny (model X.prog X.w) X.A (evalPart e X.env) (λu s'=>∃ o H',Inv X pins σ H' s'/\IsPart u o/\Q o H') X.xe s
noncomputable def zQ4 : TO:=λ_ H Q=>Q none H
noncomputable def zPY (t : TE) : TO:=λσ H Q=>t σ H λx H1=>∃ i,x = .int i/\Q (some i) H1
theorem zN1 {ns : List Int} : ∀ {us : List Value}, Vals (ns.map V.int) us -> IntsAre us ns := by
 induction ns with
 | nil=>intro us r; rw [List.map_nil] at r; cases r; exact .nil
 | cons n ns ih =>
  intro us r;rw [yAl] at r
  cases r with
  | cons r1 r2 =>
   obtain ⟨t,e⟩:=r1;subst e;exact .cons n t (ih r2)
section
variable {X : Cx} {e : Expr} {te : TE} {lo hi : Option Expr} {tl th : TO} {pos p2 : Pos}
theorem zB2 : PO X none zQ4 := by
 intro pins s σ H Q I h;rw [evalPart_none];exact yAW ⟨none,H,I,.none,h⟩
theorem zB5 (h : PE X e te) : PO X (some e) (zPY te) := by
 intro pins s σ H Q I hw;rw [evalPart_some];refine thn (h pins s σ H _ I hw) λu s1 ⟨x,H1,I1,r1,q1⟩ => ?_;obtain ⟨i,rfl,q⟩:=q1;obtain ⟨t,rfl⟩:=r1;exact ⟨some i,H1,I1,.int i t,q⟩
noncomputable def SlR (X : Cx) (r : V -> Option Int -> Option Int -> Hp -> VK -> Prop) : Prop :=
 ∀ (pins : List (Addr × Obj)) (s : Shared) (σ : St) (H : Hp) (x : V) (v vl vu : Value) (lo hi : Option Int) (sl : Addr) (Q : VK),Inv X pins σ H s -> RelV x v -> s.heap.IsSliceOf sl vl vu .none -> IsPart vl lo -> IsPart vu hi -> r x lo hi H Q ->
  ∃ T id,typeLookup (.type T) "__getitem__" = pure (some (.builtin id))/\s.TypeIs v T/\wpAny (model X.prog X.w) X.A (getItem v (.ref sl)) (EP X pins σ Q) X.xe s
noncomputable def tSl (r : V -> Option Int -> Option Int -> Hp -> VK -> Prop) (te : TE) (tl th : TO) : TE:=λσ H Q=>te σ H λx H1=>tl σ H1 λl H2=>th σ H2 λu H3=>r x l u H3 Q
theorem zAU {r : V -> Option Int -> Option Int -> Hp -> VK -> Prop} (hr : SlR X r) (he : PE X e te) (hl : PO X lo tl) (hu : PO X hi th) : PE X (.Subscript e (.Slice lo hi none p2) pos) (tSl r te tl th) := by
 intro pins s σ H Q I h;refine Subscript_ (thn (he pins s σ H _ I h) λv s1 ⟨x,H1,I1,r1,q1⟩ => ?_);refine wpAny_Slice (thn (hl pins s1 σ H1 _ I1 q1) λvl s2 ⟨l,H2,I2,pl,q2⟩=>thn (hu pins s2 σ H2 _ I2 q2) λvu s3 ⟨u,H3,I3,pu,q3⟩ => ?_);rw [evalPart_none];refine yAW ?_;have I4 : Inv X pins σ H3 { s3 with heap:=s3.heap.push { cls := .type "slice",data := .fields #[vl,vu,.none] } }:=I3.kept (t':=s3.toks) λb ob q=>yAC _ q;obtain ⟨T,id,hT,ht,hg⟩:=hr pins { s3 with heap:=s3.heap.push { cls := .type "slice",data := .fields #[vl,vu,.none] } } σ H3 x v vl vu l u s3.heap.objs.size Q I4 r1 (Heap.IsSliceOf.new ..) pl pu q3;show wpAny (model X.prog X.w) X.A (subscriptTail e (.Slice lo hi none p2) v (.ref s3.heap.objs.size)) (EP X pins σ Q) X.xe { s3 with heap:=s3.heap.push { cls := .type "slice",data := .fields #[vl,vu,.none] } };exact tail_any (ops:=[.ref s3.heap.objs.size,v]) ht hT hg (by with_unfolding_all rfl)
noncomputable def zQ3 (xs : List V) (lo hi : Option Int) : List V:=(xs.drop (HT.sIx xs.length 0 lo)).take (HT.sIx xs.length xs.length hi - HT.sIx xs.length 0 lo)
theorem zFJ (xs : List V) (lo hi : Option Int) : (zQ3 xs lo hi).length <= xs.length := by
 unfold zQ3;rw [yAp,yDk];lia
noncomputable def zZU (K : PySem.W.Frag) : R2 := fun x y H Q => ∃ a b xs ys, x = .ref a /\ y = .ref b /\ SqT K H a xs /\ SqT K H b ys /\ xs ≠ [] /\ xs.length + ys.length <= sizeLine /\
 (ys = [] -> Q (.ref a) H)/\(ys≠[] -> ∀ p,H p = none -> Q (.ref p) (upd H p (.tup (xs++ys))))
theorem Vals.nil_iff {xs : List V} {us : List Value} (r : Vals xs us) : us = [] ↔ xs = [] := by
 cases r with
 | nil=>simp
 | cons _ _=>simp
theorem zWA : OpR X (binaryOp .Add) (zZU X.K) := by
 intro pins s σ H x y v u Q I rx ry h;obtain ⟨a,b,xs,ys,rfl,rfl,ha,hb,hx,hz,q1,q2⟩:=h
 cases rx
 cases ry
 obtain ⟨its,r1,p1,_⟩:=I.tuple ha;obtain ⟨its2,r2,p2,_⟩:=I.tuple hb;refine HT.cat_tup p1 p2 (λz=>hx (r1.nil_iff.mp z)) (λz=>⟨.ref a,H,I,rfl,q1 (r2.nil_iff.mp z)⟩) (λz => ?_) (by rw [<- r1.length,<- r2.length]; exact hz);refine ⟨.ref s.heap.objs.size,_,I.laid (t':=s.toks) (o := .tup (xs++ys)) (λb ob q=>yAC _ q) (yAE _) ?_,rfl,q2 (λw=>z (r2.nil_iff.mpr w)) _ (I.hok.fresh (yAE _))⟩;exact ⟨by rw [yAX]; exact hz,_,r1.append r2,IsTup.new _ _⟩
end
noncomputable def ixN (n : Nat) (i : Int) : Option Nat:=if 0 <= i then (if i < n then some i.toNat else none) else if -(n : Int) <= i then some (i + n).toNat else none
noncomputable def atI {α : Type} (xs : List α) (i : Int) : Option α := (ixN xs.length i).bind λj=>xs[j]?
theorem zQN {n : Nat} {i : Int} {j : Nat} (h : ixN n i = some j) : seqIndex? i n = some j /\ j < n /\ -(n : Int) <= i /\ i < n := by
 unfold ixN at h
 by_cases h0 : 0 <= i
 ·rw [yAQ h0] at h
  by_cases h1 : i < n
  ·rw [yAQ h1] at h
   have e : i.toNat = j:=Option.some.inj h;exact ⟨by rw [seqIndex_of h0 h1,e],by lia,by lia,h1⟩
  ·rw [yAN h1] at h; cases h
 ·rw [yAN h0] at h
  by_cases h1 : -(n : Int) <= i
  ·rw [yAQ h1] at h
   have e : (i + n).toNat = j:=Option.some.inj h;exact ⟨by rw [seqIndex_neg (by lia) h1,e],by lia,h1,by lia⟩
  ·rw [yAN h1] at h; cases h
theorem zKG {α : Type} {xs : List α} {i : Int} {v : α} (h : atI xs i = some v) : ∃ j, seqIndex? i xs.length = some j /\ xs[j]? = some v /\ j < xs.length /\ -(xs.length : Int) <= i /\ i < xs.length := by
 unfold atI at h
 cases e : ixN xs.length i with
 | none=>rw [e] at h; cases h
 | some j =>
  rw [e] at h;obtain ⟨h1,h2,h3,h4⟩:=zQN e;exact ⟨j,h1,h,h2,h3,h4⟩
theorem zFT {α : Type} {xs : List α} {j : Nat} {v : α} (h : xs[j]? = some v) : atI xs (j : Int) = some v := by
 have hj : j < xs.length:=(yAI.mp h).1
 have e : ixN xs.length (j : Int) = some j := by
  unfold ixN;rw [yAQ (by lia),yAQ (by lia)]; simp
 unfold atI; rw [e]; exact h
noncomputable def zP5 (b : Expr) : Prop:=∀ o i,subscripted b false o i = operate [o,i] (getItem o i)
noncomputable def IxR (X : Cx) (r : R2) : Prop :=
 ∀ (value slice : Expr) (pins : List (Addr × Obj)) (s : Shared) (σ : St) (H : Hp) (x y : V) (v u : Value) (Q : VK),Inv X pins σ H s -> RelV x v -> RelV y u -> r x y H Q ->
  subscripted slice false v u = operate [v,u] (getItem v u) -> wpAny (model X.prog X.w) X.A (subscriptTail value slice v u) (EP X pins σ Q) X.xe s
noncomputable def MtR (X : Cx) (id : String) (r : V -> List V -> Hp -> VK -> Prop) : Prop :=
 ∀ (pins : List (Addr × Obj)) (s : Shared) (σ : St) (H : Hp) (x : V) (xs : List V) (v : Value) (us : List Value) (Q : VK),Inv X pins σ H s -> RelV x v -> Vals xs us -> r x xs H Q ->
  wpAny (model X.prog X.w) X.A (call (.builtin id) (v::us)) (EP X pins σ Q) X.xe s
section
variable {X : Cx} {a b : Expr} {ta tb : TE} {pos : Pos}
theorem zBQ {r : R2} (hr : IxR X r) (ha : PE X a ta) (hb : PE X b tb) (hs : zP5 b) : PE X (.Subscript a b pos) (tOp r ta tb) := by
 intro pins s σ H Q I h;exact Subscript_ (zb0 ha hb I h λv u s2 x y H2 I2 rx ry q=>hr a b pins s2 σ H2 x y v u Q I2 rx ry q (hs _ _))
noncomputable def zaW (K : PySem.W.Frag) : R2:=λx y H Q=>∃ p xs i v,x = .ref p/\y = .int i/\SqL K H p xs/\atI xs i = some v/\Q v H
noncomputable def zbU (K : PySem.W.Frag) : R2:=λx y H Q=>∃ p xs i v,x = .ref p/\y = .int i/\SqT K H p xs/\atI xs i = some v/\Q v H
noncomputable def zcZ : R2:=λx y H Q=>∃ z i c,x = .str z/\y = .int i/\z.length <= sizeLine/\atI z.cps.toList i = some c/\Q (.str ⟨#[c]⟩) H
theorem zB6 : IxR X (zaW X.K) := by
 intro value slice pins s σ H x y v u Q I rx ry h hs;obtain ⟨p,xs,i,z,rfl,rfl,hq,he,q⟩:=h
 cases rx
 obtain ⟨t,rfl⟩:=ry;obtain ⟨its,r,pl,hz⟩:=I.list hq;obtain ⟨j,h1,h2,h3,h4,h5⟩:=zKG he;obtain ⟨w,ew,rw'⟩:=r.get h2;have hl:=r.length;have hn:=zG6;have fin : EP X pins σ Q w s:=⟨z,H,I,rw',q⟩
 by_cases h0 : 0 <= i
 ·have hj : i.toNat = j := by
   rw [seqIndex_of h0 h5] at h1;exact Option.some.inj h1
  exact item_listR pl.isList h0 (by lia) (by rw [hj]; simpa using ew) fin hs
 ·have hj : (i + (its.toArray.size : Int)).toNat = j := by
   rw [seqIndex_neg (by lia) h4] at h1;rw [yAH,<- hl];exact Option.some.inj h1
  exact subscriptTail_builtinR (x := w) pl.isList.typeIs slot_list_getitem.lookup
   (wpAny_getItem_list_neg (Q:=λr s'=>r = w/\EP X pins σ Q r s') pl.isList (by lia) (by rw [yAH] <;> lia) (by lia) (by rw [hj]; simpa using ew) ⟨rfl,fin⟩) hs
theorem zF0 : IxR X (zbU X.K) := by
 intro value slice pins s σ H x y v u Q I rx ry h hs;obtain ⟨p,xs,i,z,rfl,rfl,hq,he,q⟩:=h
 cases rx
 obtain ⟨t,rfl⟩:=ry;obtain ⟨its,r,pl,hz⟩:=I.tuple hq;obtain ⟨j,h1,h2,h3,h4,h5⟩:=zKG he;obtain ⟨w,ew,rw'⟩:=r.get h2;have hl:=r.length;have hn:=zG6;have fin : EP X pins σ Q w s:=⟨z,H,I,rw',q⟩
 exact subscriptTail_builtinR (x := w) pl.typeIs slot_tuple_getitem.lookup
  (getItem_tuple (j:=j) (Q:=λr s'=>r = w/\EP X pins σ Q r s') pl (by lia) (by lia) (by rw [yAH,<- hl]; exact h1) (by simpa using ew) ⟨rfl,fin⟩) hs
theorem zYT : IxR X zcZ := by
 intro value slice pins s σ H x y v u Q I rx ry h hs;obtain ⟨z,i,c,rfl,rfl,hz,he,q⟩:=h;obtain ⟨t,rfl⟩:=rx;obtain ⟨t',rfl⟩:=ry;obtain ⟨j,h1,h2,h3,h4,h5⟩:=zKG he;have hl : z.cps.toList.length = z.length:=by simp [Str.length]
 rw [hl] at h1 h4 h5;have hn:=zG6
 exact tail_any (typeIs_str s z t) slot_str_getitem.lookup (getItem_str (c := c) (by
  have e1 : decide (i < -(2 ^ 63 : Int)) = false:=yAG (by lia);have e2 : decide (i >= 2 ^ 63) = false:=yAG (by lia);rw [e1,e2,Bool.or_false]) (by rw [h1]; simpa using h2) ⟨.str ⟨#[c]⟩,H,I.tok _,⟨_,rfl⟩,q⟩) hs
theorem zN2 (its : List Value) (n j : Nat) (u : Value) : Obj.mapSeq (·.setIfInBounds j u) { cls := .type "list", data := .seq its.toArray n } = { cls := .type "list", data := .seq (its.set j u).toArray n } := by
 simp [Obj.mapSeq]
theorem Inv.lst {pins : List (Addr × Obj)} {σ : St} {H : Hp} {s : Shared} {p : Addr} {xs : List V} (I : Inv X pins σ H s) (h : H p = some (.lst xs)) :
  ∃ (its : List Value) (n : Nat),Vals xs its/\s.heap.get? p = some { cls := .type "list",data := .seq its.toArray n }/\xs.length <= sizeLine:=by
 obtain ⟨z,its,n,r,e⟩:=I.hok p _ h;exact ⟨its,n,r,e,z⟩
theorem Inv.lstUpd {pins : List (Addr × Obj)} {σ : St} {H : Hp} {s : Shared} {p : Addr} {xs ys : List V} {its its' : List Value} {n n' : Nat} {f : Obj -> Obj} (I : Inv X pins σ H s) (h : H p = some (.lst xs))
  (ho : s.heap.get? p = some { cls := .type "list",data := .seq its.toArray n }) (hf : f { cls := .type "list",data := .seq its.toArray n } = { cls := .type "list",data := .seq its'.toArray n' }) (r : Vals ys its') (hz : ys.length <= sizeLine) (t : Nat) :
  Inv X pins σ (upd H p (.lst ys)) { s with heap:=s.heap.update p f,toks:=t }:=by
 have e : (s.heap.update p f).get? p = some { cls := .type "list", data := .seq its'.toArray n' } := by
  rw [yCF f ho (by rw [hf] <;> rfl),hf]
 refine I.write (x:=p) (e:=p) (by rw [h]; exact trivial) (.inl rfl) (λb u hb q=>(yBK _ _ (Ne.symm hb)).trans q) ⟨_,e⟩ ?_;exact ⟨hz,its',n',r,e⟩
noncomputable def zbG : V -> V -> V -> Hp -> (Hp -> Prop) -> Prop:=λo i v H Q=>∃ p xs k j,o = .ref p/\i = .int k/\H p = some (.lst xs)/\ixN xs.length k = some j/\Q (upd H p (.lst (xs.set j v)))
theorem zF9 : zc8 X zbG := by
 intro pins s σ H o i v ov iv u Q I ro ri rv h;obtain ⟨p,xs,k,j,rfl,rfl,hp,hj,q⟩:=h
 cases ro
 obtain ⟨t,rfl⟩:=ri;obtain ⟨its,n,r,ho,hz⟩:=I.lst hp;obtain ⟨h1,h2,h3,h4⟩:=zQN hj;have hl:=r.length;have hn:=zG6
 have I' : Inv X pins σ (upd H p (.lst (xs.set j v))) { s with heap := s.heap.update p (Obj.mapSeq (·.setIfInBounds j u)) } :=
  I.lstUpd hp ho (zN2 its n j u) (r.set rv j) (by rw [List.length_set]; exact hz) s.toks
 by_cases h0 : 0 <= k
 ·have hk : k.toNat = j := by
   rw [seqIndex_of h0 h4] at h1;exact Option.some.inj h1
  exact PySem.W.ki_setAt ho h0 (by lia) (by rw [yAH,<- hl]; exact h4) (by rw [hk]; exact ⟨_,I',q⟩)
 ·have hk : (k + (its.toArray.size : Int)).toNat = j := by
   rw [seqIndex_neg (by lia) h3] at h1;rw [yAH,<- hl];exact Option.some.inj h1
  exact PySem.W.ki_setBack ho (by lia) (by rw [yAH,<- hl]; exact h3) (by lia) (by rw [hk]; exact ⟨_,I',q⟩)
theorem zJJ (lo hi : Option Int) (n : Nat) : (sliceBounds lo hi none n).1 = ((HT.sIx n 0 lo : Nat) : Int) /\ (sliceBounds lo hi none n).2.1 = ((HT.sIx n n hi : Nat) : Int) /\ (sliceBounds lo hi none n).2.2 = 1 := by
 refine ⟨?_,?_,rfl⟩
 ·cases lo with
  | none=>simp [sliceBounds,HT.sIx]
  | some i =>
   simp only [sliceBounds,HT.sIx,Option.getD_none,show (1 : Int) > 0 by decide,if_true]
   by_cases h : i < 0
   ·simp only [h,if_true] <;> lia
   ·simp only [h,yCc] <;> lia
 ·cases hi with
  | none=>simp [sliceBounds,HT.sIx]
  | some i =>
   simp only [sliceBounds,HT.sIx,Option.getD_none,show (1 : Int) > 0 by decide,if_true]
   by_cases h : i < 0
   ·simp only [h,if_true] <;> lia
   ·simp only [h,yCc] <;> lia
theorem zI3 (its : List Value) (lo hi : Option Int) : slicePick its.toArray lo hi none = ((its.drop (HT.sIx its.length 0 lo)).take (HT.sIx its.length its.length hi - HT.sIx its.length 0 lo)).toArray := by
 obtain ⟨h1,h2,h3⟩:=zJJ lo hi its.toArray.size;unfold slicePick;rw [h1,h2,h3];simp only [sliceRange_one,pick_run,yAH] <;> rfl
noncomputable def zc2 (K : PySem.W.Frag) : V -> Option Int -> Option Int -> Hp -> VK -> Prop:=λx lo hi H Q=>∃ a xs,x = .ref a/\SqL K H a xs/\∀ p,H p = none -> Q (.ref p) (upd H p (.lst (zQ3 xs lo hi)))
theorem zBD : SlR X (zc2 X.K) := by
 intro pins s σ H x v vl vu lo hi sl Q I rx hs pl pu h;obtain ⟨a,xs,rfl,hx,q⟩:=h
 cases rx
 obtain ⟨its,r,ht,hz⟩:=I.list hx;have hlen:=r.length;refine ⟨"list",_,slot_list_getitem.lookup,ht.isList.typeIs,?_⟩;refine wpAny_getItem_list_slice ht.isList hs pl pu .none (by simp) ?_ (by rw [yAH] <;> lia);rw [zI3,<- hlen];refine ⟨.ref s.heap.objs.size,_,I.laid (t':=s.toks) (o := .lst (zQ3 xs lo hi)) (λb ob q=>yAC _ q) (yAE _) ?_,rfl,q _ (I.hok.fresh (yAE _))⟩;exact ⟨yAk (zFJ xs lo hi) hz,_,0,(r.drop (HT.sIx xs.length 0 lo)).take (HT.sIx xs.length xs.length hi - HT.sIx xs.length 0 lo),yAS _ rfl⟩
noncomputable def zDW : V -> Bool
 | .non=>true
 | .bl _=>true
 | .int _=>true
 | .str _=>true
 | _=>false
noncomputable def eqV : V -> V -> Bool
 | .non,.non=>true
 | .bl a,.bl b=>a == b
 | .bl a,.int b=>(if a then 1 else 0) == b
 | .int a,.bl b=>a == (if b then 1 else 0)
 | .int a,.int b=>a == b
 | .str a,.str b=>a == b
 | _,_=>false
theorem zZ2 {A : Around} {s : Shared} {y x : V} {u v : Value} (ry : RelV y u) (rx : RelV x v) (fy : zDW y = true) (fx : zDW x = true) : SeqAt.EqAt A s u v (eqV y x) := by
 cases y with
 | non =>
  cases ry
  cases x with
  | non=>cases rx; exact SeqAt.EqAt.same _
  | bl b=>cases rx; exact SeqAt.EqAt.none_bool b
  | int b=>obtain ⟨t,rfl⟩:=rx; exact SeqAt.EqAt.none_int b t
  | str b=>obtain ⟨t,rfl⟩:=rx; exact SeqAt.EqAt.none_str b t
  | _=>exact absurd (show false = true from fx) yAY
 | bl a =>
  cases ry
  cases x with
  | non=>cases rx; exact SeqAt.EqAt.bool_none a
  | bl b=>cases rx; exact SeqAt.EqAt.bool_bool a b
  | int b=>obtain ⟨t,rfl⟩:=rx; exact SeqAt.EqAt.bool_int a b t
  | str b=>obtain ⟨t,rfl⟩:=rx; exact SeqAt.EqAt.bool_str a b t
  | _=>exact absurd (show false = true from fx) yAY
 | int a =>
  obtain ⟨t',rfl⟩:=ry
  cases x with
  | non=>cases rx; exact SeqAt.EqAt.int_none a t'
  | bl b=>cases rx; exact SeqAt.EqAt.int_bool a t' b
  | int b=>obtain ⟨t,rfl⟩:=rx; exact SeqAt.EqAt.int_int a t' b t
  | str b=>obtain ⟨t,rfl⟩:=rx; exact SeqAt.EqAt.int_str a t' b t
  | _=>exact absurd (show false = true from fx) yAY
 | str a =>
  obtain ⟨t',rfl⟩:=ry
  cases x with
  | non=>cases rx; exact SeqAt.EqAt.str_none a t'
  | bl b=>cases rx; exact SeqAt.EqAt.str_bool a t' b
  | int b=>obtain ⟨t,rfl⟩:=rx; exact SeqAt.EqAt.str_int a t' b t
  | str b=>obtain ⟨t,rfl⟩:=rx; exact SeqAt.EqAt.str_str a t' b t
  | _=>exact absurd (show false = true from fx) yAY
 | _=>exact absurd (show false = true from fy) yAY
noncomputable def eqU (x : V) (u : Value) : Bool := match u with
 | .none=>eqV .non x
 | .bool b=>eqV (.bl b) x
 | .int i _=>eqV (.int i) x
 | .str z _=>eqV (.str z) x
 | _=>false
theorem zO5 {x y : V} {u : Value} (r : RelV y u) (f : zDW y = true) : eqU x u = eqV y x := by
 cases y with
 | non=>cases r; rfl
 | bl b=>cases r; rfl
 | int i=>obtain ⟨t,rfl⟩:=r; rfl
 | str z=>obtain ⟨t,rfl⟩:=r; rfl
 | _=>exact absurd (show false = true from f) yAY
theorem zG7 {x : V} : ∀ {xs : List V} {us : List Value}, Vals xs us -> xs.all zDW = true -> us.any (eqU x) = xs.any fun y => eqV y x
 | _,_,.nil,_=>rfl
 | y::xs,u::us,.cons r t,f=>by
  rw [List.all_cons,yAd] at f;rw [yDi,yDi,zO5 r f.1,zG7 t f.2]
theorem zDH {A : Around} {s : Shared} {x : V} {v : Value} (rx : RelV x v) (fx : zDW x = true) : ∀ {xs : List V} {us : List Value}, Vals xs us -> xs.all zDW = true -> ∀ u ∈ us, SeqAt.EqAt A s u v (eqU x u)
 | _,_,.nil,_=>λu hu=>by cases hu
 | y::xs,u::us,.cons r t,f=>λu' hu=>by
  rw [List.all_cons,yAd] at f
  rcases yAb.mp hu with rfl | hu
  ·rw [zO5 r f.1]; exact zZ2 r rx f.1 fx
  ·exact zDH rx fx t f.2 u' hu
noncomputable def inV (x : V) (xs : List V) : Bool:=xs.any λy=>eqV y x
noncomputable def rIn (K : PySem.W.Frag) (neg : Bool) : R2:=λx y H Q=>∃ p xs,y = .ref p/\(SqL K H p xs \/ SqT K H p xs)/\zDW x = true/\xs.all zDW = true/\Q (.bl (if neg then !inV x xs else inV x xs)) H
theorem zFH : OpR X (compareOp .In) (rIn X.K false) := by
 intro pins s σ H x y v u Q I rx ry h;obtain ⟨p,xs,rfl,hq,fx,fs,q⟩:=h
 cases ry
 rcases hq with hq | hq
 ·obtain ⟨its, r, pl, hz⟩ := I.list hq
  refine SeqAt.in_listAt (eqU x) pl.isList (λw hw=>zDH rx fx r fs w (by simpa using hw)) ⟨.bl _,H,I,rfl,?_⟩;rw [show its.toArray.any (eqU x) = its.any (eqU x) by simp,zG7 r fs];exact q
 ·obtain ⟨its, r, pl, hz⟩ := I.tuple hq
  refine SeqAt.in_tupleAt (eqU x) pl (λw hw=>zDH rx fx r fs w (by simpa using hw)) ⟨.bl _,H,I,rfl,?_⟩;rw [show its.toArray.any (eqU x) = its.any (eqU x) by simp,zG7 r fs];exact q
theorem zD0 : OpR X (compareOp .NotIn) (rIn X.K true) := by
 intro pins s σ H x y v u Q I rx ry h;obtain ⟨p,xs,rfl,hq,fx,fs,q⟩:=h
 cases ry
 rcases hq with hq | hq
 ·obtain ⟨its, r, pl, hz⟩ := I.list hq
  refine SeqAt.notIn_listAt (eqU x) pl.isList (λw hw=>zDH rx fx r fs w (by simpa using hw)) ⟨.bl _,H,I,rfl,?_⟩;rw [show its.toArray.any (eqU x) = its.any (eqU x) by simp,zG7 r fs];exact q
 ·obtain ⟨its, r, pl, hz⟩ := I.tuple hq
  refine SeqAt.notIn_tupleAt (eqU x) pl (λw hw=>zDH rx fx r fs w (by simpa using hw)) ⟨.bl _,H,I,rfl,?_⟩;rw [show its.toArray.any (eqU x) = its.any (eqU x) by simp,zG7 r fs];exact q
theorem zAF : zCW X (.builtin "len") (fun xs H Q => ∃ p ys, xs = [.ref p] /\ (SqL X.K H p ys \/ SqT X.K H p ys) /\ Q (.int ys.length) H) := by
 intro pins s σ H xs us Q I r h;obtain ⟨p,ys,rfl,hq,q⟩:=h;obtain ⟨u,rfl,rx⟩:=zDN r
 cases rx
 have hn:=zG6
 rcases hq with hq | hq
 ·obtain ⟨its, r', pl, hz⟩ := I.list hq
  have hlen:=r'.length;exact Calls.call_len_list pl.isList (by simp only [yAH] <;> lia) ⟨.int ys.length,H,I.tok _,⟨s.toks + 1,by rw [yAH,hlen]⟩,q⟩
 ·obtain ⟨its, r', pl, hz⟩ := I.tuple hq
  have hlen:=r'.length;exact len_tuple pl (by simp only [yAH] <;> lia) ⟨.int ys.length,H,I.tok _,⟨s.toks + 1,by rw [yAH,hlen]⟩,q⟩
theorem zEU : zCW X (.builtin "len") (fun xs H Q => ∃ z, xs = [.str z] /\ z.length <= sizeLine /\ Q (.int z.length) H) := by
 intro pins s σ H xs us Q I r h;obtain ⟨z,rfl,hz,q⟩:=h;obtain ⟨u,rfl,t,rfl⟩:=zDN r;have hn:=zG6;exact len_str (by lia) ⟨.int z.length,H,I.tok _,⟨_,rfl⟩,q⟩
theorem zD3 : zCW X (.type "list") (fun xs H Q => ∃ p ys, xs = [.ref p] /\ (SqL X.K H p ys \/ SqT X.K H p ys) /\ ∀ l, H l = none -> Q (.ref l) (upd H l (.lst ys))) := by
 intro pins s σ H xs us Q I r h;obtain ⟨p,ys,rfl,hq,q⟩:=h;obtain ⟨u,rfl,rx⟩:=zDN r
 cases rx
 have fin : ∀ (its : List Value), Vals ys its -> ys.length <= sizeLine -> ∀ (h' : Heap) (c' : Nat), (∀ b o', s.heap.get? b = some o' -> h'.get? b = some o') ->
   h'.get? s.heap.objs.size = some { cls := .type "list",dict:=none,data := .seq its.toArray c',slots := #[] } -> EP X pins σ Q (.ref s.heap.objs.size) { s with heap:=h' }:=λits r' hz h' c' kp e =>
  ⟨.ref s.heap.objs.size,_,I.laid (t':=s.toks) kp (yAE _) (show ObjOk X.prog X.w _ h' _ (.lst ys) from ⟨hz,its,c',r',e⟩),rfl,q _ (I.hok.fresh (yAE _))⟩
 rcases hq with hq | hq
 ·obtain ⟨its, r', pl, hz⟩ := I.list hq
  have hlen:=r'.length;obtain ⟨o,ho,hc,n,hd⟩:=pl.isList;exact call_list_seq p (.inl rfl) ho hc hd (λh' c' kp e=>fin its r' hz h' c' kp e) (by simp only [yAH] <;> lia)
 ·obtain ⟨its, r', pl, hz⟩ := I.tuple hq
  have hlen:=r'.length;obtain ⟨o,ho,hc,n,hd⟩:=pl;exact call_list_seq p (.inr rfl) ho hc hd (λh' c' kp e=>fin its r' hz h' c' kp e) (by simp only [yAH] <;> lia)
theorem zB0 : zCW X (.type "tuple") (fun xs H Q => ∃ p ys, xs = [.ref p] /\ ((SqL X.K H p ys /\ ∀ l, H l = none -> Q (.ref l) (upd H l (.tup ys))) \/ (SqT X.K H p ys /\ Q (.ref p) H))) := by
 intro pins s σ H xs us Q I r h;obtain ⟨p,ys,rfl,h⟩:=h;obtain ⟨u,rfl,rx⟩:=zDN r
 cases rx
 rcases h with ⟨hq,q⟩ | ⟨hq,q⟩
 ·obtain ⟨its, r', pl, hz⟩ := I.list hq
  have hlen:=r'.length;refine call_tuple_list pl.isList (λh' kp => ?_) (by simp only [yAH] <;> lia);have I1 : Inv X pins σ H { s with heap:=h' }:=I.kept (t':=s.toks) kp
  have I2 : Inv X pins σ (upd H h'.objs.size (.tup ys)) { s with heap := h'.push { cls := .type "tuple", data := .seq its.toArray } } :=
   I1.laid (t':=s.toks) (λb o e=>yAC _ e) (yAE _) (show ObjOk X.prog X.w _ _ _ (.tup ys) from ⟨hz,its,r',IsTup.new _ _⟩)
  exact ⟨.ref h'.objs.size,_,I2,rfl,q _ (I1.hok.fresh (yAE _))⟩
 ·obtain ⟨its, r', pl, hz⟩ := I.tuple hq
  exact call_tuple_same pl ⟨.ref p,H,I,rfl,q⟩
noncomputable def tyV (K : PySem.W.Frag) (T : String) (x : V) (H : Hp) : Prop := match x with
 | .str _=>T = "str"
 | .int _=>T = "int"
 | .ref p => (T = "list" /\ ∃ xs, SqL K H p xs) \/ (T = "tuple" /\ ∃ o, K.lookup p = some o /\ o.cls = .type "tuple" /\ o.dict = none) \/
   (T = "dict"/\((∃ kvs,H p = some (.dK kvs)) \/ ∃ kvs,H p = some (.dT kvs))) \/ (T = "set"/\∃ S n,H p = some (.set S n))
 | _=>False
theorem zZ0 {pins : List (Addr × Obj)} {σ : St} {H : Hp} {s : Shared} {T : String} {x : V} {v : Value} (I : Inv X pins σ H s) (r : RelV x v) (ty : tyV X.K T x H) :
  s.TypeIs v T/\∀ a,v = .ref a -> ∃ ob,s.heap.get? a = some ob/\ob.dict = none:=by
 cases x with
 | str z =>
  obtain ⟨t,rfl⟩:=r
  cases (show T = "str" from ty)
  exact ⟨typeIs_str s z t,λ_ e=>nomatch e⟩
 | int i =>
  obtain ⟨t,rfl⟩:=r
  cases (show T = "int" from ty)
  exact ⟨typeIs_int s i t,λ_ e=>nomatch e⟩
 | ref p =>
  cases r
  rcases ty with ⟨rfl,xs,hq⟩ | ⟨rfl,o,hk,hc,hd⟩ | ⟨rfl,hk⟩ | ⟨rfl,S,n,hk⟩
  ·obtain ⟨its, _, pl, _⟩ := I.list hq
   refine ⟨pl.isList.typeIs,λa e => ?_⟩
   cases e
   obtain ⟨o,n,e,c,hd,_⟩:=pl;exact ⟨o,e,hd⟩
  ·refine ⟨⟨o, I.kIn p o hk, hc⟩, fun a e => ?_⟩
   cases e
   exact ⟨o,I.kIn _ o hk,hd⟩
  ·have z : ∃ o, s.heap.get? p = some o /\ o.ExactDict := by
    rcases hk with ⟨kvs,hk⟩ | ⟨kvs,hk⟩
    ·obtain ⟨_, _, _, _, o, _, _, e, ex, _⟩ := I.hok p _ hk
     exact ⟨o,e,ex⟩
    ·obtain ⟨_, _, _, _, o, _, _, e, ex, _⟩ := I.hok p _ hk
     exact ⟨o,e,ex⟩
   obtain ⟨o,e,ex⟩:=z;refine ⟨⟨o,e,ex.1⟩,λa e2 => ?_⟩
   cases e2
   exact ⟨o,e,ex.2.1⟩
  ·obtain ⟨o, _, _, _, e, ex, _⟩ := I.hok p _ hk
   refine ⟨⟨o,e,ex.1⟩,λa e2 => ?_⟩
   cases e2
   exact ⟨o,e,ex.2.1⟩
 | _=>exact False.elim ty
noncomputable def tBM (K : PySem.W.Frag) (T : String) (r : V -> List V -> Hp -> VK -> Prop) (to : TE) (t : TA) : TE:=λσ H Q=>to σ H λx H1=>tyV K T x H1/\t σ H1 λxs H2=>r x xs H2 Q
variable {o e : Expr} {es : List Expr} {to : TE} {t : TA} {name : Str} {apos cpos : Pos} {T id : String} {r : V -> List V -> Hp -> VK -> Prop}
theorem zGI (pa : PlainAttrs T) (slot : Slot T name id) (hty : typeOf (.builtin id) = pure (.type "method_descriptor")) (hm : MtR X id r) (ho : PE X o to) (ha : PA X (e :: es) t)
  (hbase : attributeBase o name X.env (eval o X.env) = eval o X.env:=by rfl)
  (hfew : ((backTo cpos (starEach (e :: es) X.env)).all (fun x => !x.1) && (backToKw cpos (keywordEach [] X.env)).all (fun x => x.1.isSome)
   && decide ((e::es).length + ([] : List Keyword).length + (if ([] : List Keyword).isEmpty then 0 else 1) < 30)) = true:=by rfl)
  (hline : (apos.endLine == cpos.line) = true:=by rfl) (hs : starEach (e::es) X.env = (false,eval e X.env)::starEach es X.env:=by rfl) (hplain : (backTo cpos (starEach es X.env)).any (·.1) = false:=by rfl) :
  PE X (.Call (.Attribute o name apos) (e::es) [] cpos) (tBM X.K T r to t):=by
 intro pins s σ H Q I h;refine wpAny_Call_method_late hbase hfew hline rfl (thn (ho pins s σ H _ I h) λv s1 ⟨x,H1,I1,r1,ty,q1⟩ => ?_);obtain ⟨h1,h2⟩:=zZ0 I1 r1 ty;refine ⟨T,id,pa,slot,hty,h1,h2,?_⟩;have hA:=ha cpos pins s1 σ H1 _ I1 q1;rw [hs] at hA ⊢;refine Calls.callWith_builtin (by show (false||(backTo cpos (starEach es X.env)).any (·.1)) = false; rw [hplain] <;> rfl) (Calls.evalArgs_plain ?_);exact thn hA λus s2 ⟨vs,H2,I2,r2,q2⟩=>hm pins s2 σ H2 x vs v us Q I2 r1 r2 q2
end
noncomputable def MtM (X : Cx) (id : String) (r : V -> List V -> Hp -> VK -> Prop) : Prop :=
 ∀ (pins : List (Addr × Obj)) (s : Shared) (σ : St) (H : Hp) (x : V) (xs : List V) (v : Value) (us : List Value) (Q : VK),Inv X pins σ H s -> RelV x v -> Vals xs us -> r x xs H Q ->
  wpAny (model X.prog X.w) X.A (call (.builtin id) (v::us)) (EP X pins σ Q) X.xe s
theorem Vals.one : ∀ {x : V} {us : List Value}, Vals [x] us -> ∃ u, us = [u] /\ RelV x u
 | _,_,.cons r .nil=>⟨_,rfl,r⟩
theorem Vals.eraseIdx : ∀ {xs : List V} {us : List Value} (i : Nat), Vals xs us -> Vals (xs.eraseIdx i) (us.eraseIdx i)
 | _,_,_,.nil => .nil
 | _,_,0,.cons _ t=>t
 | _,_,i + 1,.cons r t => .cons r (Vals.eraseIdx i t)
theorem Vals.reverse {xs : List V} {us : List Value} (h : Vals xs us) : Vals xs.reverse us.reverse := by
 induction h with
 | nil=>exact .nil
 | cons r t ih=>rw [List.reverse_cons,List.reverse_cons]; exact Vals.append ih (.cons r .nil)
theorem Vals.rep {xs : List V} {us : List Value} (h : Vals xs us) : ∀ k : Nat, Vals (List.replicate k xs).flatten (List.replicate k us).flatten
 | 0 => .nil
 | k + 1=>by
  rw [yCO,yCO,yDA,yDA];exact Vals.append h (Vals.rep h k)
theorem zJ7 {α : Type} : ∀ (l : List α) (i : Nat), (l.eraseIdx i).length <= l.length
 | [],_=>yAE _
 | _::_,0=>yCl _
 | _::r,i + 1=>Nat.succ_le_succ (zJ7 r i)
theorem zJ4 (its : List Value) : ∀ (k : Nat) (acc : List Value),
  List.foldl (λx1 x2=>x1++x2) acc.toArray (List.replicate k its.toArray) = (acc++(List.replicate k its).flatten).toArray
 | 0,acc=>by simp
 | k + 1,acc=>by
  have e : acc.toArray++its.toArray = (acc++its).toArray:=by simp
  have e2 : (acc ++ its) ++ (List.replicate k its).flatten = acc ++ (List.replicate (k + 1) its).flatten := by
   rw [yCO,yDA,yAy]
  rw [<- e2,<- zJ4 its k (acc++its),<- e,yCO,yDu]
section
variable {X : Cx} {pins : List (Addr × Obj)} {σ : St} {H : Hp} {s : Shared} {l b : Addr} {xs ys zs : List V}
theorem Inv.lset {its its' : List Value} {n : Nat} {f : Array Value -> Array Value} {t' : Nat} (I : Inv X pins σ H s) (hH : H l = some (.lst xs))
  (e : s.heap.get? l = some { cls := .type "list",data := .seq its.toArray n }) (hf : f its.toArray = its'.toArray) (hv : Vals ys its') (hz : ys.length <= sizeLine) :
  Inv X pins σ (upd H l (.lst ys)) { s with heap:=s.heap.update l (Obj.mapSeq f),toks:=t' }:=by
 have q:=PySem.IsL.update e f;rw [hf] at q;refine I.write (x:=l) (e:=l) (by rw [hH]; exact trivial) (.inl rfl) (λb' u hb hu=>(yBK s.heap (Obj.mapSeq f) (Ne.symm hb)).trans hu) ⟨_,q⟩ ?_;exact ⟨hz,its',_,hv,q⟩
theorem Inv.lnew {its : List Value} {t' : Nat} (I : Inv X pins σ H s) (hv : Vals ys its) (hz : ys.length <= sizeLine) :
  Inv X pins σ (upd H s.heap.objs.size (.lst ys)) { s with heap:=s.heap.push { cls := .type "list",data := .seq its.toArray },toks:=t' } :=
 I.laid (λ_ _ q=>yAC _ q) (yAE _) ⟨hz,its,0,hv,yAS _ rfl⟩
theorem Inv.fresh (I : Inv X pins σ H s) : H s.heap.objs.size = none:=I.hok.fresh (yAE _)
theorem Inv.lstM (I : Inv X pins σ H s) (hH : H l = some (.lst xs)) : xs.length <= sizeLine /\ ∃ (its : List Value) (n : Nat), Vals xs its /\ xs.length = its.length /\ s.heap.get? l = some { cls := .type "list", data := .seq its.toArray n } := by
 obtain ⟨z,its,n,r,e⟩:=I.hok l _ hH;exact ⟨z,its,n,r,r.length,e⟩
theorem zS1 {n : Nat} (h : n <= sizeLine) : Builtin.List.listTooLong n = false := by
 unfold Builtin.List.listTooLong;exact yAG (by lia)
end
section
variable {X : Cx}
noncomputable def zWR : V -> List V -> Hp -> VK -> Prop:=λx vs H Q=>∃ l xs y,x = .ref l/\vs = [y]/\H l = some (.lst xs)/\xs.length < sizeLine/\Q .non (upd H l (.lst (xs++[y])))
theorem zC1 : MtM X "list.append" zWR := by
 intro pins s σ H x vs v us Q I rx rv h;obtain ⟨l,xs,y,rfl,rfl,hH,hz,q⟩:=h
 cases rx
 obtain ⟨u,rfl,ru⟩:=rv.one;obtain ⟨z,its,n,r,hl,e⟩:=I.lstM hH;refine call_meets F.slot_list_append ⟨_,e,rfl⟩ F.entry_list_append (F.args_list_append_2 _ _) (PySem.list_append l its.toArray n u (by rw [yAH]; lia)) ⟨e,?_⟩;refine ⟨.non,_,I.lset (its':=its++[u]) hH e (by simp) (r.append (.cons ru .nil)) ?_,rfl,q⟩;rw [yAX,yBq];lia
noncomputable def zZQ : V -> List V -> Hp -> VK -> Prop:=λx vs H Q=>∃ l xs i k y,x = .ref l/\vs = [.int i]/\H l = some (.lst xs) /\ -(2 ^ 63) <= i/\i < 2 ^ 63/\seqIndex? i xs.length = some k/\xs[k]? = some y/\Q y (upd H l (.lst (xs.eraseIdx k)))
theorem zT0 : MtM X "list.pop" zZQ := by
 intro pins s σ H x vs v us Q I rx rv h;obtain ⟨l,xs,i,k,y,rfl,rfl,hH,h1,h2,hk,hy,q⟩:=h
 cases rx
 obtain ⟨u,rfl,ru⟩:=rv.one;obtain ⟨t,rfl⟩:=ru;obtain ⟨z,its,n,r,hl,e⟩:=I.lstM hH;obtain ⟨w,hw,rw'⟩:=r.get hy
 refine call_meets F.slot_list_pop ⟨_, e, rfl⟩ F.entry_list_pop (F.args_list_pop_2 _ _)
  (MeetsSeq.list_pop_at l its.toArray n i t k w (fitsIndex_both h1 h2) (by rw [yAH,<- hl]; exact hk) (by rw [<- yBN]; exact hw) (by rw [yAH]; lia)) ⟨e,?_⟩
 refine ⟨y,_,I.lset (its':=its.eraseIdx k) hH e ?_ (r.eraseIdx k) ?_,rw',q⟩
 ·show its.toArray.eraseIdxIfInBounds k = (its.eraseIdx k).toArray
  rw [List.eraseIdxIfInBounds_toArray]
 ·have := zJ7 xs k
  lia
noncomputable def zaS : R2:=λx y H Q=>∃ l b xs zs,x = .ref l/\y = .ref b/\H l = some (.lst xs)/\H b = some (.lst zs)/\xs.length + zs.length <= sizeLine/\∀ p,H p = none -> Q (.ref p) (upd H p (.lst (xs++zs)))
theorem zBE : OpR X (binaryOp .Add) zaS := by
 intro pins s σ H x y v u Q I rx ry h;obtain ⟨l,b,xs,zs,rfl,rfl,hH,hB,hz,q⟩:=h
 cases rx
 cases ry
 obtain ⟨z,its,n,r,hl,e⟩:=I.lstM hH;obtain ⟨z2,its2,n2,r2,hl2,e2⟩:=I.lstM hB;refine PySem.P.add_list e e2 ?_ (by rw [yAH,yAH]; lia);have ea : its.toArray++its2.toArray = (its++its2).toArray:=by simp
 rw [ea];exact ⟨.ref _,_,I.lnew (t':=s.toks) (r.append r2) (by rw [yAX]; lia),rfl,q _ I.fresh⟩
noncomputable def zcL : R2 := fun x y H Q => ∃ l k xs, x = .ref l /\ y = .int k /\ H l = some (.lst xs) /\ -(2 ^ 63) <= k /\ k < 2 ^ 63 /\ xs.length * k.toNat <= sizeLine /\
 ∀ p,H p = none -> Q (.ref p) (upd H p (.lst (List.replicate k.toNat xs).flatten))
theorem zW7 {α : Type} (xs : List α) (k : Nat) : (List.replicate k xs).flatten.length = k * xs.length := by
 induction k with
 | zero=>simp
 | succ k ih=>rw [yCO,yDA,yAX,ih,Nat.succ_mul,Nat.add_comm]
theorem zZD : OpR X (binaryOp .Mult) zcL := by
 intro pins s σ H x y v u Q I rx ry h;obtain ⟨l,k,xs,rfl,rfl,hH,h1,h2,hz,q⟩:=h
 cases rx
 obtain ⟨t,rfl⟩:=ry;obtain ⟨z,its,n,r,hl,e⟩:=I.lstM hH;have hlen : its.toArray.size * k.toNat <= sizeLine:=by rw [yAH,<- hl]; exact hz
 have hcap : ¬ its.toArray.size * k.toNat > (2 ^ 63 - 1) / 8 := by
  have : (sizeLine : Nat) <= (2 ^ 63 - 1) / 8:=by decide
  lia
 have hfit : ¬ (!Builtin.List.listFitsIndex k) = true := by
  rw [fitsIndex_both h1 h2];exact yAY
 have hlong : ¬ Builtin.List.listTooLong (its.toArray.size * k.toNat) = true := by
  rw [zS1 hlen];exact yAY
 have hnew : List.foldl (fun x1 x2 => x1 ++ x2) #[] (List.replicate (if its.toArray.isEmpty = true then 0 else k.toNat) its.toArray) = (List.replicate k.toNat its).flatten.toArray := by
  have f0 : ∀ m : Nat, List.foldl (fun x1 x2 => x1 ++ x2) #[] (List.replicate m its.toArray) = (List.replicate m its).flatten.toArray := fun m => by
   have:=zJ4 its m []
   rw [yDt] at this;exact this
  rw [f0]
  cases its with
  | nil=>simp
  | cons a r'=>rw [yAN (by simp)]
 refine wpAny_binaryOp_repeat_ref (T := "list") (U := "int") (by decide) ⟨_, e, rfl⟩ (fun s' => typeIs_int s' k t) noFill_list_mul F.fills_int_mul F.slot_int_rmul repeat_list F.slot_int_index.lookup
  (call_meets F.slot_int_rmul (typeIs_int s k t) F.entry_int_rmul (F.args_int_rmul_2 _ _) (int___rmul___int_list k t l its.toArray n)
   ⟨e,rfl,⟨_,e,rfl⟩,call_meets F.slot_list_mul ⟨_,e,rfl⟩ F.entry_list_mul (F.args_list_mul_2 _ _) (AutoListH.list___mul___list_int_3 l its.toArray n k t hfit hcap hlong) ⟨e,?_⟩⟩)
 rw [hnew];exact ⟨.ref _,_,I.lnew (t':=s.toks) (r.rep k.toNat) (by rw [zW7,Nat.mul_comm]; exact hz),rfl,q _ I.fresh⟩
end
section
variable {prog : Program} {w : World} {A : Around} {E : Value -> Shared -> Prop} {s : Shared}
end
section
variable {X : Cx}
end
end L2
namespace Att
open PySem PySem.W PySem.Calls PyProof.Rows
theorem zG1 {P : Params} {h : Heap} : ∀ (ns : List Int) (vs : List Value), WellAll P h vs (ns.map WData.int) -> IntsAre vs ns := by
 intro ns
 induction ns with
 | nil =>
  intro vs w;rw [List.map_nil] at w
  cases w
  exact .nil
 | cons n ns ih =>
  intro vs w;rw [yAl] at w
  cases w with
  | cons a b =>
   cases a
   exact .cons _ _ (ih _ b)
theorem zO4 {l : OpenLaw} {n : Nat} (hn : l.most = some n) {P : Params} {h : Heap} {args : List WData} {vals : List Value}
  (hpre : l.row.toRowW.claim.pre args = true) (hwl : WellAll P h vals args) :
  ∃ a vs ns,vals = [Value.ref a]/\args = [WData.list (ns.map WData.int)]/\h.get? a = some { cls := .type "list",data := .seq vs.toArray }/\IntsAre vs ns/\ns.length <= n:=by
 have hsh : WShape.hasAll [] args [.list .int] = true:=(pre_splitW hpre).1;have hc : l.pre.holds [] { args:=args } = true:=(pre_splitW hpre).2;obtain ⟨d,r,rfl,h1,h2⟩:=hasAllW_cons hsh;obtain rfl:=hasAllW_nil h2;obtain ⟨xs,rfl,h3⟩:=hasW_list h1;obtain ⟨ns,rfl⟩:=items_int h3
 have hlen : ns.length <= n := by
  unfold OpenLaw.pre at hc
  have h4 : (WTm.not (.lt (.lit (.int (n : Int))) (.len (.arg 0)))).holds [] { args := [.list (ns.map .int)] } = true := by
   have h4:=(holds_andW hc).1;rw [hn] at h4;exact h4
  have h5:=condW_of h4 (w_not (w_lt w_lit (w_len_list (w_arg rfl))));rw [yAB] at h5;refine Nat.le_of_not_lt λq => ?_;have q' : (n : Int) < ((ns.length : Nat) : Int):=by lia
  first
   | (rw [yAM q'] at h5; exact absurd h5 (by decide))
   | (simp at h5; lia)
 cases hwl with
 | cons w1 w2 =>
  cases w2
  cases w1 with
  | list ho hall=>exact ⟨_,_,ns,rfl,rfl,ho,zG1 ns _ hall,hlen⟩
theorem zPJ (l : OpenLaw) (args : List WData) : l.row.toRowW.claim.post args (.bool true) args = true :=
 postW_of (r := l.row.toRowW) (X := (true == true))
  (show WShape.has [] (.bool true) .bool = true by first | rfl | decide | simp [WShape.has,WShape.arms,WShape.armsAll])
  (show (WTm.eq .res (.lit (.bool true))).value [] { args:=args,res:=some (.bool true),after:=args } = some (.bool (true == true)) from w_eq_bool (w_res rfl) w_lit) rfl
theorem attach_call {l : OpenLaw} {n : Nat} {q : Program} {loose : List Str} {XP : (Str -> Option Value) -> Heap -> Prop} {YP : World -> Heap -> Prop} {d : DefRec}
  (hn : l.most = some n) (hdf : d.params.defaults = [])
  (call : ∀ (w : World) (s₀ s₁ : Shared) (mg mb : Str -> Option Value) (fa : Addr) (o : Obj) (pm cd doc : Value) (a : Addr) (vs : List Value) (ns : List Int),
   Ground q loose [] XP w s₀ mg mb s₁.heap -> YP w s₁.heap ->
   s₁.heap.get? fa = some o -> o.data = .func (docDef d.name d.params d.body d.scope pm cd doc) -> s₁.heap.CodeRec cd d.name -> mg d.name = some (.ref fa) ->
   s₁.heap.get? a = some { cls := .type "list",data := .seq vs.toArray } -> IntsAre vs ns -> ns.length <= n -> s₁.gens = #[] ->
   codeAny (model l.prog w) callerA (.call (.ref fa) ⟨[.ref a],[]⟩) (λr s'=>r = .ok (.ret (.bool true))/\OldK s₁.heap s'.heap/\s'.os = s₁.os/\AllBare s'.gens) s₁) :
  WalkO q loose XP YP l.row.toRowW d [] (λf vs=>PySem.call f vs):=by
 intro w s₀ s₁ mg mb G Y fa o pm cd doc dV kV ho hd hcd hD hmg hg args vals as hpre hlay hrd hwl hlo;obtain rfl : dV = .none:=Dflts.none hD hdf;obtain rfl : kV = .none:=Dflts.noKw hD;obtain ⟨a,vs,ns,rfl,rfl,hobj,hints,hlen⟩:=zO4 hn hpre hwl;refine enter_call (yCM (call w s₀ s₁ mg mb fa o pm cd doc a vs ns G Y ho (fd_plain hd) hcd hmg hobj hints hlen hg) λr s' hq => ?_);obtain ⟨rfl,h2,h3,h4⟩:=hq;exact ⟨.inl ⟨.bool true,.bool true,[],rfl,λ_=>rfl,.bool true,zPJ l _,λ_=>⟨List.Pairwise.nil,λ_ hm=>(nomatch hm)⟩⟩,h2,h3,h4⟩
section
variable {prog : Program} {w : World} {A : Around} {E : Value -> Shared -> Prop} {s : Shared} {K : Frag}
end
end Att
namespace L2
open PySem PySem.Spec PyProof.Rows
theorem zJ3 : ∀ {vs : List Value} {ns : List Int}, IntsAre vs ns -> Vals (ns.map V.int) vs
 | _,_,.nil => .nil
 | _,_,.cons n t h => .cons ⟨t,rfl⟩ (zJ3 h)
noncomputable def zbS (H : Hp) : Prop:=∀ b,H b = none \/ ∃ o xs,H b = some (.frz o (.lst xs))
theorem zT5 {P : Program} {w : World} {K : PySem.W.Frag} {mg mb : Str -> Option Value} {CX : CXT} {k : Nat} {fa a : Addr} {fd : FuncData} {x : Str} {sp : Sp} {s₁ : Shared} {vs : List Value} {ns : List Int}
  (KX : K.In s₁.heap) (hns : s₁.heap.Ns mainGlobals mg) (hb : s₁.heap.Ns builtinsNs mb) (hbb : ∀ x : Str,x≠"__name__" -> mb x = bootBuiltins x) (hlim : s₁.heap.NoLimit) (hg : s₁.gens = #[])
  (ha : s₁.heap.get? a = some { cls := .type "list",data := .seq vs.toArray }) (hi : IntsAre vs ns) (hl : ns.length <= sizeLine) (hr : Room k callerA)
  (F : ∀ base : Heap,K.In base -> base.Ns mainGlobals mg -> FnOk P w K mg base CX k fa fd [x] sp) (hbind : ∀ (s : Shared) (u : Value),BindsTo s fd ⟨[u],[]⟩ [(x,u)])
  (hsp : ∀ H : Hp,zbS H -> SqL K H a (ns.map V.int) -> sp [.ref a] H (λv _=>v = .bl true) λ_ _ _=>False)
  (hCX : ∀ H e s',CX [] H s₁ (λ_ _ _=>False) e s' -> False) :
  codeAny (model P w) callerA (.call (.ref fa) ⟨[.ref a],[]⟩) (λr s'=>r = .ok (.ret (.bool true))/\OldK s₁.heap s'.heap/\s'.os = s₁.os/\AllBare s'.gens) s₁ := by
 have rv:=zJ3 hi;have lenV:=hi.length
 have core : ∀ H : Hp, zbS H -> SqL K H a (ns.map V.int) -> HOk P w H s₁.heap -> (∀ b, H b ≠ none -> b = a) -> (H a ≠ none -> K.lookup a = none) ->
   codeAny (model P w) callerA (.call (.ref fa) ⟨[.ref a],[]⟩) (λr s'=>r = .ok (.ret (.bool true))/\OldK s₁.heap s'.heap/\s'.os = s₁.os/\AllBare s'.gens) s₁ := by
  intro H hO hS hok hA hK;have base_of : ∀ {b : Addr} {o : Obj},s₁.heap.get? b = some o -> H b = none -> (zTS s₁.heap H).get? b = some o:=λe n=>zSI e n
  have noA : ∀ {b : Addr} {o : Obj} {es : Array DictEntry} {ep : Nat}, s₁.heap.get? b = some o -> o.data = .dict es ep -> H b = none := fun {b o es ep} e d => by
   cases q : H b with
   | none=>rfl
   | some u =>
    have e' : b = a:=hA b (by rw [q]; simp);subst e';rw [ha] at e; cases e;have d' : Data.seq vs.toArray _ = Data.dict es ep:=d
    cases d'
  have nsK : ∀ {b : Addr} {m : Str -> Option Value},s₁.heap.Ns b m -> (zTS s₁.heap H).Ns b m:=λ{b m} ⟨o,es,ep,e,d,r⟩=>⟨o,es,ep,base_of e (noA e d),d,r⟩
  have hKb : K.In (zTS s₁.heap H) := fun b o e => base_of (KX b o e) (by
   cases q : H b with
   | none=>rfl
   | some u =>
    have e' : b = a:=hA b (by rw [q]; simp);subst e';rw [hK (by rw [q]; simp)] at e; cases e)
  have hM : Mod K mg (zTS s₁.heap H):=⟨hKb,nsK hns,⟨mb,nsK hb,hbb⟩,let ⟨mc,h1,h2⟩:=hlim; ⟨mc,nsK h1,h2⟩⟩;have e0 : Env0 P w K mg (zTS s₁.heap H) callerA [] s₁ H:=⟨rfl,hM,λb o e=>zWM e,Nat.le_of_eq (zPF _ _),trivial,λb hb=>absurd (show b∈([] : List Addr) from hb) (by simp),hok,.of_eq hg⟩;refine yCM ((F _ hKb (nsK hns)).run callerA [] s₁ H ⟨[.ref a],[]⟩ [.ref a] [.ref a] _ _ hr e0 (hbind s₁ (.ref a)) (.cons rfl .nil) (hsp H hO hS)) λr s' h => ?_
  cases r with
  | error e=>exact (hCX H e s' h).elim
  | ok fl =>
   cases fl with
   | next=>exact False.elim h
   | brk=>exact False.elim h
   | cont=>exact False.elim h
   | ret u =>
    obtain ⟨v,H',os,bare,un,hok',r',q⟩:=h;have q' : v = .bl true:=q;subst q';obtain rfl : u = Value.bool true:=r';refine ⟨rfl,OldK.of_keep λb o e => ?_,os,bare⟩
    cases q : H b with
    | none=>exact un.keep b o e q (by intro z; exact absurd (show b∈([] : List Addr) from z) (by simp)) (by simp)
    | some u =>
     rcases hO b with z | ⟨ob,xs,z⟩
     ·rw [q] at z; cases z
     ·have z2 := un.frzs b ob _ z
      obtain ⟨e1,_⟩:=hok b _ z;obtain ⟨e2,_⟩:=hok' b _ z2;rw [e] at e1; cases e1;exact e2
 cases hk : K.lookup a with
 | some o =>
  have e:=KX a o hk;rw [ha] at e
  cases e
  refine core (λ_=>none) (λ_ => .inl rfl) (.inr ⟨_,vs.toArray,_,hk,rfl,rfl,rfl,by rw [yAH,lenV]; exact hl,by simpa using rv⟩) (λb u z=>by have z' : (none : Option HO) = some u:=z; cases z') (λb z=>absurd rfl z) λz=>absurd rfl z
 | none =>
  refine core (λb=>if b = a then some (.frz { cls := .type "list",data := .seq vs.toArray } (.lst (ns.map V.int))) else none) (λb => ?_) (.inl (.inr ⟨{ cls := .type "list",data := .seq vs.toArray },yAQ rfl⟩)) (λb u z => ?_) (λb z => ?_) λ_=>hk
  ·by_cases hb : b = a
   ·exact .inr ⟨_,_,yAQ hb⟩
   ·exact .inl (yAN hb)
  ·by_cases hb : b = a
   ·have z' := (yAQ hb).symm.trans z
    cases z'
    subst hb;exact ⟨ha,by rw [yAB]; exact hl,vs,_,rv,ha⟩
   ·have z' := (yAN hb).symm.trans z
    cases z'
  ·by_cases hb : b = a
   ·exact hb
   ·exact absurd (yAN hb) z
theorem walk_of {l : PySem.W.OpenLaw} {n k : Nat} {q : Program} {loose : List Str} {XP : (Str -> Option Value) -> Heap -> Prop} {YP : World -> Heap -> Prop} {d : DefRec} {K : Params -> PySem.W.Frag} {CX : World -> CXT} {sp : World -> Sp} {x : Str}
  (hn : l.most = some n) (hn2 : n <= sizeLine) (hdf : d.params.defaults = []) (hr : Room k callerA)
  (hY : ∀ (w : World) (h : Heap),YP w h -> (K w.params).In h)
  (F : ∀ (w : World) (mg : Str -> Option Value) (fa : Addr) (h : Heap), (K w.params).In h -> h.Ns mainGlobals mg -> mg d.name = some (.ref fa) ->
   ∃ fd : FuncData,(∀ (s : Shared) (u : Value),BindsTo s fd ⟨[u],[]⟩ [(x,u)]) /\
    ∀ base : Heap,(K w.params).In base -> base.Ns mainGlobals mg -> FnOk l.prog w (K w.params) mg base (CX w) k fa fd [x] (sp w))
  (hsp : ∀ (w : World) (H : Hp) (a : Addr) (ns : List Int),ns.length <= n -> zbS H -> SqL (K w.params) H a (ns.map V.int) -> sp w [.ref a] H (λv _=>v = .bl true) λ_ _ _=>False)
  (hCX : ∀ (w : World) (H : Hp) (s : Shared) (e : Value) (s' : Shared),CX w [] H s (λ_ _ _=>False) e s' -> False) :
  PySem.W.WalkO q loose XP YP l.row.toRowW d [] (λf vs=>PySem.call f vs):=by
 refine Att.attach_call hn hdf λw s₀ s₁ mg mb fa o pm cd doc a vs ns G Y ho hd hcd hmg hobj hints hlen hg => ?_;have KX:=hY w _ Y;obtain ⟨fd,hb,hF⟩:=F w mg fa _ KX G.T.g hmg;exact zT5 KX G.T.g G.T.b G.T.builtins G.T.nolimit hg hobj hints (yAk hlen hn2) hr hF hb (λH hO hS=>hsp w H a ns hlen hO hS) λH e s'=>hCX w H s₁ e s'
noncomputable def zEO (s : Stmt) : Arguments := match s with
 | .FunctionDef _ a _ _ _ _ _ _ _ _=>a
 | _=>{ posonlyargs:=[],args:=[],vararg:=none,kwonlyargs:=[],kw_defaults:=[],kwarg:=none,defaults:=[] }
noncomputable def zCM (s : Stmt) : List Stmt := match s with
 | .FunctionDef _ _ b _ _ _ _ _ _ _=>b
 | _=>[]
noncomputable def zA7 (s : Stmt) : Scope := match s with
 | .FunctionDef _ _ _ _ _ _ sc _ _ _=>sc
 | _=>{ kind := .function,names:=[],isGenerator:=false,isCoroutine:=false }
noncomputable abbrev CX0 : CXT:=λ_ _ _ _ _ _=>False
noncomputable abbrev E0 : XK:=λ_ _ _=>False
theorem zAD {X : Cx} : zCV CX0 X E0:=λ_ _ _ _ _ _ _ h=>h.elim
structure Fun (K : PySem.W.Frag) (x qual : Str) (st : Stmt) (f : Addr) (fd : FuncData) : Prop where
 ex : ∃ (oc : Value) (od : Option Addr) (kV doc pm : Value) (an : Option Addr) (cdv ct : Value) (osl : Array (Option Value)),
  fd = PySem.W.fnOf x qual (zEO st) (zCM st) (zA7 st) .none kV doc pm an cdv ct/\K.lookup f = some ⟨oc,od,.func fd,osl⟩/\PySem.W.codeIn K cdv qual = true
 kp : PySem.W.keepIn K (.ref f) = true
section
variable {P : Program} {w : World} {K : PySem.W.Frag} {mg : Str -> Option Value} {base : Heap}
theorem Fun.ok {x qual : Str} {st : Stmt} {f : Addr} {fd : FuncData} {N ps : List Str} {k : Nat} {sp : Sp} (F : Fun K x qual st f fd) (S : FnScope N ps (zA7 st)) (len : ∀ vs H Q E, sp vs H Q E -> vs.length = ps.length)
  (hbody : ∀ (cdv : Value) (A : Around) (outer : List Env) (s : Shared) (H : Hp) (vs : List V) (Q : VK) (E : XK), Room k (A.deeper (envOfC qual (zA7 st) s.heap.objs.size f cdv)) -> sp vs H Q E ->
   ∃ t,PSs (zQ2 CX0 P w K mg base N qual (zA7 st) f cdv A outer s H E).nox (zCM st) t/\t { nx:=λ_ H'=>Q .non H',rt:=Q } (zGF N vs) H) : FnOk P w K mg base CX0 (k + 1) f fd ps sp:=by
 obtain ⟨oc,od,kV,doc,pm,an,cdv,ct,osl,rfl,lk,hcd⟩:=F.ex;refine zZL lk hcd S len λA outer s H vs Q E hr hsp => ?_;obtain ⟨t,h,q⟩:=hbody cdv A outer s H vs Q E hr hsp;exact ⟨t,h.nox,q⟩
theorem Fun.binds {x qual : Str} {st : Stmt} {f : Addr} {fd : FuncData} {ps : List Str} (F : Fun K x qual st f fd)
  (h : ∀ (kV doc pm : Value) (an : Option Addr) (cdv ct : Value) (us : List Value),us.length = ps.length -> bindArgs (PySem.W.fnOf x qual (zEO st) (zCM st) (zA7 st) .none kV doc pm an cdv ct) ⟨us,[]⟩ = pure (ps.zip us)) : Binds K fd ps []:=by
 obtain ⟨oc,od,kV,doc,pm,an,cdv,ct,osl,rfl,lk,hcd⟩:=F.ex;exact .all (h kV doc pm an cdv ct)
theorem fun_mk {x qual : Str} {st : Stmt} {f : Addr} {oc : Value} {od an : Option Addr} {osl : Array (Option Value)} {kV doc pm cdv ct : Value} (l : K.lookup f = some ⟨oc, od, .func (PySem.W.fnOf x qual (zEO st) (zCM st) (zA7 st) .none kV doc pm an cdv ct), osl⟩)
  (c : PySem.W.codeIn K cdv qual = true) (k : PySem.W.keepIn K (.ref f) = true) : Fun K x qual st f (PySem.W.fnOf x qual (zEO st) (zCM st) (zA7 st) .none kV doc pm an cdv ct):=⟨⟨oc,od,kV,doc,pm,an,cdv,ct,osl,rfl,l,c⟩,k⟩
theorem zWB {A : Around} {k : Nat} (hr : Room k A) : A.units + 1 < cLine:=yDR (Nat.add_le_add_left (by decide : 1 <= 64) _) hr.units
theorem zJ2 {n : Nat} (h : n <= 1000) : n < sizeLine:=yDR h (by decide)
section
variable {X : Cx}
theorem pv (i : Nat) {x : Str} {pos : Pos} (hN : X.N[i]? = some x := by rfl) (hv : Vis X.env.scope x := by first | exact Or.inl rfl | exact Or.inr (Or.inl rfl) | exact Or.inr (Or.inr rfl)) (hd : (x == ("__debug__" : Str)) = false := by decide)
  (hcd : (x == ("__classdict__" : Str)) = false:=by decide) : PE X (.Name x pos) (zCT i):=zZO hN hv hd hcd
end
theorem zBP {A B : Prop} (h : B) : if false = true then A else B := by
 rw [yAN yAY];exact h
theorem zC7 {A B : Prop} (h : A) : if true = true then A else B := by
 rw [yAQ rfl];exact h
theorem zGV {c A B : Prop} [Decidable c] (h1 : c -> A) (h2 : ¬ c -> B) : if c then A else B := by
 by_cases h : c
 ·rw [yAQ h]
  exact h1 h
 ·rw [yAN h]
  exact h2 h
noncomputable def Same (H H' : Hp) : Prop:=∀ b o,H b = some o -> H' b = some o
theorem Same.refl (H : Hp) : Same H H:=λ_ _ h=>h
theorem Same.trans {H H1 H2 : Hp} (a : Same H H1) (b : Same H1 H2) : Same H H2:=λc o h=>b c o (a c o h)
theorem Same.free {H H' : Hp} (e : Same H H') {l : Addr} (h : H' l = Option.none) : H l = Option.none := by
 cases q : H l with
 | none=>rfl
 | some o =>
  rw [e l o q] at h
  cases h
theorem Same.seq {K : PySem.W.Frag} {H H' : Hp} {a : Addr} {xs : List V} (e : Same H H') (h : SqL K H a xs) : SqL K H' a xs := by
 rcases h with (h | ⟨o,h⟩) | h
 ·exact .inl (.inl (e _ _ h))
 ·exact .inl (.inr ⟨o,e _ _ h⟩)
 ·exact .inr h
noncomputable def zPZ (env : Env) : List (Str × NameKind) -> List (Str × Addr) -> List (Str × Addr)
 | [],acc=>acc
 | (n,k)::r,acc=>if k == .free then zPZ env r ((n,(env.cells.lookup n).getD 0)::acc) else zPZ env r acc
noncomputable def zXN (scope : Scope) (env : Env) : List (Str × Addr):=zPZ env scope.names []
theorem zHL {env : Env} {y : Str} {c : Addr} : ∀ {names : List (Str × NameKind)} {acc : List (Str × Addr)}, (y, c) ∈ zPZ env names acc -> (y, c) ∈ acc \/ ((y, NameKind.free) ∈ names /\ c = (env.cells.lookup y).getD 0)
 | [],_,h => .inl h
 | (n,k)::r,acc,h=>by
  unfold zPZ at h
  split at h
  ·rename_i hk
   have hk : k = .free:=by simpa using hk
   rcases zHL h with h1 | ⟨h1,h2⟩
   ·rcases yAb.mp h1 with h1 | h1
    ·cases h1
     exact .inr ⟨by rw [hk]; exact yAR,rfl⟩
    ·exact .inl h1
   ·exact .inr ⟨yAO _ h1,h2⟩
  ·rcases zHL h with h1 | ⟨h1, h2⟩
   ·exact .inl h1
   ·exact .inr ⟨yAO _ h1,h2⟩
theorem zFN {env : Env} {y : Str} : ∀ {names : List (Str × NameKind)} {acc : List (Str × Addr)}, (acc.lookup y).isSome = true -> ((zPZ env names acc).lookup y).isSome = true
 | [],_,h=>h
 | (n,k)::r,acc,h=>by
  unfold zPZ
  split
  ·refine zFN ?_
   rw [yBw]
   split
   ·rfl
   ·exact h
  ·exact zFN h
theorem zF7 {env : Env} {y : Str} : ∀ {names : List (Str × NameKind)} {acc : List (Str × Addr)}, (y, NameKind.free) ∈ names -> ((zPZ env names acc).lookup y).isSome = true
 | [],_,h=>by simp at h
 | (n,k)::r,acc,h=>by
  unfold zPZ
  rcases yAb.mp h with h1 | h1
  ·cases h1
   rw [yAQ (by rfl)];refine zFN ?_;rw [yBw]
   simp
  ·split
   ·exact zF7 h1
   ·exact zF7 h1
theorem zEL {env : Env} : ∀ (names : List (Str × NameKind)) (acc : List (Str × Addr)), (∀ p ∈ names, p.2 = .free -> (env.cells.lookup p.1).isSome = true) ->
  (forIn names acc (λ(x : Str × NameKind) cs=>(if x.2 == .free then do let c <- cellOf env x.1; pure (ForInStep.yield ((x.1,c)::cs)) else pure (ForInStep.yield cs) : Sem (ForInStep (List (Str × Addr)))))) = (pure (zPZ env names acc) : Sem _)
 | [],acc,_=>by rw [List.forIn_nil]; rfl
 | (n,k)::r,acc,h=>by
  rw [List.forIn_cons];unfold zPZ
  cases hk : (k == NameKind.free) with
  | false=>exact zEL r acc λp hp=>h p (yAO _ hp)
  | true =>
   have hk' : k = .free:=by simpa using hk
   have h1:=h (n,k) yAR hk'
   have e : cellOf env n = (pure ((env.cells.lookup n).getD 0) : Sem Addr) := by
    unfold cellOf
    cases e : env.cells.lookup n with
    | none=>rw [e] at h1; cases h1
    | some c=>rfl
   show ((do let c <- cellOf env n; pure (ForInStep.yield ((n,c)::acc))) >>= _ : Sem _) = _;rw [e];exact zEL r ((n,(env.cells.lookup n).getD 0)::acc) λp hp=>h p (yAO _ hp)
theorem zNC {scope : Scope} {env : Env} (h : ∀ p ∈ scope.names, p.2 = .free -> (env.cells.lookup p.1).isSome = true) : closureFor scope env = pure (zXN scope env) := by
 have e:=zEL (env:=env) scope.names [] h;unfold closureFor zXN
 first
  | (simp only [bind_pure]; exact e)
  | exact e
  | (rw [<- e]; rfl)
theorem zEY {env : Env} : ∀ {names : List (Str × NameKind)} {x : Str}, names.lookup x = some .free ->
  (names.map λ(n,k)=>if (k == NameKind.free&&env.scope.kind == .function&&env.kindOf n == some .cell) then (n,NameKind.cell) else (n,k)).lookup x = some .cell \/
  (names.map λ(n,k)=>if (k == NameKind.free&&env.scope.kind == .function&&env.kindOf n == some .cell) then (n,NameKind.cell) else (n,k)).lookup x = some .free
 | [],_,h=>by simp at h
 | (n,k)::r,x,h=>by
  have ih := @zEY env r x;show List.lookup x ((if (k == NameKind.free&&env.scope.kind == .function&&env.kindOf n == some .cell) = true then (n,NameKind.cell) else (n,k))::_) = _ \/ List.lookup x ((if (k == NameKind.free&&env.scope.kind == .function&&env.kindOf n == some .cell) = true then (n,NameKind.cell) else (n,k))::_) = _
  cases hx : x == n with
  | true =>
   simp only [yBw,hx] at h
   cases h
   by_cases hc : (NameKind.free == NameKind.free&&env.scope.kind == .function&&env.kindOf n == some .cell) = true
   ·rw [yAQ hc]; exact .inl (by simp only [yBw,hx])
   ·rw [yAN hc]; exact .inr (by simp only [yBw,hx])
  | false =>
   simp only [yBw,hx] at h
   by_cases hc : (k == NameKind.free&&env.scope.kind == .function&&env.kindOf n == some .cell) = true
   ·rw [yAQ hc]; simp only [yBw,hx]; exact ih h
   ·rw [yAN hc]; simp only [yBw,hx]; exact ih h
theorem zGC {env : Env} {names : List (Str × NameKind)} {x : Str} {k : NameKind} (h : (x, k) ∈ (names.map fun (n, k) => if (k == NameKind.free && env.scope.kind == .function && env.kindOf n == some .cell) then (n, NameKind.cell) else (n, k))) :
  (x,k)∈names \/ (x,NameKind.free)∈names:=by
 obtain ⟨⟨n,k'⟩,h1,h2⟩:=yAs.mp h;dsimp only at h2
 split at h2
 ·rename_i hc
  cases h2
  have : k' = .free := by
   cases k' <;> first | rfl | (exfalso; revert hc; simp)
  subst this;exact .inr h1
 ·cases h2
  exact .inl h1
noncomputable def FvOk (X : Cx) (scope : Scope) : List (Str × Nat) -> Prop
 | []=>True
 | p::r=>(X.N[p.2]? = some p.1/\(X.env.scope.names.lookup p.1 = some .cell \/ X.env.scope.names.lookup p.1 = some .free)/\scope.names.lookup p.1 = some .free)/\FvOk X scope r
theorem FvOk.get {X : Cx} {scope : Scope} : ∀ {fv : List (Str × Nat)} {j : Nat} {p : Str × Nat}, FvOk X scope fv -> fv[j]? = some p -> X.N[p.2]? = some p.1 /\ (X.env.scope.names.lookup p.1 = some .cell \/ X.env.scope.names.lookup p.1 = some .free) /\ scope.names.lookup p.1 = some .free
 | [],_,_,_,e=>by simp at e
 | _::_,0,_,h,e=>by simp at e; subst e; exact h.1
 | _::_,j + 1,_,h,e=>h.2.get (j:=j) (by simpa using e)
structure CompOk (scope : Scope) (x : Str) (fv : List (Str × Nat)) : Prop where
 kind : scope.kind = .function
 nocell : ∀ y∈scope.names,y.2 ≠ .cell
 names : ∀ y∈scope.names,y.2 = .local -> scope.names.lookup y.1 = some .local
 hx : scope.names.lookup x = some .local
 fr : ∀ y∈scope.names,y.2 = .free -> y.1∈fv.map (·.1)
 nd : (x::fv.map (·.1)).Nodup
noncomputable def PTl (X : Cx) (ifs : List Expr) (t : TT) : Prop :=
 ∀ (pins : List (Addr × Obj)) (s : Shared) (σ : St) (H : Hp) (Q : Bool -> Hp -> Prop),Inv X pins σ H s -> t σ H Q ->
  wpAny (model X.prog X.w) X.A (forIn ifs true λc r=>if r = true then do let ok <- isTrue c X.env (eval c X.env); pure (ForInStep.yield ok) else pure (ForInStep.yield r)) (TP X pins σ Q) X.xe s
noncomputable def zJP : TT:=λ_ H Q=>Q true H
theorem zBU {X : Cx} : PTl X [] zJP:=λ_ _ _ H _ I h=>wpAny_tests_nil ⟨H,I,h⟩
theorem zQF {X : Cx} {c : Expr} {t : TT} (h : PT X c t) : PTl X [c] t:=λpins s σ H Q I hw=>wpAny_tests_one (h pins s σ H Q I hw)
section
variable {X : Cx} {pins : List (Addr × Obj)} {σ : St} {scope : Scope} {x : Str} {fv : List (Str × Nat)} {elt iter : Expr} {ifs : List Expr} {px pos : Pos} {tt : TT} {te : TE}
end
section
variable {κ : Type} [DecidableEq κ]
noncomputable def zEI (kvs : List (κ × V)) (k : κ) : Option V:=(kvs.find? λkv=>decide (kv.1 = k)).map (·.2)
noncomputable def zH2 (kvs : List (κ × V)) (k : κ) (v : V) : List (κ × V) :=
 if (kvs.any λkv=>decide (kv.1 = k)) = true then kvs.map (λkv=>if kv.1 = k then (kv.1,v) else kv) else kvs++[(k,v)]
theorem zBM {p : κ × V} {r : List (κ × V)} {k : κ} (e : p.1 = k) : zEI (p::r) k = some p.2:=by simp [zEI,yCu,e]
theorem zBC {p : κ × V} {r : List (κ × V)} {k : κ} (e : ¬ p.1 = k) : zEI (p::r) k = zEI r k:=by simp [zEI,yCu,e]
theorem zE0 (k : κ) : ∀ kvs : List (κ × V), (kvs.any fun kv => decide (kv.1 = k)) = (zEI kvs k).isSome
 | []=>rfl
 | p::r=>by
  rw [yDi]
  by_cases e : p.1 = k
  ·simp only [zBM e,yAM e,Bool.true_or,Option.isSome_some]
  ·rw [zBC e,yAG e,Bool.false_or]; exact zE0 k r
theorem zLW (k j : κ) (y : V) : ∀ kvs : List (κ × V), zEI (kvs.map fun kv => if kv.1 = k then (kv.1, y) else kv) j = (zEI kvs j).map fun x => if j = k then y else x
 | []=>rfl
 | p::r=>by
  have ih:=zLW k j y r;rw [yAl]
  by_cases h : p.1 = k
  ·rw [yAQ h]
   by_cases e : p.1 = j
   ·rw [zBM (p:=(p.1,y)) e,zBM e,yCJ,yAQ (e.symm.trans h)]
   ·rw [zBC (p:=(p.1,y)) e,zBC e,ih]
  ·rw [yAN h]
   by_cases e : p.1 = j
   ·rw [zBM (p:=p) e,zBM e,yCJ,yAN (λz=>h (e.trans z))]
   ·rw [zBC (p:=p) e,zBC e,ih]
theorem zIV (k j : κ) (y : V) : ∀ kvs : List (κ × V), zEI kvs k = none -> zEI (kvs ++ [(k, y)]) j = if j = k then some y else zEI kvs j
 | [],_=>by
  by_cases e : k = j
  ·rw [yAQ e.symm]; exact zBM (p:=(k,y)) e
  ·rw [yAN (λz=>e z.symm)]; exact zBC (p:=(k,y)) e
 | p::r,hn=>by
  rw [List.cons_append];have hk : ¬ p.1 = k:=λz=>by rw [zBM z] at hn; cases hn
  rw [zBC hk] at hn;have ih:=zIV k j y r hn
  by_cases e : p.1 = j
  ·rw [zBM e,zBM e,yAN (λz=>hk (e.trans z))]
  ·rw [zBC e,zBC e,ih]
theorem zMH (kvs : List (κ × V)) (k j : κ) (y : V) : zEI (zH2 kvs k y) j = if j = k then some y else zEI kvs j := by
 unfold zH2
 by_cases a : (kvs.any λkv=>decide (kv.1 = k)) = true
 ·rw [yAQ a, zLW]
  rw [zE0] at a
  by_cases e : j = k
  ·obtain ⟨x, hx⟩ := yBf.mp a
   rw [yAQ e,e,hx,yCJ,yAQ rfl]
  ·rw [yAN e]
   cases zEI kvs j with
   | none=>rfl
   | some x=>rw [yCJ,yAN e]
 ·rw [yAN a]
  refine zIV k j y kvs ?_;rw [zE0] at a
  cases q : zEI kvs k with
  | none=>rfl
  | some x=>rw [q] at a; exact (a rfl).elim
theorem zCQ (kvs : List (κ × V)) (k : κ) (v : V) : (zH2 kvs k v).length <= kvs.length + 1 := by
 unfold zH2
 split
 ·rw [yAB]; lia
 ·rw [yAX,yBA,yCs]; lia
theorem zT6 {kvs : List (κ × V)} {k : κ} (v : V) (h : zEI kvs k = none) : zH2 kvs k v = kvs ++ [(k, v)] := by
 unfold zH2;rw [zE0,h];exact yAN (by decide)
theorem RelO.isSome_eq {o : Option V} {u : Option Value} (r : RelO o u) : o.isSome = u.isSome := by
 cases o with
 | none=>cases u with
  | none=>rfl
  | some _=>exact (show False from r).elim
 | some _=>cases u with
  | none=>exact (show False from r).elim
  | some _=>rfl
theorem KV.val {kvs : List (κ × V)} {vs : List (κ × Value)} (r : KV kvs vs) (k : κ) : RelO (zEI kvs k) (valueAt vs k) := by
 unfold KV at r
 induction r with
 | nil=>exact True.intro
 | @cons p q ps qs h t ih =>
  obtain ⟨h1,h2⟩:=h
  by_cases e : p.1 = k
  ·have e' : q.1 = k := h1.symm.trans e
   have b : valueAt (q::qs) k = some q.2:=by simp [valueAt,yCu,e']
   rw [zBM e,b]; exact h2
  ·have e' : ¬ q.1 = k := fun z => e (h1.trans z)
   have b : valueAt (q::qs) k = valueAt qs k:=by simp [valueAt,yCu,e']
   rw [zBC e,b]; exact ih
theorem KV.any {kvs : List (κ × V)} {vs : List (κ × Value)} (r : KV kvs vs) (k : κ) : (kvs.any fun kv => decide (kv.1 = k)) = vs.any fun kv => decide (kv.1 = k) := by
 unfold KV at r
 induction r with
 | nil=>rfl
 | cons h t ih=>rw [yDi,yDi,ih,h.1]
theorem KV.repl {kvs : List (κ × V)} {vs : List (κ × Value)} (r : KV kvs vs) (k : κ) {y : V} {u : Value} (ry : RelV y u) :
  KV (kvs.map λkv=>if kv.1 = k then (kv.1,y) else kv) (vs.map λkv=>if kv.1 = k then (kv.1,u) else kv):=by
 unfold KV at r ⊢
 induction r with
 | nil=>exact .nil
 | @cons p q ps qs h t ih =>
  rw [yAl,yAl];refine .cons ?_ ih;obtain ⟨h1,h2⟩:=h
  by_cases e : p.1 = k
  ·rw [yAQ e,yAQ (h1.symm.trans e)]; exact ⟨h1,ry⟩
  ·rw [yAN e,yAN (λz=>e (h1.trans z))]; exact ⟨h1,h2⟩
theorem KV.put {kvs : List (κ × V)} {vs : List (κ × Value)} (r : KV kvs vs) (k : κ) {y : V} {u : Value} (ry : RelV y u) : KV (zH2 kvs k y) (stored vs k u) := by
 unfold zH2 stored;rw [r.any k]
 by_cases e : (vs.any λkv=>decide (kv.1 = k)) = true
 ·rw [yAQ e,yAQ e]; exact r.repl k ry
 ·rw [yAN e,yAN e]; exact Paired.snoc r ⟨rfl,ry⟩
theorem KV.length {kvs : List (κ × V)} {vs : List (κ × Value)} (r : KV kvs vs) : kvs.length = vs.length:=Paired.length r
end
theorem zKV {P : Program} {w : World} {k : Key} {u : Value} (r : RelV (kV k) u) : (zAI P w).is k u = true := by
 cases k with
 | inl i=>obtain ⟨t,e⟩:=(show ∃ t,u = Value.int i t from r); subst e; exact zKX P w i t
 | inr x=>obtain ⟨t,e⟩:=(show ∃ t,u = Value.str x t from r); subst e; exact zK0 P w x t
theorem zIQ {P : Program} {w : World} : ∀ {ks : List Key} {us : List Value}, Vals (ks.map kV) us -> ItemsAre (zAI P w) ks us
 | [],_,r=>by rw [List.map_nil] at r; cases r; exact .nil
 | k::ks,_,r=>by
  rw [yAl] at r
  cases r with
  | cons h t=>exact .cons (zKV h) (zIQ t)
noncomputable abbrev KT (H : Hp) : List (List Key × V) -> List (List Key × Addr × Value) -> Prop:=Paired λp q=>p.1 = q.1/\H q.2.1 = some (.tup (p.1.map kV))/\RelV p.2 q.2.2
theorem KT.val {H : Hp} {kvs : List (List Key × V)} {xs : List (List Key × Addr × Value)} (r : KT H kvs xs) (k : List Key) : RelO (zEI kvs k) ((atKey xs k).map (·.2)) := by
 induction r with
 | nil=>exact True.intro
 | @cons p q ps qs h t ih =>
  obtain ⟨h1,_,h2⟩:=h
  by_cases e : p.1 = k
  ·have e' : q.1 = k := h1.symm.trans e
   have b : atKey (q::qs) k = some q.2:=by simp [atKey,yCu,e']
   rw [zBM e,b]; exact h2
  ·have e' : ¬ q.1 = k := fun z => e (h1.trans z)
   have b : atKey (q::qs) k = atKey qs k:=by simp [atKey,yCu,e']
   rw [zBC e,b]; exact ih
theorem KT.repl {H : Hp} {kvs : List (List Key × V)} {xs : List (List Key × Addr × Value)} (r : KT H kvs xs) (k : List Key) {y : V} {u : Value} (ry : RelV y u) :
  KT H (kvs.map λkv=>if kv.1 = k then (kv.1,y) else kv) (xs.map (putAt k u)):=by
 induction r with
 | nil=>exact .nil
 | @cons p q ps qs h t ih =>
  rw [yAl,yAl];refine .cons ?_ ih;obtain ⟨h1,h2,h3⟩:=h;unfold putAt
  by_cases e : p.1 = k
  ·rw [yAQ e,yAQ (h1.symm.trans e)]; exact ⟨h1,h2,ry⟩
  ·rw [yAN e,yAN (λz=>e (h1.trans z))]; exact ⟨h1,h2,h3⟩
theorem KT.put {H : Hp} {kvs : List (List Key × V)} {xs : List (List Key × Addr × Value)} (r : KT H kvs xs) (k : List Key) {b : Addr} {y : V} {u : Value} (hb : H b = some (.tup (k.map kV))) (ry : RelV y u) :
  KT H (zH2 kvs k y) (storedH xs k b u):=by
 have e : (kvs.any fun kv => decide (kv.1 = k)) = (atKey xs k).isSome := by
  rw [zE0,(r.val k).isSome_eq,Option.isSome_map]
 unfold zH2 storedH;rw [e]
 by_cases q : (atKey xs k).isSome = true
 ·rw [yAQ q,yAQ q]; exact r.repl k ry
 ·rw [yAN q,yAN q]; exact Paired.snoc r ⟨rfl,hb,ry⟩
theorem KT.keeps {H H' : Hp} {kvs : List (List Key × V)} {xs : List (List Key × Addr × Value)} (r : KT H kvs xs) (ht : ∀ b ys, H b = some (.tup ys) -> H' b = some (.tup ys)) : KT H' kvs xs :=
 Paired.mapP r λ_ _ z=>⟨z.1,ht _ _ z.2.1,z.2.2⟩
section
variable {P : Program} {w : World} {H : Hp} {h : Heap} {a : Addr}
theorem zY6 {u : HO} (ok : HOk P w H h) (e : Rd H a u) : ObjOk P w H h a u:=e.ok ok
theorem zPM {kvs : List (Key × V)} (ok : HOk P w H h) (e : Rd H a (.dK kvs)) : kvs.length <= sizeLine /\ (a == sysModules) = false /\ ∃ vs, KV kvs vs /\ h.DictOf (zAI P w) a vs :=
 show ObjOk P w H h a (.dK kvs) from zY6 ok e
theorem zWH {kvs : List (Key × V)} (ok : HOk P w H h) (e : H a = some (.dK kvs)) : kvs.length <= sizeLine/\(a == sysModules) = false/\∃ vs,KV kvs vs/\h.DictOf (zAI P w) a vs:=zPM ok (.inl e)
theorem zIK {ks : List Key} (ok : HOk P w H h) (e : H a = some (.tup (ks.map kV))) : (tupleKind (zAI P w)).is h ks a := by
 obtain ⟨_,its,r,o,h1,h2,n,h3⟩:=(show ObjOk P w H h a (.tup (ks.map kV)) from ok a _ e);exact ⟨o,its.toArray,n,h1,h2,h3,by simpa using zIQ r⟩
theorem zO9 {kvs : List (List Key × V)} (ok : HOk P w H h) (e : Rd H a (.dT kvs)) : kvs.length <= sizeLine /\ (a == sysModules) = false /\
  ∃ xs,KT H kvs xs/\h.DictOfH (tupleKind (zAI P w)) a xs:=by
 obtain ⟨z,y,xs,r,o,es,ep,h1,h2,h3,h4,h5⟩:=(show ObjOk P w H h a (.dT kvs) from zY6 ok e);refine ⟨z,y,xs,r,o,es,ep,h1,h2,h3,h4,λx hx => ?_,h5⟩
 have all : ∀ {l : List (List Key × V)} {m : List (List Key × Addr × Value)}, KT H l m -> ∀ x ∈ m, (tupleKind (zAI P w)).is h x.1 x.2.1 := by
  intro l m q
  induction q with
  | nil=>intro x hx; exact nomatch hx
  | @cons p q ps qs hq t ih =>
   intro x hx
   rcases yAb.mp hx with e | hx
   ·subst e
    exact zIK ok (by rw [<- hq.1]; exact hq.2.1)
   ·exact ih x hx
 exact all r x hx
theorem zbB {kvs : List (List Key × V)} (ok : HOk P w H h) (e : H a = some (.dT kvs)) : kvs.length <= sizeLine /\ (a == sysModules) = false /\
  ∃ xs,KT H kvs xs/\h.DictOfH (tupleKind (zAI P w)) a xs:=zO9 ok (.inl e)
end
noncomputable def DGet (H : Hp) (a : Addr) (y : V) (r : Option V) : Prop :=
 (∃ kvs k,Rd H a (.dK kvs)/\y = kV k/\r = zEI kvs k) \/ ∃ kvs k b,Rd H a (.dT kvs)/\y = .ref b/\H b = some (.tup (k.map kV))/\r = zEI kvs k
noncomputable def DPut (H : Hp) (a : Addr) (y v : V) (H' : Hp) : Prop :=
 (∃ kvs k,H a = some (.dK kvs)/\y = kV k/\kvs.length < sizeLine/\H' = upd H a (.dK (zH2 kvs k v))) \/
 ∃ kvs k b,H a = some (.dT kvs)/\y = .ref b/\H b = some (.tup (k.map kV))/\kvs.length < sizeLine/\H' = upd H a (.dT (zH2 kvs k v))
theorem DGet.k {H : Hp} {a : Addr} {kvs : List (Key × V)} {k : Key} (e : H a = some (.dK kvs)) : DGet H a (kV k) (zEI kvs k) := .inl ⟨kvs,k,.inl e,rfl,rfl⟩
theorem DPut.k {H : Hp} {a : Addr} {kvs : List (Key × V)} {k : Key} {v : V} (e : H a = some (.dK kvs)) (hl : kvs.length < sizeLine) : DPut H a (kV k) v (upd H a (.dK (zH2 kvs k v))) := .inl ⟨kvs,k,e,rfl,hl,rfl⟩
section
variable {X : Cx} {pins : List (Addr × Obj)} {σ : St} {H : Hp} {s : Shared} {a : Addr} {y v : V} {u r : Value} {o : Option V} {A : Around} {E : Value -> Shared -> Prop}
theorem Inv.big (I : Inv X pins σ H s) : sysModules < s.heap.objs.size := by
 have h : mainGlobals < s.heap.objs.size:=(I.mod.glob.keeps I.bk).lt;exact Nat.lt_trans (by decide) h
theorem zR1 {Q : Value -> Shared -> Prop} (hu : A.units + 1 < cLine) (I : Inv X pins σ H s) (g : DGet H a y (some v)) (ry : RelV y u) (h : ∀ w' s', Inv X pins σ H s' -> RelV v w' -> Q w' s') :
  wpAny (model X.prog X.w) A (getItem (.ref a) u) Q E s:=by
 rcases g with ⟨kvs,k,e,ey,l⟩ | ⟨kvs,k,b,e,ey,eb,l⟩
 ·subst ey
  obtain ⟨z,hd,vs,rel,dd⟩:=zPM I.hok e;obtain ⟨w',hw,rw'⟩:=RelO.some_of (v:=v) (o:=valueAt vs k) (by rw [l]; exact rel.val k);exact wpAny_getItem_of (zKV ry) dd.mapOf hw (h w' _ (I.tok _) rw')
 ·subst ey
  cases (show u = Value.ref b from ry)
  obtain ⟨z,hd,xs,rel,dd⟩:=zO9 I.hok e;obtain ⟨w',hw,rw'⟩:=RelO.some_of (v:=v) (o:=(atKey xs k).map (·.2)) (by rw [l]; exact rel.val k);obtain ⟨p,hp,hp2⟩:=yCT.mp hw;refine wpAny_getItem_heap (yDP hu) (zIK I.hok eb) dd hp ?_;rw [hp2];exact h w' _ (I.tok _) rw'
theorem zcC {Q : Value -> Shared -> Prop} (hu : A.units + 1 < cLine) (I : Inv X pins σ H s) (g : DGet H a y o) (ry : RelV y u) (h : ∀ s', Inv X pins σ H s' -> Q (.bool o.isSome) s') :
  wpAny (model X.prog X.w) A (compareOp .In u (.ref a)) Q E s:=by
 rcases g with ⟨kvs,k,e,ey,l⟩ | ⟨kvs,k,b,e,ey,eb,l⟩
 ·subst ey
  obtain ⟨z,hd,vs,rel,dd⟩:=zPM I.hok e;refine wpAny_in_of (zKV ry) hd dd.mapOf ?_;rw [<- (rel.val k).isSome_eq,<- l];exact h _ (I.tok _)
 ·subst ey
  cases (show u = Value.ref b from ry)
  obtain ⟨z,hd,xs,rel,dd⟩:=zO9 I.hok e;refine wpAny_in_heap (yDP hu) (zIK I.hok eb) hd dd ?_;have q:=(rel.val k).isSome_eq;rw [Option.isSome_map] at q;rw [<- q,<- l];exact h _ (I.tok _)
theorem zVL {Q : Value -> Shared -> Prop} (hu : A.units + 1 < cLine) (I : Inv X pins σ H s) (g : DGet H a y o) (ry : RelV y u) (h : ∀ s', Inv X pins σ H s' -> Q (.bool (!o.isSome)) s') :
  wpAny (model X.prog X.w) A (compareOp .NotIn u (.ref a)) Q E s:=by
 rcases g with ⟨kvs,k,e,ey,l⟩ | ⟨kvs,k,b,e,ey,eb,l⟩
 ·subst ey
  obtain ⟨z,hd,vs,rel,dd⟩:=zPM I.hok e;refine wpAny_notIn_of (zKV ry) hd dd.mapOf ?_;rw [<- (rel.val k).isSome_eq,<- l];exact h _ (I.tok _)
 ·subst ey
  cases (show u = Value.ref b from ry)
  obtain ⟨z,hd,xs,rel,dd⟩:=zO9 I.hok e;refine wpAny_notIn_heap (yDP hu) (zIK I.hok eb) hd dd ?_;have q:=(rel.val k).isSome_eq;rw [Option.isSome_map] at q;rw [<- q,<- l];exact h _ (I.tok _)
theorem zJZ {h' : Heap} {t' : Nat} {ob : HO} (I : Inv X pins σ H s) (mu : Mut (H a)) (hs : Heap.SameBut a s.heap h') (he : ∃ q, h'.get? a = some q) (new : ObjOk X.prog X.w (upd H a ob) h' a ob) :
  Inv X pins σ (upd H a ob) { s with heap:=h',toks:=t' } :=
 I.write (x:=a) (e:=a) mu (.inl rfl) (λb q hb z=>(hs.2 b hb).trans z) he new
theorem zUQ {P : Program} {w : World} {H' : Hp} {h' : Heap} {kvs : List (Key × V)} {vs : List (Key × Value)} (z : kvs.length <= sizeLine) (hd : (a == sysModules) = false) (rel : KV kvs vs) (dd : h'.DictOf (zAI P w) a vs) :
  ObjOk P w H' h' a (.dK kvs):=⟨z,hd,vs,rel,dd⟩
theorem zOM {H' : Hp} {Q : Unit -> Shared -> Prop} (hu : A.units + 1 < cLine) (I : Inv X pins σ H s) (g : DPut H a y v H') (ry : RelV y u) (rv : RelV v r) (h : ∀ s', Inv X pins σ H' s' -> Q () s') :
  wpAny (model X.prog X.w) A (setItem (.ref a) u r) Q E s:=by
 rcases g with ⟨kvs,k,e,ey,l,eH⟩ | ⟨kvs,k,b,e,ey,eb,l,eH⟩
 ·subst ey eH
  obtain ⟨z,hd,vs,rel,dd⟩:=zWH I.hok e;have hz : vs.length <= sizeLine:=by rw [<- rel.length]; exact z
  have hl : (zH2 kvs k v).length <= sizeLine:=by have:=zCQ kvs k v; lia
  refine wpAny_setItem_pairs (hsz:=hz) (zKV ry) dd λh' dd' hs=>h _ ?_;have he : ∃ q,h'.get? a = some q:=let ⟨q,_,_,hq,_⟩:=dd'; ⟨q,hq⟩;exact zJZ I (by rw [e]; exact True.intro) hs he (zUQ hl hd (rel.put k rv) dd')
 ·subst ey eH
  cases (show u = Value.ref b from ry)
  obtain ⟨z,hd,xs,rel,dd⟩:=zbB I.hok e;have hz : xs.length <= sizeLine:=by rw [<- Paired.length rel]; exact z
  have hl : (zH2 kvs k v).length <= sizeLine:=by have:=zCQ kvs k v; lia
  refine wpAny_setItem_heap (hsz:=hz) (yDP hu) (zIK I.hok eb) dd λh' dd' hs=>h _ ?_;obtain ⟨q,es,ep,hq,h2,h3,h4,_,h5⟩:=dd';refine zJZ I (by rw [e]; exact True.intro) hs ⟨q,hq⟩ ⟨hl,hd,_,(rel.put k eb rv).keeps λc ys ec => ?_,q,es,ep,hq,h2,h3,h4,h5⟩;rw [zA6 (zaL ec e (λz=>nomatch z))];exact ec
end
section
variable {X : Cx} {pins : List (Addr × Obj)} {σ : St} {H : Hp} {s : Shared} {a : Addr} {kvs : List (Key × V)} {k : Key} {u : Value} {A : Around} {E : Value -> Shared -> Prop}
end
noncomputable def zbV (i : Expr) : Prop:=∀ ov iv,subscripted i false ov iv = operate [ov,iv] (getItem ov iv)
theorem zXG {prog : Program} {w : World} {A : Around} {E : Value -> Shared -> Prop} {s : Shared} {env : Env} {value slice : Expr} {pos : Pos} {T id : String} {Q : Value -> Shared -> Prop}
  (hl : typeLookup (.type T) "__getitem__" = pure (some (.builtin id))) (hs : zbV slice)
  (h : wpAny (model prog w) A (eval value env) (λo s₁ => wpAny (model prog w) A (eval slice env) (λi s₂ => s₂.TypeIs o T/\wpAny (model prog w) A (getItem o i) Q E s₂) E s₁) E s) :
  wpAny (model prog w) A (eval (.Subscript value slice pos) env) Q E s:=by
 refine Subscript_ (yBO h (λo s₁ h₁ => yBO h₁ (λi s₂ h₂ => ?_) λ_ _ x=>x) λ_ _ x=>x);obtain ⟨hT,h₂⟩:=h₂;unfold subscriptTail;refine yAD ?_;rw [getitemInPython_of_ne hT.not_modules];refine yAD (wpAny_specialOf hT hl ?_)
 have fin : wpAny (model prog w) A (subscripted slice false o i) (fun r s₃ => wpAny (model prog w) A (letTemporaryGo value o r >>= fun _ => pure r) Q E s₃) E s₂ := by
  rw [hs o i];exact wpAny_operating (yBO h₂ (λr s₃ h₃ => yAD (wpAny_letTemporaryGo (yAW h₃))) λ_ _ x=>x)
 first
  | exact yAW (yAD fin)
  | exact yAD (yAW (yAD fin))
  | exact yAD fin
theorem zKA {X : Cx} {pins : List (Addr × Obj)} {σ : St} {H : Hp} {s : Shared} {a : Addr} {y : V} {o : Option V} (I : Inv X pins σ H s) (g : DGet H a y o) : s.TypeIs (.ref a) "dict" := by
 rcases g with ⟨kvs,k,e,_,_⟩ | ⟨kvs,k,b,e,_,_,_⟩
 ·obtain ⟨_, _, vs, _, dd⟩ := zPM I.hok e
  exact dd.typeIs
 ·obtain ⟨_, _, xs, _, dd⟩ := zO9 I.hok e
  exact dd.typeIs
noncomputable def zbJ (td ty : TE) : TE:=λσ H Q=>td σ H λx H1=>ty σ H1 λy H2=>∃ a v,x = .ref a/\DGet H2 a y (some v)/\Q v H2
noncomputable def zd4 (ty td : TE) : TE:=λσ H Q=>ty σ H λy H1=>td σ H1 λx H2=>∃ a o,x = .ref a/\DGet H2 a y o/\Q (.bl o.isSome) H2
noncomputable def zVI (ty td : TE) : TE:=λσ H Q=>ty σ H λy H1=>td σ H1 λx H2=>∃ a o,x = .ref a/\DGet H2 a y o/\Q (.bl (!o.isSome)) H2
noncomputable def zaE (td ty tv : TE) : TS:=λD σ H=>tv σ H λv H1=>td σ H1 λx H2=>ty σ H2 λy H3=>∃ a H4,x = .ref a/\DPut H3 a y v H4/\D.nx σ H4
section
variable {X : Cx} {o i e value : Expr} {pos pos' tpos : Pos} {td ty tv : TE}
theorem zOI (hu : X.A.units + 1 < cLine) (ho : PE X o td) (hi : PE X i ty) (hs : zbV i) : PE X (.Subscript o i pos) (zbJ td ty) := by
 intro pins s σ H Q I h;refine zXG PySem.F.slot_dict_getitem.lookup hs (thn (ho pins s σ H _ I h) λu s1 ⟨x,H1,I1,rx,q1⟩=>thn (hi pins s1 σ H1 _ I1 q1) λiv s2 ⟨y,H2,I2,ry,a,v,ex,g,q2⟩ => ?_);subst ex;obtain rfl : u = Value.ref a:=rx;exact ⟨zKA I2 g,zR1 hu I2 g ry λw' s3 I3 rw'=>⟨v,H2,I3,rw',q2⟩⟩
theorem zY0 (hu : X.A.units + 1 < cLine) (hi : PE X i ty) (ho : PE X o td) : PC X .In i o (zd4 ty td) := by
 intro pins s σ H Q I h;refine thn (hi pins s σ H _ I h) λiv s1 ⟨y,H1,I1,ry,q1⟩=>thn (ho pins s1 σ H1 _ I1 q1) λu s2 ⟨x,H2,I2,rx,a,ov,ex,g,q2⟩ => ?_;subst ex;obtain rfl : u = Value.ref a:=rx;exact zcC hu I2 g ry λs3 I3=>⟨.bl ov.isSome,H2,I3,rfl,q2⟩
theorem zIB (hu : X.A.units + 1 < cLine) (hi : PE X i ty) (ho : PE X o td) : PC X .NotIn i o (zVI ty td) := by
 intro pins s σ H Q I h;refine thn (hi pins s σ H _ I h) λiv s1 ⟨y,H1,I1,ry,q1⟩=>thn (ho pins s1 σ H1 _ I1 q1) λu s2 ⟨x,H2,I2,rx,a,ov,ex,g,q2⟩ => ?_;subst ex;obtain rfl : u = Value.ref a:=rx;exact zVL hu I2 g ry λs3 I3=>⟨.bl (!ov.isSome),H2,I3,rfl,q2⟩
theorem zWG (hu : X.A.units + 1 < cLine) (ho : PE X o td) (hi : PE X i ty) (hv : PE X value tv) (hs : swapsWith value (some (.Subscript o i pos')) pos.line X.env = pure false) :
  PS X (.Assign [.Subscript o i pos'] value pos) (zaE td ty tv):=by
 intro pins s σ H D I h;refine wpAny_Assign_Subscript (thn (hv pins s σ H _ I h) λr s1 ⟨v,H1,I1,rv,q1⟩=>thn (ho pins s1 σ H1 _ I1 q1) λu s2 ⟨x,H2,I2,rx,q2⟩=>thn (hi pins s2 σ H2 _ I2 q2) λiv s3 ⟨y,H3,I3,ry,a,H4,ex,g,q3⟩ => ?_) hs;subst ex;obtain rfl : u = Value.ref a:=rx;exact zOM hu I3 g ry rv λs4 I4=>⟨σ,H4,I4,q3⟩
end
theorem zLO {P : Program} {w : World} {H : Hp} (h : Heap) (hb : sysModules < h.objs.size) : ObjOk P w H (h.push { cls := .type "dict", data := .dict #[] }) h.objs.size (.dK []) :=
 ⟨yBL _,yCk.mpr (Ne.symm (yAi hb)),[],.nil,Heap.DictOf.new h⟩
noncomputable def zUO : TE:=λ_ H Q=>∀ p,H p = none -> Q (.ref p) (upd H p (.dK []))
section
variable {X : Cx} {pos : Pos}
theorem zMB : PE X (.Dict [] [] pos) zUO := fun pins s σ H Q I h =>
 wpAny_Dict_empty ⟨.ref s.heap.objs.size,_,I.laid (a:=s.heap.objs.size) (o := .dK []) (t':=s.toks) (λ_ _ q=>yAC _ q) (yAE _) (zLO s.heap I.big),rfl,h _ (I.hok.fresh (yAE _))⟩
end
structure M1 (X : Cx) (o : Expr) (m : Str) (apos : Pos) (e : Expr) (cpos : Pos) : Prop where
 base : attributeBase o m X.env (eval o X.env) = eval o X.env
 few : ((backTo cpos (starEach [e] X.env)).all (fun x => !x.1) && (backToKw cpos (keywordEach [] X.env)).all (fun x => x.1.isSome)
  && decide (([e] : List Expr).length + ([] : List Keyword).length + (if ([] : List Keyword).isEmpty then 0 else 1) < 30)) = true
 line : (apos.endLine == cpos.line) = true
 trees : backTo cpos (starEach [e] X.env) = [(false,eval e X.env)]
structure M2 (X : Cx) (o : Expr) (m : Str) (apos : Pos) (e f : Expr) (cpos : Pos) : Prop where
 base : attributeBase o m X.env (eval o X.env) = eval o X.env
 few : ((backTo cpos (starEach [e, f] X.env)).all (fun x => !x.1) && (backToKw cpos (keywordEach [] X.env)).all (fun x => x.1.isSome)
  && decide (([e,f] : List Expr).length + ([] : List Keyword).length + (if ([] : List Keyword).isEmpty then 0 else 1) < 30)) = true
 line : (apos.endLine == cpos.line) = true
 trees : backTo cpos (starEach [e,f] X.env) = [(false,eval e X.env),(false,eval f X.env)]
section
variable {X : Cx} {pins : List (Addr × Obj)} {σ : St} {H : Hp} {s : Shared} {a : Addr} {y d : V} {u r : Value} {o : Option V} {A : Around} {E : Value -> Shared -> Prop}
end
section
variable {X : Cx} {o e f : Expr} {apos cpos : Pos} {td ty tx : TE}
end
section
variable {X : Cx} {pins : List (Addr × Obj)} {σ : St} {H : Hp} {s : Shared} {a : Addr} {kvs : List (Key × V)} {A : Around} {E : Value -> Shared -> Prop}
end
section
variable {X : Cx} {pins : List (Addr × Obj)} {σ : St} {H : Hp} {s : Shared} {a : Addr} {y : V} {u : Value} {A : Around} {E : Value -> Shared -> Prop}
end
noncomputable def zEM (scope : Scope) (xs : List Str) (fv : List (Str × Nat)) : Bool :=
 (scope.kind == .function)&&(scope.names.all λy=>y.2 != .cell)&&(scope.names.all λy=>y.2 != .local||scope.names.lookup y.1 == some .local)&&(xs.all λx=>scope.names.lookup x == some .local) &&
 (scope.names.all λy=>y.2 != .free||(fv.map (·.1)).contains y.1)&&decide ((xs++fv.map (·.1)).Nodup)
structure CompOkT (scope : Scope) (xs : List Str) (fv : List (Str × Nat)) : Prop where
 kind : scope.kind = .function
 nocell : ∀ y∈scope.names,y.2 ≠ .cell
 names : ∀ y∈scope.names,y.2 = .local -> scope.names.lookup y.1 = some .local
 hx : ∀ x∈xs,scope.names.lookup x = some .local
 fr : ∀ y∈scope.names,y.2 = .free -> y.1∈fv.map (·.1)
 nd : (xs++fv.map (·.1)).Nodup
theorem zDE {scope : Scope} {xs : List Str} {fv : List (Str × Nat)} (h : zEM scope xs fv = true) : CompOkT scope xs fv := by
 unfold zEM at h;simp only [yAd,yAu,yDM,yAL,bne_iff_ne,yAc,List.contains_iff_mem,ne_eq] at h;obtain ⟨⟨⟨⟨⟨h1,h2⟩,h3⟩,h4⟩,h5⟩,h6⟩:=h;exact ⟨h1,h2,λy hy hl=>(h3 y hy).resolve_left λz=>z hl,h4,λy hy hl=>(h5 y hy).resolve_left λz=>z hl,h6⟩
noncomputable def cxT (X : Cx) (scope : Scope) (xs : List Str) (fv : List (Str × Nat)) (C : Addr) (s₀ : Shared) (H₀ : Hp) (ex : List Addr) (pn : List (Addr × Obj)) : Cx :=
 { X with N:=xs++fv.map (·.1),s₀ := s₀,H₀ := H₀,env:=compEnvC scope (zXN scope X.env) C X.env,outer:=X.stack,stack:=X.stack,ex:=ex,fn:=λ_=>false,pn:=pn,xe:=λ_ _=>False }
noncomputable def ρT (xs : List Str) (fv : List (Str × Nat)) (σ : St) : St:=xs.map (λ_=>none)++fv.map λp=>(σ[p.2]?).join
noncomputable def zI5 (xs : List Str) (a b : St) : Prop:=b.drop xs.length = a.drop xs.length
theorem zSZ {xs : List Str} {fv : List (Str × Nat)} {σ b : St} (h : zI5 xs (ρT xs fv σ) b) {j : Nat} {v : V} (e : (ρT xs fv σ)[j]? = some (some v)) : b[j]? = some (some v) := by
 unfold zI5 at h
 by_cases hj : j < xs.length
 ·unfold ρT at e
  rw [yBR (by simpa using hj),yAe] at e
  cases q : xs[j]? with
  | none=>rw [q] at e; cases e
  | some y=>rw [q] at e; cases e
 ·have ej : j = xs.length + (j - xs.length) := by lia
  have e1 : (ρT xs fv σ).drop xs.length = b.drop xs.length:=h.symm;rw [ej,<- yCV] at e;rw [ej,<- yCV,<- e1];exact e
noncomputable abbrev TB:=Addr -> St -> Hp -> (Hp -> Prop) -> Prop
noncomputable def PB (X : Cx) (body : Addr -> Env -> Sem Unit) (tb : TB) : Prop :=
 ∀ (pins : List (Addr × Obj)) (s : Shared) (σ : St) (H : Hp) (D : Addr) (N : Hp -> Prop),Inv X pins σ H s -> tb D σ H N -> wpAny (model X.prog X.w) X.A (body D X.env) (λ_ s'=>∃ H',Inv X pins σ H' s'/\N H') X.xe s
noncomputable def zCG (o0 : HO) (xs : List Str) (fv : List (Str × Nat)) (g : TG) (tt : TT) (tb : TB) (σ : St) (J : It) (H1 : Hp) (Q : VK) : Prop :=
 ∀ D,H1 D = none -> ∃ W : Nat -> Nat -> Hp -> Prop,(∃ m,W 0 m (upd H1 D o0))/\∀ i m H,W i m H ->
  (J.stop i H /\ Q (.ref D) H) \/ (J.go i H /\ ∃ N : Hp -> Prop, (∀ H', N H' -> ∃ m', m' < m /\ W (i + 1) m' H') /\ ∀ x H', J.yld i H x H' -> g x (ρT xs fv σ) H' fun σ2 H2 => zI5 xs (ρT xs fv σ) σ2 /\ tt σ2 H2 fun b H3 =>
   if b = true then tb D σ2 H3 N else N H3)
noncomputable def zMI (o0 : HO) (wi : TI) (xs : List Str) (fv : List (Str × Nat)) (g : TG) (tt : TT) (tb : TB) : TE:=λσ H Q=>wi σ H λJ H1=>zCG o0 xs fv g tt tb σ J H1 Q
noncomputable def zRB (X : Cx) (newAcc : Sem Value) (o0 : HO) : Prop :=
 ∀ (pins : List (Addr × Obj)) (σ : St) (H : Hp) (s : Shared) (E : Value -> Shared -> Prop) (Q : Value -> Shared -> Prop),Inv X pins σ H s ->
  (∀ s',Inv X pins σ (upd H s.heap.objs.size o0) s' -> s'.heap.objs.size = s.heap.objs.size + 1 -> (∀ b o,s.heap.get? b = some o -> s'.heap.get? b = some o) -> Q (.ref s.heap.objs.size) s') -> wpAny (model X.prog X.w) X.A newAcc Q E s
section
variable {X : Cx} {pins : List (Addr × Obj)} {σ : St} {scope : Scope} {xs : List Str} {fv : List (Str × Nat)} {e tg iter : Expr} {ifs : List Expr} {pos : Pos} {tt : TT} {tb : TB} {g : TG} {o0 : HO} {body : Addr -> Env -> Sem Unit} {newAcc : Sem Value}
theorem zDP {s₂ : Shared} {H2 : Hp} {it : Addr} {fp : List Addr} {tn : Nat -> Heap -> Prop} {J : It} {Q : VK} {E : Value -> Shared -> Prop} {RR : Value -> Addr -> Result -> Shared -> Prop}
  (hc : X.calm = true) (S : CompOkT scope xs fv) (hv : FvOk X scope fv)
  (ht : ∀ C s₀ H₀ ex pn,PTl (cxT X scope xs fv C s₀ H₀ ex pn) ifs tt) (hg : ∀ C s₀ H₀ ex pn,PG (cxT X scope xs fv C s₀ H₀ ex pn) tg g) (he : ∀ C s₀ H₀ ex pn,PB (cxT X scope xs fv C s₀ H₀ ex pn) body tb) (hnew : zRB X newAcc o0)
  (hund : ∀ (it acc : Value) (env : Env),X.A.under (.compLoop e 0 it acc env) = X.A) (hden : ∀ (it acc : Value) (env : Env),(model X.prog X.w).den (.compLoop e 0 it acc env) = (compTurn e 0 it acc env).onRaise (λz=>do noteFrame z env; theTreesLotGoes z))
  (hturn : ∀ (it : Value) (D : Addr) (env : Env), compTurn e 0 it (.ref D) env = (do
   standAt iter.pos
   match <- pyNext it with
   | none=>pure (.done .next)
   | some v =>
    letOwnedTupleGo tg it v
    assign tg env v
    let mut ok:=true
    for c in ifs do
     if ok then ok <- isTrue c env (eval c env)
    if ok then
     body D env
    again (.compLoop e 0 it (.ref D) env)))
  (hstart : ∀ (it acc : Value) (env : Env) (R : Result -> Shared -> Prop) (s : Shared), codeAny (model X.prog X.w) X.A (.compLoop e 0 it acc env) R s -> wpAny (model X.prog X.w) X.A (pyIter it) (fun it' s' => codeAny (model X.prog X.w) X.A (.compLoop e 0 it' acc env) R s') (notedBy (model X.prog X.w) X.A env fun x s' => R (.error x) s') s ->
   codeAny (model X.prog X.w) X.A (.compStart e 0 it acc env) R s)
  (I2 : Inv X pins σ H2 s₂) (T : Turn X.prog X.w X.K tg J fp it tn) (st2 : tn 0 s₂.heap) (f2 : ∀ b∈fp,zGL X pins H2 b) (hw : zCG o0 xs fv g tt tb σ J H2 Q)
  (hRR : ∀ D C s' H' m,Inv X pins σ H' s' -> Q (.ref D) H' -> s'.heap.Ns C m -> zGL X pins H' C -> RR (.ref D) C (.ok .next) s') :
  wpAny (model X.prog X.w) X.A newAcc (fun acc s₃ => wpAny (model X.prog X.w) X.A (newFunctionEnv scope X.env.globals (zXN scope X.env) [] X.env.qual none .none (some X.env)) (fun cenv s₄ =>
   codeAny (model X.prog X.w) X.A (.compStart e 0 (.ref it) acc { cenv with scope:=relabel scope X.env }) (RR acc cenv.locals) s₄) E s₃) E s₂ := by
 have kap : ∀ y : Str, (y, NameKind.free) ∈ scope.names -> (X.env.kindOf y = some .cell \/ X.env.kindOf y = some .free) := fun y hy => by
  obtain ⟨p,hp,e⟩:=yAs.mp (S.fr _ hy rfl);obtain ⟨j,hj⟩:=yCf hp;have q:=(hv.get hj).2.1;dsimp only at e;rw [e] at q;exact q
 have clk : ∀ y c, (zXN scope X.env).lookup y = some c -> X.env.cells.lookup y = some c := fun y c e => by
  rcases zHL (yBe e) with z | ⟨z,w⟩
  ·simp at z
  ·obtain ⟨c', e'⟩ := I2.ok.has y (kap y z)
   rw [e'] at w ⊢;rw [w]; rfl
 have hD0 : H2 s₂.heap.objs.size = none:=I2.fresh;refine hnew pins σ H2 s₂ E _ I2 λs₃ I3 hsz3 old3 => ?_;generalize hH3 : upd H2 s₂.heap.objs.size o0 = H3 at I3;refine wpAny_newFunctionEnv S.nocell (by intro y hy; simp at hy) (λh₁ hns₁ hsb₁ => ?_) S.kind;have old4 : ∀ b o,s₃.heap.get? b = some o -> h₁.get? b = some o:=λb o e=>hsb₁.extBut b o (yAi (yAJ e)) (yAC _ e)
 have lt2 : ∀ b ∈ fp, b < s₂.heap.objs.size := fun b hb => by
  obtain ⟨o,e,_⟩:=T.obj _ _ st2 b hb;exact yAJ e
 have okX : (cxT X scope xs fv s₃.heap.objs.size s₃ H3 fp (X.pn ++ pins)).Ok := by
  refine ⟨I2.ok.mod,?_,I2.ok.glob,I2.ok.blt,yAE _,λy z c e1 e2 => ?_,λy hy => ?_,λy c z => ?_,I2.ok.hd,I2.ok.frames,.inl rfl,λb hb => ?_,λb o e=>I3.bs b o e,yAk I3.ok.bsz I3.sz,λb o e hb => ?_,λb hb z => ?_,I3.stack,λb hb=>I3.stkFree b hb⟩
  ·exact S.kind
  ·exact I2.ok.inj y z c (clk y c e1) (clk z c e2)
  ·have hy' : (y, NameKind.free) ∈ scope.names := by
    rcases hy with hy | hy
    ·rcases zGC (yBe hy) with z | z
     ·exact absurd rfl (S.nocell _ z)
     ·exact z
    ·rcases zGC (yBe hy) with z | z <;> exact z
   exact yBf.mp (zF7 (env:=X.env) (acc:=[]) hy')
  ·cases z
  ·refine ⟨yAi (by rw [hsz3]; exact yCA (lt2 b hb)),λy c e=>(f2 b hb).2.2.2.2.1 y c (clk y c e)⟩
  ·rcases (f2 b hb).2.2.2.1 with z | z
   ·exact I2.ok.noex b o e z
   ·exact absurd (yAh (yAJ e) (yAk I2.ok.bsz z)) (yBV _)
  ·rcases yAb.mp (I2.stkSub b z) with w | w
   ·exact (f2 b hb).2.1 w
   ·exact (f2 b hb).2.2.1 w
 have C0 : H3 s₃.heap.objs.size = none:=I3.fresh
 have I4 : Inv (cxT X scope xs fv s₃.heap.objs.size s₃ H3 fp (X.pn ++ pins)) [] (ρT xs fv σ) H3 { s₃ with heap := h₁, toks := s₃.toks + ([] : List (Str × Value)).length } := by
  refine ⟨okX,rfl,I3.bare,Un.kept old4,⟨_,hns₁,λi y v e1 e2 e3 => ?_⟩,λy c e => ?_,C0,λy c e=>I3.freeC y c (clk y c e),λp hp => ?_,I3.hok.kept old4,?_⟩
  ·have hi : ¬ i < xs.length := fun hi => by
    have e2':=e2;unfold ρT at e2';rw [yBR (by simpa using hi),yAe] at e2'
    cases q : xs[i]? with
    | none=>rw [q] at e2'; cases e2'
    | some y=>rw [q] at e2'; cases e2'
   obtain ⟨j,rfl⟩ : ∃ j,i = xs.length + j:=⟨i - xs.length,by lia⟩
   have e1' : (fv.map (·.1))[j]? = some y := by
    have q : (xs++fv.map (·.1))[xs.length + j]? = some y:=e1;rw [yBP (by lia)] at q
    simpa using q
   have e2' : (fv.map fun p => (σ[p.2]?).join)[j]? = some (some v) := by
    have q : (xs.map (λ_=>(none : Option V))++fv.map λp=>(σ[p.2]?).join)[xs.length + j]? = some (some v):=e2;rw [yBP (by simp)] at q
    simpa using q
   rw [yAe] at e1' e2'
   cases ep : fv[j]? with
   | none=>rw [ep] at e1'; cases e1'
   | some p =>
    rw [ep] at e1' e2';have ey : p.1 = y:=by simpa using e1'
    have ev : (σ[p.2]?).join = some v:=by simpa using e2'
    obtain ⟨q1,q2,q3⟩:=hv.get ep;rw [ey] at q1 q2 q3
    have ev' : σ[p.2]? = some (some v) := by
     cases es : σ[p.2]? with
     | none=>rw [es] at ev; cases ev
     | some w=>rw [es] at ev; cases w with
      | none=>cases ev
      | some w'=>cases ev; rfl
    obtain ⟨m,hn,hl⟩:=I3.loc;obtain ⟨u,r,lk⟩:=hl p.2 y v q1 ev' (by rcases q2 with z | z; exact .inr (.inl z); exact .inr (.inr z));refine ⟨u,r,.inr ⟨zEY q3,?_⟩⟩;obtain ⟨c,e⟩:=yBf.mp (zF7 (env:=X.env) (acc:=[]) (yBe q3));refine ⟨c,e,?_⟩
    rcases lk with ⟨k,_⟩ | ⟨_,c',e',z⟩
    ·rcases q2 with w | w
     ·rw [show X.env.kindOf y = _ from w] at k; cases k
     ·rw [show X.env.kindOf y = _ from w] at k; cases k
    ·rw [clk y c e] at e'
     cases e'
     obtain ⟨o,ho,hd⟩:=z;exact ⟨o,old4 _ _ ho,hd⟩
  ·obtain ⟨v, o, ho, hd⟩ := I3.cell y c (clk y c e)
   exact ⟨v,o,old4 _ _ ho,hd⟩
  ·have hp' : p ∈ X.pn ++ pins := by simpa [cxT] using hp
   obtain ⟨e,n,ne,nf,d⟩:=I3.pin p hp';exact ⟨old4 _ _ e,n,yAi (yAJ e),λz=>(yAb.mp (I3.stkSub p.1 z)).elim ne nf,d⟩
  ·simp [ρT,cxT]
 have fpX : ∀ {H' : Hp}, (∀ b ∈ fp, H' b = none) -> ∀ b ∈ fp, zGL (cxT X scope xs fv s₃.heap.objs.size s₃ H3 fp (X.pn ++ pins)) [] H' b := fun hn b hb =>
  ⟨hn b hb,yAi (by show b < s₃.heap.objs.size; rw [hsz3]; exact yCA (lt2 b hb)),okX.exfs b hb,.inl hb,(okX.exf b hb).2,λp hp=>by
   have hp' : p∈X.pn++pins:=by simpa [cxT] using hp
   exact (f2 b hb).2.2.2.2.2 p hp'⟩
 have tn4 : tn 0 h₁ := T.keep _ _ _ st2 λb _ o e=>old4 b o (old3 b o e)
 have fr4 : ∀ b ∈ fp, H3 b = none := fun b hb => by
  rw [<- hH3,zA6 (yAi (lt2 b hb))];exact (f2 b hb).1
 have back : ∀ {H' : Hp} {σ' : St} {pl : List (Addr × Obj)} {s' : Shared}, Inv (cxT X scope xs fv s₃.heap.objs.size s₃ H3 fp (X.pn ++ pins)) pl σ' H' s' -> Inv X pins σ H' s' /\ (∃ m, s'.heap.Ns s₃.heap.objs.size m) /\ zGL X pins H' s₃.heap.objs.size := fun {H' σ' pl s'} I' => by
  refine ⟨I3.call' I'.os I'.base I'.hok I'.bare λb hb=>⟨(f2 b hb).2.2.2.1,(f2 b hb).2.1,(f2 b hb).2.2.2.2.1,(f2 b hb).2.2.2.2.2⟩,?_,I3.fpOk (yAE _) I'.free⟩;obtain ⟨m,hn,_⟩:=I'.loc;exact ⟨m,hn⟩
 obtain ⟨W,⟨m0,w0⟩,turn⟩:=hw s₂.heap.objs.size hD0;rw [hH3] at w0
 have loop : codeAny (model X.prog X.w) X.A (.compLoop e 0 (.ref it) (.ref s₂.heap.objs.size) (cxT X scope xs fv s₃.heap.objs.size s₃ H3 fp (X.pn ++ pins)).env)
   (RR (.ref s₂.heap.objs.size) s₃.heap.objs.size) { s₃ with heap:=h₁,toks:=s₃.toks + ([] : List (Str × Value)).length }:=by
  refine codeAny_loop rfl (λn s'=>∃ i H',Inv (cxT X scope xs fv s₃.heap.objs.size s₃ H3 fp (X.pn++pins)) [] (ρT xs fv σ) H' s'/\tn i s'.heap/\(∀ b∈fp,H' b = none)/\W i n H') (λn s5 hI => ?_) m0 ⟨0,H3,I4,tn4,fr4,w0⟩;obtain ⟨i,H5,I5,st5,fr5,w5⟩:=hI;rw [hund,hden];refine wpAny_noted ?_;rw [hturn];refine yAD (yBy (yAD ?_))
  rcases turn i n H5 w5 with ⟨stop,qn⟩ | ⟨go,N,hN,step⟩
  ·refine yBO (T.done (cxT X scope xs fv s₃.heap.objs.size s₃ H3 fp (X.pn ++ pins)) rfl rfl rfl hc i [] s5 _ H5 (fun _ _ => False) I5 (fpX fr5) st5 stop) (fun r s6 ⟨hr, I6⟩ => ?_) fun _ _ z => z.elim
   subst hr;obtain ⟨b1,⟨m,b2⟩,b3⟩:=back I6;exact yAW (hRR _ _ _ _ _ b1 qn b2 b3)
  ·refine yBO (T.item (cxT X scope xs fv s₃.heap.objs.size s₃ H3 fp (X.pn ++ pins)) rfl rfl rfl hc i [] s5 _ H5 (fun _ _ => False) I5 (fpX fr5) st5 go) (fun r s6 ⟨u, hr, h6⟩ => ?_) fun _ _ z => z.elim
   subst hr;refine yAD (yBO h6 (λ_ s7 ⟨y,H7,I7,r7,y7,st7,fr7⟩ => ?_) λ_ _ z=>z.elim);have I7':=I7.pinned (fpX fr7) (T.obj _ _ st7);refine yAD (yBO (hg _ _ _ _ _ _ s7 _ H7 y u _ I7' r7 (step y H7 y7)) (λ_ s8 ⟨σ8,H8,I8,keep8,q8⟩ => ?_) λ_ _ z=>z.elim)
   have again : ∀ {H9 : Hp} {s9 : Shared}, Inv (cxT X scope xs fv s₃.heap.objs.size s₃ H3 fp (X.pn ++ pins)) ([] ++ zIG fp s7.heap) σ8 H9 s9 -> (∃ m', m' < n /\ W (i + 1) m' H9) ->
     ∃ m,m < n/\∃ i H',Inv (cxT X scope xs fv s₃.heap.objs.size s₃ H3 fp (X.pn++pins)) [] (ρT xs fv σ) H' s9/\tn i s9.heap/\(∀ b∈fp,H' b = none)/\W i m H':=λ{H9 s9} I9 ⟨m',hm,w9⟩=>by
    refine ⟨m',hm,i + 1,H9,(I9.unpinned).weak (by rw [I9.len]; simp [ρT,cxT]) (λj v e=>zSZ keep8 e),T.keep _ _ _ st7 λb hb o e=>(I9.pin (b,o) (yAP _ (yAP _ (zDF hb e)))).1,λb hb => ?_,w9⟩;obtain ⟨o,e,d⟩:=T.obj _ _ st7 b hb;exact (I9.pin (b,o) (yAP _ (yAP _ (zDF hb e)))).2.1
   refine yAD (yBO (ht _ _ _ _ _ _ s8 _ H8 _ I8 q8) (λok s9 ⟨H9,I9,q9⟩ => ?_) λ_ _ z=>z.elim)
   cases ok with
   | false =>
    rw [yAN (by simp)] at q9;exact yAW ⟨rfl,again I9 (hN _ q9)⟩
   | true =>
    rw [yAQ rfl] at q9;refine yAD (yBO (he _ _ _ _ _ _ s9 _ H9 _ _ I9 q9) (λ_ s11 ⟨H11,I11,q11⟩ => ?_) λ_ _ z=>z.elim);exact yAW ⟨rfl,again I11 (hN _ q11)⟩
 exact hstart _ _ _ _ _ loop (T.self X.A 0 _ _ _ tn4 loop)
end
section
variable {X : Cx} {pins : List (Addr × Obj)} {σ : St} {H : Hp} {s : Shared} {scope : Scope} {xs : List Str} {fv : List (Str × Nat)} {elt kx vx tg iter : Expr} {ifs : List Expr} {pos : Pos} {tt : TT} {te tk tv : TE} {g : TG}
noncomputable def tbL (te : TE) : TB:=λD σ H N=>te σ H λy H3=>∃ ys,H3 D = some (.lst ys)/\ys.length < sizeLine/\N (upd H3 D (.lst (ys++[y])))
noncomputable def tbD (tk tv : TE) : TB:=λD σ H N=>tk σ H λk H1=>tv σ H1 λv H2=>∃ kvs key,H2 D = some (.dK kvs)/\k = kV key/\kvs.length < sizeLine/\N (upd H2 D (.dK (zH2 kvs key v)))
noncomputable abbrev zaH (elt : Expr) : Addr -> Env -> Sem Unit:=λD env=>do let _ <- call (.builtin "list.append") [.ref D,<- eval elt env]
noncomputable abbrev zaY (kx vx : Expr) : Addr -> Env -> Sem Unit := fun D env => do
 let kv <- eval kx env
 let vv <- holding [kv] (eval vx env)
 standAt { kx.pos with endLine:=vx.pos.endLine,endCol:=vx.pos.endCol }
 holding [kv,vv] (dictSet D kv vv)
theorem zRF (he : PE X elt te) : PB X (zaH elt) (tbL te) := by
 intro pins s σ H D N I h;refine yAD (thn (he pins s σ H _ I h) λv s1 ⟨y,H1,I1,r1,ys,hD,hz,q⟩ => ?_);refine yAD (yBO (zC1 pins s1 σ H1 (.ref D) [y] (.ref D) [v] (λ_ H2=>H2 = upd H1 D (.lst (ys++[y]))) I1 rfl (.cons r1 .nil) ⟨_,ys,y,rfl,rfl,hD,hz,rfl⟩) (λ_ s2 ⟨_,H2,I2,_,e2⟩ => ?_) λ_ _ z=>z);subst e2;exact yAW ⟨_,I2,q⟩
theorem zWJ (hk : PE X kx tk) (hv : PE X vx tv) : PB X (zaY kx vx) (tbD tk tv) := by
 intro pins s σ H D N I h;refine yAD (thn (hk pins s σ H _ I h) λu s1 ⟨k,H1,I1,r1,q1⟩ => ?_);refine yAD (yBa (thn (hv pins s1 σ H1 _ I1 q1) λv s2 ⟨y,H2,I2,r2,q2⟩ => ?_));refine yAD (yBy (yBa ?_));obtain ⟨kvs,key,e,ek,l,q⟩:=q2;subst ek;obtain ⟨z,hd,vs,rel,dd⟩:=zWH I2.hok e;have hz : vs.length <= sizeLine:=by rw [<- rel.length]; exact z
 have hl : (zH2 kvs key y).length <= sizeLine:=by have:=zCQ kvs key y; lia
 refine wpAny_dictSet_pairs (knd:=zAI X.prog X.w) (hsz:=hz) (zKV r1) dd λh' dd' hs => ?_;have he : ∃ q,h'.get? D = some q:=let ⟨q,_,_,hq,_⟩:=dd'; ⟨q,hq⟩;exact ⟨_,zJZ I2 (by rw [e]; exact True.intro) hs he (zUQ hl hd (rel.put key r2) dd'),q⟩
theorem zLI : zRB X (newList []) (.lst []) := by
 intro pins σ H s E Q I h;refine yCb (h _ (I.lnew (t':=s.toks) (its:=[]) .nil (yBL _)) (yCS ..) λb o e=>yAC _ e)
theorem zS9 : zRB X newDict (.dK []) := by
 intro pins σ H s E Q I h;refine yCb (h _ (I.laid (a:=s.heap.objs.size) (o := .dK []) (t':=s.toks) (λ_ _ q=>yAC _ q) (yAE _) (zLO s.heap I.big)) (yCS ..) λb o e=>yAC _ e)
theorem zbM (I : Inv X pins σ H s) (S : CompOkT scope xs fv) (hv : FvOk X scope fv) : closureFor scope X.env = pure (zXN scope X.env) := zNC fun p hp hk => by
 obtain ⟨q,hq,e⟩:=yAs.mp (S.fr _ hp hk);obtain ⟨j,hj⟩:=yCf hq;have z:=(hv.get hj).2.1;rw [e] at z;exact yBf.mpr (I.ok.has _ z)
theorem zBK {wi : TI} (hc : X.calm = true) (hs : zEM scope xs fv = true) (hv : FvOk X scope fv) (hi : PI X tg iter wi) (hg : ∀ C s₀ H₀ ex pn, PG (cxT X scope xs fv C s₀ H₀ ex pn) tg g)
  (ht : ∀ C s₀ H₀ ex pn,PTl (cxT X scope xs fv C s₀ H₀ ex pn) ifs tt) (he : ∀ C s₀ H₀ ex pn,PE (cxT X scope xs fv C s₀ H₀ ex pn) elt te)
  (hf : ∀ x,foldedSetIterable iter X.env x = pure x:=by intro _; rfl) : PE X (.ListComp elt [⟨tg,iter,ifs,0⟩] scope pos) (zMI (.lst []) wi xs fv g tt (tbL te)):=by
 intro pins s σ H Q I h;have S:=zDE hs;rw [eval_ListComp];refine yDZ (use:=none) rfl hf (zbM I S hv) S.kind S.names (thn (hi pins s σ H _ I h) λv s1 h1=>thn h1 λitv s2 h2 => ?_);obtain ⟨it,fp,tn,J,H2,e,I2,T,st2,f2,hw⟩:=h2;subst e;refine zDP (e := .ListComp elt [⟨tg,iter,ifs,0⟩] scope pos) (iter:=iter) (RR:=λacc C=>compPost (model X.prog X.w) X.A X.xe none (EP X pins σ Q) acc C) hc S hv ht hg (λC s₀ H₀ ex pn=>zRF (he C s₀ H₀ ex pn)) zLI (λ_ _ _=>rfl) (λ_ _ _=>rfl) (λit D env=>compTurn_list ..) (λ_ _ _ _ _ a b=>codeAny_compStart_list a b) I2 T st2 f2 hw ?_;intro D C s' H' m I' q hn fC;exact ⟨m,hn,λh' hs'=>⟨.ref D,H',I'.turned (t':=s'.toks) (λb o hb e=>(hs'.2 b hb).trans e) fC.1 fC.2.1 fC.2.2.2.1 fC.2.2.2.2.1 fC.2.2.2.2.2,rfl,q⟩⟩
theorem zTR {wi : TI} (hc : X.calm = true) (hs : zEM scope xs fv = true) (hv : FvOk X scope fv) (hi : PI X tg iter wi) (hg : ∀ C s₀ H₀ ex pn, PG (cxT X scope xs fv C s₀ H₀ ex pn) tg g)
  (ht : ∀ C s₀ H₀ ex pn,PTl (cxT X scope xs fv C s₀ H₀ ex pn) ifs tt) (hk : ∀ C s₀ H₀ ex pn,PE (cxT X scope xs fv C s₀ H₀ ex pn) kx tk) (hx : ∀ C s₀ H₀ ex pn,PE (cxT X scope xs fv C s₀ H₀ ex pn) vx tv)
  (hf : ∀ x,foldedSetIterable iter X.env x = pure x:=by intro _; rfl) : PE X (.DictComp kx vx [⟨tg,iter,ifs,0⟩] scope pos) (zMI (.dK []) wi xs fv g tt (tbD tk tv)):=by
 intro pins s σ H Q I h;have S:=zDE hs;have ev : eval (.DictComp kx vx [⟨tg,iter,ifs,0⟩] scope pos) X.env = comprehension (.DictComp kx vx [⟨tg,iter,ifs,0⟩] scope pos) scope X.env (firstIterPos [⟨tg,iter,ifs,0⟩] pos) newDict (firstAsync [⟨tg,iter,ifs,0⟩]) (firstIter [⟨tg,iter,ifs,0⟩] X.env):=rfl;rw [ev];refine yDZ (use:=none) rfl hf (zbM I S hv) S.kind S.names (thn (hi pins s σ H _ I h) λv s1 h1=>thn h1 λitv s2 h2 => ?_);obtain ⟨it,fp,tn,J,H2,e,I2,T,st2,f2,hw⟩:=h2;subst e;refine zDP (e := .DictComp kx vx [⟨tg,iter,ifs,0⟩] scope pos) (iter:=iter) (RR:=λacc C=>compPost (model X.prog X.w) X.A X.xe none (EP X pins σ Q) acc C) hc S hv ht hg (λC s₀ H₀ ex pn=>zWJ (hk C s₀ H₀ ex pn) (hx C s₀ H₀ ex pn)) zS9 (λ_ _ _=>rfl) (λ_ _ _=>rfl) (λit D env=>compTurn_dict ..) (λ_ _ _ _ _ a b=>codeAny_compStart_dict a b) I2 T st2 f2 hw ?_;intro D C s' H' m I' q hn fC;exact ⟨m,hn,λh' hs'=>⟨.ref D,H',I'.turned (t':=s'.toks) (λb o hb e=>(hs'.2 b hb).trans e) fC.1 fC.2.1 fC.2.2.2.1 fC.2.2.2.2.1 fC.2.2.2.2.2,rfl,q⟩⟩
end
theorem Inv.pair {X : Cx} {pins : List (Addr × Obj)} {σ : St} {H : Hp} {s : Shared} {e it : Addr} {h' : Heap} {t' : Nat} {a b : V} {u v : Value} (I : Inv X pins σ H s) (fe : zGL X pins H e) (fi : zGL X pins H it)
  (k : ∀ b o,b≠e -> b≠it -> s.heap.get? b = some o -> h'.get? b = some o) (he : ∃ o,h'.get? e = some o) (hi : ∃ o,h'.get? it = some o) (ht : h'.get? s.heap.objs.size = some { cls := .type "tuple",data := .seq #[u,v] }) (ra : RelV a u) (rb : RelV b v) :
  Inv X pins σ (upd H s.heap.objs.size (.tup [a,b])) { s with heap:=h',toks:=t' }:=by
 have hn : H s.heap.objs.size = none:=I.hok.fresh (yAE _);have ne : ∀ c u,H c = some u -> c≠e/\c≠it:=λc u q=>⟨(λz=>by rw [z,fe.1] at q; cases q),(λz=>by rw [z,fi.1] at q; cases q)⟩;have two : ∀ {c : Addr},c∉[e,it] -> c≠e/\c≠it:=λhc=>by simpa using hc
 refine I.call' (ch:=[e,it]) (s':={ s with heap:=h',toks:=t' }) rfl ⟨λc o q _ _ hx=>k c o (two hx).1 (two hx).2 q,λc o q _ _ hx=>⟨o.slots,k c o (two hx).1 (two hx).2 q⟩,λc o q n _ => ?_,λc o q hx=>⟨o,k c o (two hx).1 (two hx).2 q⟩,λc xs q => ?_,λc o u q => ?_,λc ps q => ?_⟩ ?_ I.bare ?_
 ·rw [zA6 (yAi (yAJ q))]; exact n
 ·rw [zA6 (zA5 q hn)]; exact q
 ·rw [zA6 (zA5 q hn)]; exact q
 ·exact ⟨#[],by rw [zA6 (zA5 q hn),q]; simp⟩
 ·intro c o q
  by_cases hc : c = s.heap.objs.size
  ·subst hc
   rw [zA2] at q
   cases q
   exact ⟨by show 2 <= sizeLine; decide,[u,v],.cons ra (.cons rb .nil),⟨_,ht,rfl,_,rfl⟩⟩
  ·rw [zA6 hc] at q
   refine (I.hok c o q).stay (λd w hd z => ?_) (λd z=>by rw [zA6 (zA5 z hn)]; exact z) λd xs z=>by rw [zA6 (zA5 z hn)]; exact z
   rcases hd with rfl | hd
   ·exact k _ _ (ne _ _ q).1 (ne _ _ q).2 z
   ·exact k _ _ (ne _ _ hd).1 (ne _ _ hd).2 z
 ·intro c hc
  rcases yAb.mp hc with rfl | hc
  ·exact ⟨fe.2.2.2.1,fe.2.1,fe.2.2.2.2.1,fe.2.2.2.2.2⟩
  ·rw [yAF.mp hc]; exact ⟨fi.2.2.2.1,fi.2.1,fi.2.2.2.2.1,fi.2.2.2.2.2⟩
noncomputable def Ite (K : PySem.W.Frag) (a : Addr) : It :=
 ⟨λi H=>∃ xs x,SqL K H a xs/\xs[i]? = some x,λi H v H'=>∃ p x,H p = none/\v = .ref p/\(∀ xs,SqL K H a xs -> xs[i]? = some x)/\H' = upd H p (.tup [.int (i : Nat),x]),λi H=>∃ xs,SqL K H a xs/\xs.length = i⟩
theorem zQZ {P : Program} {w : World} {K : PySem.W.Frag} {elts : List Expr} {x1 : Nat} {pos : Pos} (a e it : Addr) (hne : e ≠ it) :
  Turn P w K (.Tuple elts x1 pos) (Ite K a) [e,it] e (λi h=>(∃ old,IsEnum h e it (i : Nat) old)/\h.IsListIter it a i) where
 mem:=by simp
 obj := fun i h st b hb => by
  obtain ⟨⟨old,se⟩,o,eo,c,d⟩:=st
  rcases yAb.mp hb with rfl | hb
  ·exact ⟨_,se,λv z=>by cases z⟩
  ·rw [yAF.mp hb]
   exact ⟨o,eo,λv z=>by rw [d] at z; cases z⟩
 keep:=λi h h' st k=>⟨let ⟨old,se⟩:=st.1; ⟨old,k e (by simp) _ se⟩,st.2.at λo q=>k it (by simp) o q⟩
 item := by
  intro X hP hw hK hc i pins s σ H E I hf st hg;subst hP hw hK;obtain ⟨xs,x,hq,hx⟩:=hg;obtain ⟨its,rv,p,hz⟩:=I.list hq;obtain ⟨u,hu,ru⟩:=rv.get hx;obtain ⟨⟨old,se⟩,si⟩:=st;have fe:=hf e (by simp);have fi:=hf it (by simp);have hel : e < s.heap.objs.size:=yAJ se;refine wpAny_pyNext_enum_item se si p.isList (x:=u) (by simpa using hu) hne λh1 so si1 ht hsz kk => ?_;refine ⟨_,rfl,wpAny_letOwnedTupleGo_enum so λh2 se2 sb => ?_⟩;have sb' : Heap.SameBut e h1 h2:=sb;have si2 : h2.IsListIter it a (i + 1):=si1.extBut sb'.extBut hne.symm;have hn : H s.heap.objs.size = none:=I.hok.fresh (yAE _);have ht2 : h2.get? s.heap.objs.size = some { cls := .type "tuple",data := .seq #[.int i s.toks,u] }:=(sb'.2 _ (yBW hel)).trans ht;refine ⟨.ref s.heap.objs.size,_,I.pair (a := .int (i : Nat)) (b:=x) fe fi (λb o h1 h2' q=>(sb'.2 b h1).trans (kk b o h1 h2' q)) ⟨_,se2⟩ (let ⟨o,q,_⟩:=si2; ⟨o,q⟩) ht2 ⟨_,rfl⟩ ru,rfl,⟨_,x,hn,rfl,λys hy=>by rw [I.list_inj hy hq]; exact hx,rfl⟩,⟨⟨u,?_⟩,si2⟩,λb hb => ?_⟩
  ·have : ((i + 1 : Nat) : Int) = (i : Int) + 1 := by lia
   rw [this]; exact se2
  ·rw [zA6]
   ·exact (hf b hb).1
   ·intro z
    rcases yAb.mp hb with q | q
    ·rw [z] at q; exact absurd q (yBW hel)
    ·obtain ⟨o, q2, _⟩ := si
     rw [z] at q; exact absurd (yAF.mp q) (yBW (yAJ q2))
 done := by
  intro X hP hw hK hc i pins s σ H E I hf st hg;subst hP hw hK;obtain ⟨xs,hq,hx⟩:=hg;obtain ⟨its,rv,p,hz⟩:=I.list hq;obtain ⟨⟨old,se⟩,si⟩:=st;obtain ⟨f0,f1,f2,f3,f4,f5⟩:=hf it (by simp);have hl:=rv.length;exact wpAny_pyNext_enum_end (I.ok.hd hc) se si p.isList (by simp; lia) λh' eb=>⟨rfl,I.turned (t':=s.toks) (λb o hb e=>eb b o hb e) f0 f1 f3 f4 f5⟩
 self:=λ_ _ _ _ _ st h=>let ⟨_,se⟩:=st.1; yDY se h
noncomputable def zRW (acc : List Key) (k : Key) : Bool:=acc.any λy=>decide (y = k)
theorem memK_iff {acc : List Key} {k : Key} : zRW acc k = true ↔ k ∈ acc := by
 unfold zRW;rw [yAz];exact ⟨λ⟨y,h,e⟩=>(yAj e) ▸ h,λh=>⟨k,h,yAM rfl⟩⟩
noncomputable def zRV (acc : List Key) (k : Key) : List Key:=if zRW acc k = true then acc else acc++[k]
noncomputable def zBJ (ks : List Key) : List Key:=ks.foldl zRV []
theorem zDA (ks : List Key) (k : Key) : zBJ (ks++[k]) = zRV (zBJ ks) k:=by unfold zBJ; rw [List.foldl_append]; rfl
theorem zVF (acc : List Key) (k : Key) : (zRV acc k).length <= acc.length + 1:=by unfold zRV; split <;> simp
theorem zMM : ∀ (n : Nat) (ks : List Key), ks.length = n -> (zBJ ks).length <= n := by
 intro n
 induction n with
 | zero=>intro ks h; rw [yCt.mp h]; exact yAE _
 | succ n ih =>
  intro ks h;have hne : ks≠[]:=λe=>by rw [e] at h; cases h
  obtain ⟨ds,c,rfl⟩ : ∃ ds c,ks = ds++[c]:=⟨_,_,(yCW hne).symm⟩
  have:=ih ds (by simpa using h)
  have:=zVF (zBJ ds) c
  rw [zDA]; lia
theorem zIC : ∀ (n : Nat) (ks : List Key), ks.length = n -> ∀ k, k ∈ zBJ ks ↔ k ∈ ks := by
 intro n
 induction n with
 | zero=>intro ks h k; rw [yCt.mp h]; exact Iff.rfl
 | succ n ih =>
  intro ks h k;have hne : ks≠[]:=λe=>by rw [e] at h; cases h
  obtain ⟨ds,c,rfl⟩ : ∃ ds c,ks = ds++[c]:=⟨_,_,(yCW hne).symm⟩;have q:=ih ds (by simpa using h);rw [zDA];unfold zRV
  split
  ·rename_i hm
   rw [memK_iff,q] at hm;rw [q,yAa,yAF];exact ⟨.inl,λz=>z.elim id λe=>e ▸ hm⟩
  ·rw [yAa,yAa,q]
theorem zJC : ∀ (n : Nat) (ks : List Key), ks.length = n -> ((zBJ ks).length = ks.length ↔ ks.Nodup) := by
 intro n
 induction n with
 | zero=>intro ks h; rw [yCt.mp h]; simp [zBJ]
 | succ n ih =>
  intro ks h;have hne : ks≠[]:=λe=>by rw [e] at h; cases h
  obtain ⟨ds,c,rfl⟩ : ∃ ds c,ks = ds++[c]:=⟨_,_,(yCW hne).symm⟩;have hl : ds.length = n:=by simpa using h
  have q:=ih ds hl;have le:=zMM n ds hl;rw [zDA,yCd];unfold zRV
  split
  ·rename_i hm
   rw [memK_iff,zIC n ds hl] at hm
   constructor
   ·intro z; rw [yAX,yBq] at z; lia
   ·intro z; exact absurd rfl (z.2.2 c hm c (by simp))
  ·rename_i hm
   rw [memK_iff,zIC n ds hl] at hm;rw [yAX,yAX,yBq]
   constructor
   ·intro z
    refine ⟨q.mp (by lia),by simp,λa ha b hb e=>hm ?_⟩;rw [yAF.mp hb] at e;exact e ▸ ha
   ·intro z; have:=q.mpr z.1; lia
section
variable {P : Program} {w : World} {A : Around} {R : Result -> Shared -> Prop} {J S : Addr} {fp wr : List Addr} {n : Nat} {Pv : Nat -> Value -> Prop} {St : Nat -> Heap -> Prop}
noncomputable def HasK (P : Program) (w : World) (h : Heap) (S : Addr) (ks : List Key) : Prop:=h.SetOf (zAI P w) S (λx=>zRW (zBJ ks) x) (zBJ ks).length
theorem HasK.keep {h h' : Heap} {ks : List Key} (x : HasK P w h S ks) (k : ∀ o,h.get? S = some o -> h'.get? S = some o) : HasK P w h' S ks:=let ⟨o,es,ep,t,ho,r⟩:=x; ⟨o,es,ep,t,k _ ho,r⟩
theorem zL8 (W : Walks P w A.in1 J fp wr n Pv St) (hSf : S ∉ fp) (ks : List Key) (hn : ks.length = n) (hkey : ∀ i v, Pv i v -> ∃ k, ks[i]? = some k /\ (zAI P w).is k v = true /\ v.scannable = true) (hb : n + 1 < scanBound) :
  ∀ (m i : Nat) (s : Shared),n - i = m -> i <= n -> St i s.heap -> HasK P w s.heap S (ks.take i) ->
   (∀ h' tk,(∀ b o,b≠S -> b∉wr -> s.heap.get? b = some o -> h'.get? b = some o) -> HasK P w h' S ks -> R (.ok (.ret .none)) { s with heap:=h',toks:=tk }) ->
   codeAny (model P w) A (.builtin "set.update.loop" ⟨[.ref S,.ref J],[]⟩) R s:=by
 have hSw : S∉wr:=λz=>hSf (W.sub _ z);intro m
 induction m with
 | zero =>
  intro i s hm hi st hS hR;obtain rfl : i = n:=by lia
  refine yCo PyProof.Rows.F.entry_set_update_loop ?_;rw [Around.under_plainId yCg _];show wpAny _ A.in1 (pyNext (.ref J) >>= _) _ _ s;refine yAD (W.done s _ _ st λh2 tk kk => ?_);rw [yAt (by lia)] at hS;exact yAW (hR h2 tk (λb o _ hw q=>kk b o hw q) (hS.keep λo q=>kk S o hSw q))
 | succ m ih =>
  intro i s hm hi st hS hR;refine yCo PyProof.Rows.F.entry_set_update_loop ?_;rw [Around.under_plainId yCg _];show wpAny _ A.in1 (pyNext (.ref J) >>= _) _ _ s;refine yAD (W.item i s _ _ (by lia) st λv h2 tk pv st2 kk => ?_);obtain ⟨k,hk,his,hsc⟩:=hkey i v pv;have hS2:=hS.keep λo q=>kk S o hSw q;show wpAny _ A.in1 (holding [v] (setAdd S v) >>= _) _ _ _;refine yAD (yBa ?_);unfold setAdd;refine yBa (yAD ((zAI P w).pyHash (k:=k) his ?_))
  have hroom : (zBJ (ks.take i)).length + 1 < scanBound := by
   have:=zMM _ (ks.take i) rfl
   rw [yAp] at this;lia
  refine wpAny_setAddHashed_of (knd:=zAI P w) his hsc hS2 hroom λh3 sb hS3 => ?_;have et : ks.take (i + 1) = ks.take i++[k]:=by rw [yBF,hk]; rfl
  have hS4 : HasK P w h3 S (ks.take (i + 1)) := by
   unfold HasK;rw [et,zDA]
   have e1 : (fun x => zRW (zRV (zBJ (ks.take i)) k) x) = fun x => zRW (zBJ (ks.take i)) x || decide (x = k) := funext fun x => by
    rw [yAg,yDM,memK_iff,memK_iff,yAL];unfold zRV
    by_cases hx : zRW (zBJ (ks.take i)) k = true
    ·rw [yAQ hx]
     exact ⟨.inl,λz=>z.elim id λe=>e ▸ memK_iff.mp hx⟩
    ·rw [yAN hx,yAa,yAF]
   have e2 : (zRV (zBJ (ks.take i)) k).length = if zRW (zBJ (ks.take i)) k = true then (zBJ (ks.take i)).length else (zBJ (ks.take i)).length + 1 := by
    unfold zRV
    by_cases hx : zRW (zBJ (ks.take i)) k = true
    ·rw [yAQ hx,yAQ hx]
    ·rw [yAN hx,yAN hx,yAX]; rfl
   rw [e1,e2];exact hS3
  refine yAW ⟨plainId_quiet yCg _,ih (i + 1) _ (by lia) (by lia) (W.frame _ _ _ st2 λb hbf o q => ?_) hS4 λh4 tk4 kk4 hS5 => ?_⟩
  ·exact (sb.2 b (λz=>hSf (z ▸ hbf))).trans q
  ·exact hR h4 tk4 (λb o hbS hbw q=>kk4 b o hbS hbw ((sb.2 b hbS).trans (kk b o hbw q))) hS5
end
noncomputable abbrev zAX (led : Bool) : Obj:={ cls := .type "set",dict:=none,data := .set #[] 0 (.fresh 0 0 led) }
theorem zMQ {P : Program} {w : World} {h : Heap} {S : Addr} {led : Bool} (q : h.get? S = some (zAX led)) : HasK P w h S []:=⟨_,#[],0,_,q,⟨rfl,rfl,rfl⟩,rfl,λe he=>by simp at he,λk=>by simp [zRW,zBJ],by decide,by rfl,rfl⟩
set_option maxHeartbeats 3200000 in
theorem zGJ {P : Program} {w : World} {A : Around} {E : Value -> Shared -> Prop} {s : Shared} {l : Addr} {items : Array Value} {ks : List Key} {Q : Value -> Shared -> Prop} (hh : A.handled = none) (hl : s.heap.IsList l items) (hn : ks.length = items.size)
  (hkey : ∀ (i : Nat) (v : Value),items[i]? = some v -> ∃ k,ks[i]? = some k/\(zAI P w).is k v = true/\v.scannable = true) (hb : items.size + 1 < scanBound)
  (h : ∀ (h' : Heap) (tk : Nat),HasK P w h' s.heap.objs.size ks -> (∀ b o,s.heap.get? b = some o -> h'.get? b = some o) -> Q (.ref s.heap.objs.size) { s with heap:=h',toks:=tk }) :
  wpAny (model P w) A (call (.type "set") [.ref l]) Q E s:=by
 obtain ⟨c0,tl0,mro0⟩:=F.called_set.mro;have made0:=F.called_set.made; have sub0:=F.called_set.sub; have nt0:=F.called_set.notType; have cc0:=F.called_set.canCreate; have tc0:=F.typeCall_set_1 (.ref l);refine yDJ (codeAny_of_tree (show wpAny _ _ (callAny (.type "set") _) _ _ _ from yAW ⟨yCv _ (by decide +kernel),yCo F.entry_type_call ?_⟩));rw [Around.under_plain (weight_type_call_type "set" [.ref l] []) rfl]
 repeat (any_goals (first | assumption | wp_step))
 refine yCM (code_set_new_1 (.ref l) (E:=E) (Q₁ := λob s1=>∃ led : Bool,ob = .ref s.heap.objs.size/\s1 = { s with heap:=s.heap.push (zAX led) }) λled=>⟨led,rfl,rfl⟩) λr s1 hr => ?_
 cases r with
 | error e=>exact hr
 | ok fl =>
  cases fl with
  | ret ob =>
   obtain ⟨led,rfl,rfl⟩:=hr;have gS : (s.heap.push (zAX led)).get? s.heap.objs.size = some (zAX led):=yAS _ rfl;have ty : Shared.TypeIs { s with heap:=s.heap.push (zAX led) } (.ref s.heap.objs.size) "set":=⟨_,gS,rfl⟩;have li:=F.called_set.init.lookup; have bi:=F.called_set.init.bind (.ref s.heap.objs.size)
   repeat (any_goals (first | assumption | wp_step))
   refine yCM (yDG (R:=wants (λr s2=>r = .none/\∃ h' tk,s2 = { s with heap:=h',toks:=tk }/\HasK P w h' s.heap.objs.size ks/\∀ b o,s.heap.get? b = some o -> h'.get? b = some o) E) F.called_set.init.plain F.entry_set_init (check_set_init_1 ty ?_)) λr2 s2 hr2 => ?_
   ·obtain ⟨⟨ocls, od, odt, osl⟩, hol, hcl, nl, hdl⟩ := hl
    simp only at hcl hdl;subst hcl hdl;have hol2 : (s.heap.push (zAX led)).get? l = some { cls := .type "list",dict:=od,data := .seq items nl,slots:=osl }:=yAC _ hol;have q1:=F.sub_list_set; have q2:=F.sub_list_frozenset; have q3 : (Value.type "list" == Value.type "dict") = false:=by decide
    have hl2 : (s.heap.push (zAX led)).IsList l items:=⟨_,hol2,rfl,nl,rfl⟩;unfold Builtin.«set.__init__» noKeywords Builtin.Frozenset.updateFrom;generalize hPI : pyIter = PI
    wp_walk
    subst hPI;refine yCH hl2 (yAD (wpAny_runValue ?_));have lt : l < s.heap.objs.size:=yAJ hol;have sz : (s.heap.push (zAX led)).objs.size = s.heap.objs.size + 1:=yCS ..;have hh3 : A.in1.in1.in1.handled = none:=by simp [hh]
    have W:=Walks.list (prog:=P) (w:=w) hh3 (s.heap.push (zAX led)).objs.size l (by rw [sz]; exact yAi (yCA lt)) items;have g2 : ∀ o,((s.heap.push (zAX led)).push o).get? s.heap.objs.size = some (zAX led):=λo=>yAC _ gS
    refine zL8 W (S := s.heap.objs.size) (by rw [sz]; simp only [yAb, yCR, or_false, not_or]; exact ⟨yAi (yCi _), yBW lt⟩) ks hn hkey hb _ 0 _ rfl (yBL _)
     ⟨⟨_,yAS _ rfl,rfl,rfl⟩,hl2.push _⟩ (zMQ (g2 _)) λh3 tk3 kk3 hS3 => ?_
    show wpAny _ _ _ _ _ _;refine yAW (show wpAny _ _ (ret Value.none) _ _ _ from yAW ⟨rfl,h3,tk3,rfl,hS3,λb o q => ?_⟩);have hbs:=yAJ q;exact kk3 b o (yAi hbs) (by rw [sz]; simp only [yAb,yCR,or_false]; exact yAi (yCA hbs)) (yAC _ (yAC _ q))
   ·cases r2 with
    | error e=>exact hr2
    | ok fl2 =>
     cases fl2 with
     | ret r =>
      obtain ⟨rfl,h3,tk3,rfl,hS3,kk3⟩:=hr2
      repeat (any_goals (first | assumption | wp_step))
      exact h _ _ hS3 kk3
     | _=>exact hr2.elim
  | _=>exact hr.elim
set_option maxHeartbeats 3200000 in
theorem zFX {P : Program} {w : World} {A : Around} {E : Value -> Shared -> Prop} {s : Shared} {l : Addr} {items : Array Value} {ks : List Key} {Q : Value -> Shared -> Prop} (hh : A.handled = none) (hl : s.heap.IsTuple l items) (hn : ks.length = items.size)
  (hkey : ∀ (i : Nat) (v : Value),items[i]? = some v -> ∃ k,ks[i]? = some k/\(zAI P w).is k v = true/\v.scannable = true) (hb : items.size + 1 < scanBound)
  (h : ∀ (h' : Heap) (tk : Nat),HasK P w h' s.heap.objs.size ks -> (∀ b o,s.heap.get? b = some o -> h'.get? b = some o) -> Q (.ref s.heap.objs.size) { s with heap:=h',toks:=tk }) :
  wpAny (model P w) A (call (.type "set") [.ref l]) Q E s:=by
 obtain ⟨c0,tl0,mro0⟩:=F.called_set.mro;have made0:=F.called_set.made; have sub0:=F.called_set.sub; have nt0:=F.called_set.notType; have cc0:=F.called_set.canCreate; have tc0:=F.typeCall_set_1 (.ref l);refine yDJ (codeAny_of_tree (show wpAny _ _ (callAny (.type "set") _) _ _ _ from yAW ⟨yCv _ (by decide +kernel),yCo F.entry_type_call ?_⟩));rw [Around.under_plain (weight_type_call_type "set" [.ref l] []) rfl]
 repeat (any_goals (first | assumption | wp_step))
 refine yCM (code_set_new_1 (.ref l) (E:=E) (Q₁ := λob s1=>∃ led : Bool,ob = .ref s.heap.objs.size/\s1 = { s with heap:=s.heap.push (zAX led) }) λled=>⟨led,rfl,rfl⟩) λr s1 hr => ?_
 cases r with
 | error e=>exact hr
 | ok fl =>
  cases fl with
  | ret ob =>
   obtain ⟨led,rfl,rfl⟩:=hr;have gS : (s.heap.push (zAX led)).get? s.heap.objs.size = some (zAX led):=yAS _ rfl;have ty : Shared.TypeIs { s with heap:=s.heap.push (zAX led) } (.ref s.heap.objs.size) "set":=⟨_,gS,rfl⟩;have li:=F.called_set.init.lookup; have bi:=F.called_set.init.bind (.ref s.heap.objs.size)
   repeat (any_goals (first | assumption | wp_step))
   refine yCM (yDG (R:=wants (λr s2=>r = .none/\∃ h' tk,s2 = { s with heap:=h',toks:=tk }/\HasK P w h' s.heap.objs.size ks/\∀ b o,s.heap.get? b = some o -> h'.get? b = some o) E) F.called_set.init.plain F.entry_set_init (check_set_init_1 ty ?_)) λr2 s2 hr2 => ?_
   ·obtain ⟨⟨ocls, od, odt, osl⟩, hol, hcl, nl, hdl⟩ := hl
    simp only at hcl hdl;subst hcl hdl;have hol2 : (s.heap.push (zAX led)).get? l = some { cls := .type "tuple",dict:=od,data := .seq items nl,slots:=osl }:=yAC _ hol;have q1:=F.sub_tuple_set; have q2:=F.sub_tuple_frozenset; have q3 : (Value.type "tuple" == Value.type "dict") = false:=by decide
    have hl2 : (s.heap.push (zAX led)).IsTuple l items:=⟨_,hol2,rfl,nl,rfl⟩;unfold Builtin.«set.__init__» noKeywords Builtin.Frozenset.updateFrom;generalize hPI : pyIter = PI
    wp_walk
    subst hPI;refine yDO hl2 (yAD (wpAny_runValue ?_));have lt : l < s.heap.objs.size:=yAJ hol;have sz : (s.heap.push (zAX led)).objs.size = s.heap.objs.size + 1:=yCS ..;have hh3 : A.in1.in1.in1.handled = none:=by simp [hh]
    have W:=Walks.tuple (prog:=P) (w:=w) hh3 (s.heap.push (zAX led)).objs.size l (by rw [sz]; exact yAi (yCA lt)) items;have g2 : ∀ o,((s.heap.push (zAX led)).push o).get? s.heap.objs.size = some (zAX led):=λo=>yAC _ gS
    refine zL8 W (S := s.heap.objs.size) (by rw [sz]; simp only [yAb, yCR, or_false, not_or]; exact ⟨yAi (yCi _), yBW lt⟩) ks hn hkey hb _ 0 _ rfl (yBL _)
     ⟨⟨_,yAS _ rfl,rfl,rfl⟩,hl2.push _⟩ (zMQ (g2 _)) λh3 tk3 kk3 hS3 => ?_
    show wpAny _ _ _ _ _ _;refine yAW (show wpAny _ _ (ret Value.none) _ _ _ from yAW ⟨rfl,h3,tk3,rfl,hS3,λb o q => ?_⟩);have hbs:=yAJ q;exact kk3 b o (yAi hbs) (by rw [sz]; simp only [yAb,yCR,or_false]; exact yAi (yCA hbs)) (yAC _ (yAC _ q))
   ·cases r2 with
    | error e=>exact hr2
    | ok fl2 =>
     cases fl2 with
     | ret r =>
      obtain ⟨rfl,h3,tk3,rfl,hS3,kk3⟩:=hr2
      repeat (any_goals (first | assumption | wp_step))
      exact h _ _ hS3 kk3
     | _=>exact hr2.elim
  | _=>exact hr.elim
noncomputable def zR2 (K : PySem.W.Frag) (ta : TA) : TE:=λσ H Q=>ta σ H λvs H1=>∃ a ks,vs = [.ref a]/\(SqL K H1 a (ks.map kV) \/ SqT K H1 a (ks.map kV))/\ks.length + 1 < 4096/\Q (.int ((zBJ ks).length : Nat)) H1
theorem zOZ {P : Program} {w : World} {ks : List Key} {its : List Value} (r : Vals (ks.map kV) its) : ∀ (i : Nat) (v : Value), its.toArray[i]? = some v -> ∃ k, ks[i]? = some k /\ (zAI P w).is k v = true /\ v.scannable = true := fun i v hv => by
 have hv' : its[i]? = some v:=by simpa using hv
 have hl:=r.length;have hi : i < its.length:=(yAI.mp hv').1;have hk : i < ks.length:=by rw [yAB] at hl; lia
 obtain ⟨u,hu,ru⟩:=r.get (i:=i) (x:=kV ks[i]) (by rw [yAe,yAA hk]; rfl);rw [hv'] at hu
 cases hu
 refine ⟨ks[i],yAA hk,zKV ru,?_⟩;generalize ks[i] = k at ru
 cases k with
 | inl j=>obtain ⟨t,rfl⟩:=ru; rfl
 | inr z=>obtain ⟨t,rfl⟩:=ru; rfl
theorem zQX {X : Cx} {e : Expr} {ta : TA} {p p2 pos pos2 : Pos} (hc : X.calm = true) (hg : Gl X "len") (hm : X.mg "len" = none) (hg2 : Gl X "set") (hm2 : X.mg "set" = none) (ha : PA X [e] ta)
  (he : starEach [e] X.env = [(false,eval e X.env)]:=by rfl) (he2 : starEach [.Call (.Name "set" p2) [e] [] pos2] X.env = [(false,eval (.Call (.Name "set" p2) [e] [] pos2) X.env)]:=by rfl) :
  PE X (.Call (.Name "len" p) [.Call (.Name "set" p2) [e] [] pos2] [] pos) (zR2 X.K ta):=by
 intro pins s σ H Q I h;refine yBs (zE2 I hg hm yBC ?_);refine yDD ?_ he2 (by rfl);rw [he2];refine Calls.spliced_cons ?_;refine yBs (zE2 I hg2 hm2 PyProof.Rows.boot_set ?_);refine yCZ (thn (ha pos2 pins s σ H _ I h) λus s1 ⟨vs,H1,I1,r1,q1⟩ => ?_) he (by rfl);obtain ⟨a,ks,rfl,hq,hb,q⟩:=q1;obtain ⟨u,rfl,ru⟩:=zDN r1
 cases ru
 have hh:=I1.ok.hd hc
 have fin : ∀ (h' : Heap) (tk : Nat), HasK X.prog X.w h' s1.heap.objs.size ks -> (∀ b o, s1.heap.get? b = some o -> h'.get? b = some o) ->
   wpAny (model X.prog X.w) X.A (spliced (backTo pos (starEach ([] : List Expr) X.env))) (λus s2=>wpAny (model X.prog X.w) X.A (call (.builtin "len") (Value.ref s1.heap.objs.size::us)) (EP X pins σ Q) X.xe s2) X.xe { s1 with heap:=h',toks:=tk }:=λh' tk hS kk=>by
  refine Calls.spliced_nil ?_;obtain ⟨o,es,ep,t,ho,hex,hd,hel,hiff,hsz,hf,hn⟩:=hS
  have hlt : (es.size : Int) < 2 ^ 63 := by
   have : es.size < 4096:=hsz;lia
  refine call_len_set (s:={ s1 with heap:=h',toks:=tk }) ho hex hd hf hlt ?_;rw [hn];exact ⟨.int ((zBJ ks).length : Nat),H1,I1.kept (t':=tk + 1 + 1) kk,⟨_,rfl⟩,q⟩
 rcases hq with hq | hq
 ·obtain ⟨its, rv, pl, hz⟩ := I1.list hq
  have hl:=rv.length;rw [yAB] at hl;exact zGJ hh pl.isList (by simp [hl]) (zOZ rv) (by simp only [yAH]; unfold scanBound; lia) fin
 ·obtain ⟨its, rv, pl, hz⟩ := I1.tuple hq
  have hl:=rv.length;rw [yAB] at hl;exact zFX hh (show s1.heap.IsTuple a its.toArray from pl) (by simp [hl]) (zOZ rv) (by simp only [yAH]; unfold scanBound; lia) fin
open AutoSeq1 (wpAny_loadPart')
theorem zQW (l : Addr) (xs : Array Value) (n : Nat) (dc : Option Addr) (sl : Array (Option Value)) :
  Meets (Builtin.«enumerate.__new__» ⟨[.type "enumerate", .ref l], []⟩) (fun _ R s => s.heap.get? l = some { cls := .type "tuple", dict := dc, data := .seq xs n, slots := sl } /\
   R (.ok (.ret (.ref (s.heap.push { cls := .type "tuple_iterator",data := .fields #[.ref l,.int 0 0] }).objs.size)))
    { s with heap:=(s.heap.push { cls := .type "tuple_iterator",data := .fields #[.ref l,.int 0 0] }).push { cls := .type "enumerate",data := .fields #[.none,.bool false,.ref s.heap.objs.size,rawInt 0,.none,.none] } }) :=
 .of_wp λprog w A R s h=>by
  obtain ⟨h0,g0,d0,t0,o0⟩:=s;obtain ⟨e0,h⟩:=h;have sb:=sub_enumerate;have tp : Heap.IsTuple (Shared.heap ⟨h0,g0,d0,t0,o0⟩) l xs:=⟨_,e0,rfl,n,rfl⟩
  wp_walk using yCI e0
  refine wpAny_stack_any λstk=>yAW ?_
  split
  ·rename_i c _ _ _ _ _
   cases (c == Value.type "enumerate") <;> (wp_walk using yCI e0,yDO tp; exact ⟨_,rfl,h⟩)
  ·(wp_walk using yCI e0,yDO tp; exact ⟨_,rfl,h⟩)
section
variable {prog : Program} {w : World} {A : Around} {E : Value -> Shared -> Prop} {s : Shared}
theorem zN9 {l : Addr} {xs : Array Value} {Q : Value -> Shared -> Prop} (tp : s.heap.IsTuple l xs)
  (h : ∀ h',IsEnum h' (s.heap.objs.size + 1) s.heap.objs.size 0 .none -> h'.IsTupleIter s.heap.objs.size l 0 -> (∀ b o,s.heap.get? b = some o -> h'.get? b = some o) -> Q (.ref (s.heap.objs.size + 1)) { s with heap:=h' }) :
  wpAny (model prog w) A (call (.type "enumerate") [.ref l]) Q E s:=by
 obtain ⟨⟨c,dc,dt,sl⟩,hl,hc,n,hd⟩:=tp;obtain rfl : c = .type "tuple":=hc;obtain rfl : dt = .seq xs n:=hd;refine callType_new F.called_enumerate (by decide) (F.typeCall_enumerate_1 _) (F.newCall_enumerate_1 _) (λob=>F.args_object_init_2 ob _) F.entry_enumerate_new (zQW l xs n dc sl) ⟨hl,?_⟩;have sz : (s.heap.push { cls := .type "tuple_iterator",data := .fields #[.ref l,.int 0 0] }).objs.size = s.heap.objs.size + 1:=yCS ..;have en:=yAS (s.heap.push { cls := .type "tuple_iterator",data := .fields #[.ref l,.int 0 0] }) (o:={ cls := .type "enumerate",data := .fields #[.none,.bool false,.ref s.heap.objs.size,rawInt 0,.none,.none] }) rfl;rw [sz] at en;show _/\_;rw [sz];exact ⟨⟨_,en,rfl⟩,h _ en ⟨_,yAC _ (yAS _ rfl),rfl,rfl⟩ λb o x=>yAC _ (yAC _ x)⟩
theorem zMV {it t : Addr} {i : Nat} {xs : Array Value} {x : Value} {Q : Value -> Shared -> Prop} (hit : s.heap.IsTupleIter it t i) (ht : s.heap.IsTuple t xs) (hx : xs[i]? = some x)
  (hQ : ∀ h',h'.IsTupleIter it t (i + 1) -> Heap.SameBut it s.heap h' -> Q x { s with heap:=h' }) : wpAny (model prog w) A (Builtin.SmallTypes.nextOf (.ref it)) Q E s:=by
 obtain ⟨o,ho,hc,hd⟩:=id hit;obtain ⟨ot,hot,_,nt,hdt⟩:=ht;unfold Builtin.SmallTypes.nextOf;refine yAD (wpAny_callSpecial?_slot (name:=Str.ofString "__next__") hit.typeIs yCe (wpAny_call_entry yCe hit.typeIs F.entry_tuple_iterator_next ?_ (F.args_tuple_iterator_next_1 _)));refine (show wpAny _ _ (field (.ref it) 0 >>= _) _ _ s from yAD (yCy ho hd (x := .ref t) rfl ?_));refine (show wpAny _ _ (if (Value.ref t == Value.none) = true then _ else _) _ _ s from ?_);rw [yAN (show ¬ ((Value.ref t == Value.none) = true) by exact yAY)];refine (show wpAny _ _ (field (.ref it) 1 >>= _) _ _ s from yAD (yCy ho hd (x := .int i 0) rfl ?_));refine (show wpAny _ _ (seqItems? (.ref t) >>= _) _ _ s from yAD (wpAny_seqItems hot hdt ?_));simp only [yAf,hx];refine yAD (yDT ho hd (by simp) (yAW ⟨x,rfl,yAW (hQ _ ⟨_,yCF _ ho (yDo (yCq hd _)),(Obj.cls_mapFields ..).trans hc,?_⟩ (Heap.SameBut.update ..))⟩));rw [yCq hd]; simp [rawInt]
theorem zO7 {it t : Addr} {i : Nat} {xs : Array Value} {Q : Value -> Shared -> Prop} (hh : A.handled = none) (hit : s.heap.IsTupleIter it t i) (ht : s.heap.IsTuple t xs) (hx : xs[i]? = none)
  (hE : ∀ h' e,Heap.ExtBut it s.heap h' -> (∃ o,h'.get? e = some o/\o.cls = .type "StopIteration") -> E (.ref e) { s with heap:=h' }) : wpAny (model prog w) A (Builtin.SmallTypes.nextOf (.ref it)) Q E s:=by
 obtain ⟨o,ho,hc,hd⟩:=id hit;obtain ⟨ot,hot,_,nt,hdt⟩:=ht;unfold Builtin.SmallTypes.nextOf;refine yAD (wpAny_callSpecial?_slot (name:=Str.ofString "__next__") hit.typeIs yCe (wpAny_call_entry yCe hit.typeIs F.entry_tuple_iterator_next ?_ (F.args_tuple_iterator_next_1 _)));refine (show wpAny _ _ (field (.ref it) 0 >>= _) _ _ s from yAD (yCy ho hd (x := .ref t) rfl ?_));refine (show wpAny _ _ (if (Value.ref t == Value.none) = true then _ else _) _ _ s from ?_);rw [yAN (show ¬ ((Value.ref t == Value.none) = true) by exact yAY)];refine (show wpAny _ _ (field (.ref it) 1 >>= _) _ _ s from yAD (yCy ho hd (x := .int i 0) rfl ?_));refine (show wpAny _ _ (seqItems? (.ref t) >>= _) _ _ s from yAD (wpAny_seqItems hot hdt ?_));simp only [yAf,hx];refine yAD (yDI (yAD (yDT ho hd (by simp) (show wpAny _ _ (newExc (.type "StopIteration") [] >>= _) _ _ _ from yAD ?_))));simp only [newExc,newTuple];refine yAD (yCb (yAD (m:=firstArgMember _ _) (wpAny_of_eq (a:=Value.none) (by first | rfl | (simp only [firstArgMember]; rfl)) (yCb ?_ (by size_fits)))) (by size_fits));simp only [raiseNew];refine yAD (wpAny_handled ?_)
 first | rw [show A.in1.handled = none by exact hh] | rw [hh]
 exact yAD (yAW (wpAny_throw (hE _ _ (((Heap.SameBut.update ..).extBut.push _).push _) ⟨_,yAS _ rfl,rfl⟩)))
end
theorem zUZ {prog : Program} {w : World} {A : Around} (hh : A.handled = none) (it t : Addr) (hne : t ≠ it) (xs : Array Value) :
  Draws prog w A it [it,t] xs.size (λi v=>xs[i]? = some v) (λi h=>h.IsTupleIter it t i/\h.IsTuple t xs) where
 live:=λ_ _ st=>let ⟨o,ho,_⟩:=st.1; ⟨o,ho⟩
 frame:=λ_ _ _ st hk=>⟨st.1.at λo e=>hk it (by simp) o e,st.2.at λo e=>hk t (by simp) o e⟩
 item:=λi s Q E hi st hQ=>zMV st.1 st.2 (x:=xs[i]) (by simp [hi]) λh' hit' hs'=>hQ _ h' s.toks (by simp [hi]) ⟨hit',st.2.extBut hs'.extBut hne⟩ hs'
 done:=λs Q E st hE=>zO7 hh st.1 st.2 (by simp) hE
noncomputable def zVO (K : PySem.W.Frag) (a : Addr) : It :=
 ⟨λi H=>∃ xs x,SqT K H a xs/\xs[i]? = some x,λi H v H'=>∃ p x,H p = none/\v = .ref p/\(∀ xs,SqT K H a xs -> xs[i]? = some x)/\H' = upd H p (.tup [.int (i : Nat),x]),λi H=>∃ xs,SqT K H a xs/\xs.length = i⟩
theorem zNP {P : Program} {w : World} {K : PySem.W.Frag} {elts : List Expr} {x1 : Nat} {pos : Pos} (a e it : Addr) (hne : e ≠ it) (hai : a ≠ it) (hea : e ≠ a) :
  Turn P w K (.Tuple elts x1 pos) (zVO K a) [e,it] e (λi h=>(∃ old,IsEnum h e it (i : Nat) old)/\h.IsTupleIter it a i) where
 mem:=by simp
 obj := fun i h st b hb => by
  obtain ⟨⟨old,se⟩,o,eo,c,d⟩:=st
  rcases yAb.mp hb with rfl | hb
  ·exact ⟨_,se,λv z=>by cases z⟩
  ·rw [yAF.mp hb]
   exact ⟨o,eo,λv z=>by rw [d] at z; cases z⟩
 keep:=λi h h' st k=>⟨let ⟨old,se⟩:=st.1; ⟨old,k e (by simp) _ se⟩,st.2.at λo q=>k it (by simp) o q⟩
 item := by
  intro X hP hw hK hc i pins s σ H E I hf st hg;subst hP hw hK;obtain ⟨xs,x,hq,hx⟩:=hg;obtain ⟨its,rv,p,hz⟩:=I.tuple hq;obtain ⟨u,hu,ru⟩:=rv.get hx;obtain ⟨⟨old,se⟩,si⟩:=st;have fe:=hf e (by simp);have fi:=hf it (by simp);have hel : e < s.heap.objs.size:=yAJ se;have D:=zUZ (prog:=X.prog) (w:=X.w) (A:=X.A.in1) (by simpa using I.ok.hd hc) it a hai its.toArray;have hlt : i < its.length:=(yAI.mp hu).1;refine wpAny_pyNext_enum_itemD D se ⟨si,show s.heap.IsTuple a its.toArray from p⟩ (by simpa using hlt) hne (by simp only [yAb,yCR,or_false,not_or]; exact ⟨hne,hea⟩) λy h1 tk hy so si1 ht hsz kk => ?_
  have hyu : y = u := by
   have : its[i]? = some y:=by simpa using hy
   rw [hu] at this; cases this; rfl
  subst hyu;refine ⟨_,rfl,wpAny_letOwnedTupleGo_enum so λh2 se2 sb => ?_⟩;have sb' : Heap.SameBut e h1 h2:=sb;have si2 : h2.IsTupleIter it a (i + 1):=si1.1.at λo q=>(sb'.2 it hne.symm).trans q;have hn : H s.heap.objs.size = none:=I.hok.fresh (yAE _);have ht2 : h2.get? s.heap.objs.size = some { cls := .type "tuple",data := .seq #[.int i tk,y] }:=(sb'.2 _ (yBW hel)).trans ht;refine ⟨.ref s.heap.objs.size,_,I.pair (a := .int (i : Nat)) (b:=x) fe fi (λb o h1 h2' q=>(sb'.2 b h1).trans (kk b o h1 h2' q)) ⟨_,se2⟩ (let ⟨o,q,_⟩:=si2; ⟨o,q⟩) ht2 ⟨_,rfl⟩ ru,rfl,⟨_,x,hn,rfl,λys hy=>by rw [I.tuple_inj hy hq]; exact hx,rfl⟩,⟨⟨y,?_⟩,si2⟩,λb hb => ?_⟩
  ·have : ((i + 1 : Nat) : Int) = (i : Int) + 1 := by lia
   rw [this]; exact se2
  ·rw [zA6]
   ·exact (hf b hb).1
   ·intro z
    rcases yAb.mp hb with q | q
    ·rw [z] at q; exact absurd q (yBW hel)
    ·obtain ⟨o, q2, _⟩ := si
     rw [z] at q; exact absurd (yAF.mp q) (yBW (yAJ q2))
 done := by
  intro X hP hw hK hc i pins s σ H E I hf st hg;subst hP hw hK;obtain ⟨xs,hq,hx⟩:=hg;obtain ⟨its,rv,p,hz⟩:=I.tuple hq;obtain ⟨⟨old,se⟩,si⟩:=st;obtain ⟨f0,f1,f2,f3,f4,f5⟩:=hf it (by simp);have hl:=rv.length;have D:=zUZ (prog:=X.prog) (w:=X.w) (A:=X.A.in1) (by simpa using I.ok.hd hc) it a hai its.toArray;have en : i = its.toArray.size:=by simp; lia
  subst en;exact wpAny_pyNext_enum_endD D se ⟨si,show s.heap.IsTuple a its.toArray from p⟩ λh' eb=>⟨rfl,I.turned (t':=s.toks) (λb o hb e=>eb b o hb e) f0 f1 f3 f4 f5⟩
 self:=λ_ _ _ _ _ st h=>let ⟨_,se⟩:=st.1; yDY se h
noncomputable def zV2 (K : PySem.W.Frag) (ta : TA) : TI:=λσ H R=>ta σ H λvs H1=>∃ a,vs = [.ref a]/\((∃ xs,SqL K H1 a xs)/\R (Ite K a) H1 \/ (∃ xs,SqT K H1 a xs)/\R (zVO K a) H1)
theorem zHV {X : Cx} {elts : List Expr} {x1 : Nat} {tpos : Pos} {a : Expr} {ta : TA} {p pos : Pos} (hg : Gl X "enumerate") (hm : X.mg "enumerate" = none) (ha : PA X [a] ta) (hs : starEach [a] X.env = [(false, eval a X.env)] := by rfl) :
  PI X (.Tuple elts x1 tpos) (.Call (.Name "enumerate" p) [a] [] pos) (zV2 X.K ta):=by
 intro pins s σ H R I h;refine Call_ (zE2 I hg hm boot_enumerate (yCZ (thn (ha pos pins s σ H _ I h) λus s1 ⟨vs,H1,I1,r1,q1⟩ => ?_) hs rfl));obtain ⟨l,e,q⟩:=q1;subst e;obtain ⟨u,rfl,ru⟩:=zDN r1
 cases ru
 have fp : ∀ b ∈ [s1.heap.objs.size + 1, s1.heap.objs.size], zGL X pins H1 b := fun b hb => by
  rcases yAb.mp hb with rfl | hb
  ·exact I1.fpOk (yCl _) (I1.hok.fresh (yCl _))
  ·rw [yAF.mp hb]; exact I1.fpOk (yAE _) (I1.hok.fresh (yAE _))
 rcases q with ⟨⟨xs,hq⟩,q⟩ | ⟨⟨xs,hq⟩,q⟩
 ·obtain ⟨its, rv, pl, hz⟩ := I1.list hq
  refine call_enumerate_list pl.isList λh' se si hsz kk=>yDY se ?_;exact ⟨s1.heap.objs.size + 1,[s1.heap.objs.size + 1,s1.heap.objs.size],_,_,H1,rfl,I1.kept (t':=s1.toks) kk,zQZ l _ _ (Nat.succ_ne_self _),⟨⟨_,se⟩,si⟩,fp,q⟩
 ·obtain ⟨its, rv, pl, hz⟩ := I1.tuple hq
  have pl' : s1.heap.IsTuple l its.toArray:=pl;refine zN9 pl' λh' se si kk=>yDY se ?_;have lt : l < s1.heap.objs.size:=let ⟨o,ho,_⟩:=pl'; yAJ ho;exact ⟨s1.heap.objs.size + 1,[s1.heap.objs.size + 1,s1.heap.objs.size],_,_,H1,rfl,I1.kept (t':=s1.toks) kk,zNP l _ _ (Nat.succ_ne_self _) (yAi lt) (yBW (yCA lt)),⟨⟨_,se⟩,si⟩,fp,q⟩
noncomputable def zcI (K : PySem.W.Frag) (tl : TE) : TI:=λσ H R=>tl σ H λx H1=>∃ a,x = .ref a/\((∃ xs,SqL K H1 a xs)/\R (Itl K a) H1 \/ (∃ xs,SqT K H1 a xs)/\R (Itt K a) H1)
theorem zC5 {X : Cx} {tg l : Expr} {tl : TE} (hl : PE X l tl) : PI X tg l (zcI X.K tl) := by
 intro pins s σ H R I h;refine thn (hl pins s σ H _ I h) λv s1 ⟨x,H1,I1,r1,a,e,q⟩ => ?_;subst e
 cases r1
 have fp : ∀ b∈[s1.heap.objs.size],zGL X pins H1 b:=λb hb=>by rw [yAF.mp hb]; exact I1.fpOk (yAE _) (I1.hok.fresh (yAE _))
 rcases q with ⟨⟨xs,hq⟩,q⟩ | ⟨⟨xs,hq⟩,q⟩
 ·obtain ⟨its, rv, pl, hz⟩ := I1.list hq
  exact yCH pl.isList ⟨s1.heap.objs.size,[s1.heap.objs.size],_,_,H1,rfl,I1.kept (t':=s1.toks) λb o e=>yAC _ e,zJ6 a _,⟨_,yAS _ rfl,rfl,rfl⟩,fp,q⟩
 ·obtain ⟨its, rv, pl, hz⟩ := I1.tuple hq
  exact yDO (show s1.heap.IsTuple a its.toArray from pl) ⟨s1.heap.objs.size,[s1.heap.objs.size],_,_,H1,rfl,I1.kept (t':=s1.toks) λb o e=>yAC _ e,zND a _,⟨_,yAS _ rfl,rfl,rfl⟩,fp,q⟩
section
variable {X : Cx} {pins : List (Addr × Obj)} {σ : St} {H : Hp} {s : Shared}
theorem zVW {x : V} {u t : Value} (I : Inv X pins σ H s) (rx : RelV x u) (ty : TyOf X.K H x t) : ∃ HH : Heap -> Prop, PySem.W.KitX X.K u t HH /\ HH s.heap /\ u ≠ .builtin "__main__.__loader__#opaque" := by
 cases ty with
 | non=>cases (show u = Value.none from rx); exact ⟨_,PySem.W.kitx_none,True.intro,λz=>nomatch z⟩
 | bl y=>cases (show u = Value.bool y from rx); exact ⟨_,PySem.W.kitx_bool,True.intro,λz=>nomatch z⟩
 | int i=>obtain ⟨t,q⟩:=(show ∃ t,u = Value.int i t from rx); cases q; exact ⟨_,PySem.W.kitx_int,True.intro,λz=>nomatch z⟩
 | str y=>obtain ⟨t,q⟩:=(show ∃ t,u = Value.str y t from rx); cases q; exact ⟨_,PySem.W.kitx_str,True.intro,λz=>nomatch z⟩
 | flt y=>obtain ⟨t,q⟩:=(show ∃ t,u = Value.float y t from rx); cases q; exact ⟨_,PySem.W.kitx_float,True.intro,λz=>nomatch z⟩
 | @lst a xs ea =>
  cases (show u = Value.ref a from rx)
  obtain ⟨_,_,n,_,h1⟩:=(show ObjOk X.prog X.w H s.heap a (.lst xs) from I.hok a _ ea);exact ⟨_,yDa,⟨_,h1,rfl⟩,λz=>nomatch z⟩
 | @frz a ob xs ea =>
  cases (show u = Value.ref a from rx)
  obtain ⟨_,_,_,n,_,h1⟩:=(show ObjOk X.prog X.w H s.heap a (.frz ob (.lst xs)) from I.hok a _ ea);exact ⟨_,yDa,⟨_,h1,rfl⟩,λz=>nomatch z⟩
 | @tup a xs ea =>
  cases (show u = Value.ref a from rx)
  obtain ⟨_,_,_,p⟩:=(show ObjOk X.prog X.w H s.heap a (.tup xs) from I.hok a _ ea);obtain ⟨o,h1,h2,_⟩:=p;exact ⟨_,PySem.W.kitx_tuple,⟨o,h1,h2⟩,λz=>nomatch z⟩
 | @dK a kvs ea =>
  cases (show u = Value.ref a from rx)
  obtain ⟨_,_,vs,_,p⟩:=(show ObjOk X.prog X.w H s.heap a (.dK kvs) from I.hok a _ ea);obtain ⟨o,es,ep,h1,h2,_⟩:=p;exact ⟨_,yDb,⟨o,h1,h2.1⟩,λz=>nomatch z⟩
 | @dT a kvs ea =>
  cases (show u = Value.ref a from rx)
  obtain ⟨_,_,xs,_,o,es,ep,h1,h2,_⟩:=(show ObjOk X.prog X.w H s.heap a (.dT kvs) from I.hok a _ ea);exact ⟨_,yDb,⟨o,h1,h2.1⟩,λz=>nomatch z⟩
 | @ins a C dx fs ea cl ha hn htk hm =>
  cases (show u = Value.ref a from rx)
  obtain ⟨mA,O,_⟩:=zFQ I.hok ea;obtain ⟨od,J,_⟩:=O.look;exact ⟨_,PySem.W.kitx_own (cl.get _) cl.hd ha hn htk hm,J,λz=>nomatch z⟩
theorem zO6 : ∀ {cs : List String} {us : List Value}, Vals (cs.map V.ty) us -> us = cs.map Value.type
 | [],_,.nil=>rfl
 | c::cs,_,.cons r t=>by rw [zO6 t,show _ = Value.type c from r]; rfl
noncomputable def zZ6 (K : PySem.W.Frag) : List V -> Hp -> VK -> Prop:=λxs H Q=>∃ (x : V) (t : Value) (p : Addr) (cs : List String) (b : Bool),xs = [x,.ref p]/\TyOf K H x t/\H p = some (.tup (cs.map V.ty))/\PySem.W.kitAny K t (cs.map Value.type) = some b/\Q (.bl b) H
theorem zDG : zCW X (.builtin "isinstance") (zZ6 X.K) := by
 intro pins s σ H xs us Q I r h;obtain ⟨x,t,p,cs,b,rfl,ty,hp,e,q⟩:=h;obtain ⟨u,w',rfl,r1,r2⟩:=zTJ r
 cases r2
 obtain ⟨HH,kx,hh,ne⟩:=zVW I r1 ty;obtain ⟨_,its,rv,⟨oc,od,odt,osl⟩,h1,h2,n,h3⟩:=(show ObjOk X.prog X.w H s.heap p (.tup (cs.map V.ty)) from I.hok p _ hp);obtain rfl : oc = .type "tuple":=h2;obtain rfl : odt = .seq its.toArray n:=h3;rw [<- zO6 rv] at e;exact PySem.W.kia_tup kx I.kIn hh h1 e ne λtk=>⟨.bl b,H,I.tok _,rfl,q⟩
theorem zDR {K : PySem.W.Frag} {t c d : Value} {a b : Bool} (h1 : PySem.W.kitOne K t c = some a) (h2 : PySem.W.kitOne K t d = some b) : PySem.W.kitAny K t [c, d] = some (a || b) := by
 unfold PySem.W.kitAny;rw [h1]
 cases a with
 | true=>rfl
 | false =>
  show PySem.W.kitAny K t [d] = _;unfold PySem.W.kitAny;rw [h2]
  cases b <;> rfl
end
theorem zBW {o0 : HO} {xs : List Str} {fv : List (Str × Nat)} {g : TG} {tt : TT} {tb : TB} {σ : St} {J : It} {H1 : Hp} {Q : VK} (n : Nat) (Pv : Nat -> Addr -> Hp -> Prop) (h0 : ∀ D, H1 D = none -> Pv 0 D (upd H1 D o0))
  (hgo : ∀ i D H,H1 D = none -> i < n -> Pv i D H -> J.go i H) (hst : ∀ D H,H1 D = none -> Pv n D H -> J.stop n H)
  (hs : ∀ i D H x H',H1 D = none -> i < n -> Pv i D H -> J.yld i H x H' -> g x (ρT xs fv σ) H' λσ2 H2=>zI5 xs (ρT xs fv σ) σ2/\tt σ2 H2 λb H3=>if b = true then tb D σ2 H3 (Pv (i + 1) D) else Pv (i + 1) D H3)
  (hd : ∀ D H,H1 D = none -> Pv n D H -> Q (.ref D) H) : zCG o0 xs fv g tt tb σ J H1 Q:=by
 intro D hD;refine ⟨λi m H=>m = n - i/\i <= n/\Pv i D H,⟨n,by simp,yBL _,h0 D hD⟩,?_⟩
 rintro i m H ⟨rfl,hi,p⟩
 by_cases hlt : i < n
 ·exact .inr ⟨hgo i D H hD hlt p,Pv (i + 1) D,λH' p'=>⟨n - (i + 1),by lia,rfl,hlt,p'⟩,λx H' y=>hs i D H x H' hD hlt p y⟩
 ·obtain rfl : i = n := by lia
  exact .inl ⟨hst D H hD p,hd D H hD p⟩
theorem zGY {J : It} {g : TG} {tb : TS} {D : Ends} {σ : St} {H : Hp} (n : Nat) (Pv : Nat -> St -> Hp -> Prop) (h0 : Pv 0 σ H) (hgo : ∀ i σ H, i < n -> Pv i σ H -> J.go i H) (hst : ∀ σ H, Pv n σ H -> J.stop n H)
  (hs : ∀ i σ H x H',i < n -> Pv i σ H -> J.yld i H x H' -> g x σ H' λσ2 H2=>tb { D with nx:=Pv (i + 1),ct:=Pv (i + 1),bk:=D.nx } σ2 H2) (hd : ∀ σ H,Pv n σ H -> D.nx σ H) :
  ∃ W : Nat -> Nat -> St -> Hp -> Prop,(∃ m,W 0 m σ H)/\∀ i m σ H,W i m σ H ->
   (J.stop i H/\D.nx σ H) \/ (J.go i H/\∃ N : St -> Hp -> Prop,(∀ σ' H',N σ' H' -> ∃ m',m' < m/\W (i + 1) m' σ' H')/\∀ x H',J.yld i H x H' -> g x σ H' λσ2 H2=>tb { D with nx:=N,ct:=N,bk:=D.nx } σ2 H2):=by
 refine ⟨λi m σ H=>m = n - i/\i <= n/\Pv i σ H,⟨n,by simp,yBL _,h0⟩,?_⟩
 rintro i m σ H ⟨rfl,hi,p⟩
 by_cases hlt : i < n
 ·exact .inr ⟨hgo i σ H hlt p,Pv (i + 1),λσ' H' p'=>⟨n - (i + 1),by lia,rfl,hlt,p'⟩,λx H' y=>hs i σ H x H' hlt p y⟩
 ·obtain rfl : i = n := by lia
  exact .inl ⟨hst σ H p,hd σ H p⟩
theorem ndT {X : Cx} {scope : Scope} {xs : List Str} {fv : List (Str × Nat)} {C : Addr} {s₀ : Shared} {H₀ : Hp} {ex : List Addr} {pn : List (Addr × Obj)} (h : zEM scope xs fv = true) : (cxT X scope xs fv C s₀ H₀ ex pn).N.Nodup:=(zDE h).nd
end
end L2
namespace L2
open PySem PySem.Spec PyProof.Rows PySem.W
structure Lin (α : Type) where
 lt : α -> α -> Bool
 asym : ∀ a b,lt a b = true -> lt b a = false
 trans : ∀ a b c,lt b a = false -> lt c b = false -> lt c a = false
 anti : ∀ a b,lt a b = false -> lt b a = false -> a = b
section
variable {n : Nat} {r : Nat -> Nat -> Bool}
end
section
variable {κ : Type} (O : Lin κ) (g : Nat -> κ) {n : Nat}
noncomputable def Lin.le (a b : κ) : Prop:=O.lt b a = false
structure Pm (n : Nat) (p : Array Nat) : Prop where
 perm : p.Perm (List.toArray (List.range n))
end
mutual
inductive DV (K : PySem.W.Frag) (H : Hp) : V -> PyData -> Prop
 | non : DV K H .non .none
 | bl (b : Bool) : DV K H (.bl b) (.bool b)
 | int (i : Int) : DV K H (.int i) (.int i)
 | str (x : Str) : DV K H (.str x) (.str x)
 | lst {a : Addr} {xs : List V} {ds : List PyData} : SqL K H a xs -> DVs K H xs ds -> DV K H (.ref a) (.list ds)
 | tup {a : Addr} {xs : List V} {ds : List PyData} : SqT K H a xs -> DVs K H xs ds -> DV K H (.ref a) (.tuple ds)
inductive DVs (K : PySem.W.Frag) (H : Hp) : List V -> List PyData -> Prop
 | nil : DVs K H [] []
 | cons {x : V} {xs : List V} {d : PyData} {ds : List PyData} : DV K H x d -> DVs K H xs ds -> DVs K H (x::xs) (d::ds)
end
theorem DVs.ints {K : PySem.W.Frag} {H : Hp} : ∀ ns : List Int, DVs K H (ns.map V.int) (ns.map PyData.int)
 | [] => .nil
 | n::r => .cons (.int n) (DVs.ints r)
theorem SqT.mono {K : PySem.W.Frag} {H H' : Hp} {a : Addr} {xs : List V} (e : Same H H') (h : SqT K H a xs) : SqT K H' a xs := by
 rcases h with (h | ⟨o,h⟩) | h
 ·exact .inl (.inl (e _ _ h))
 ·exact .inl (.inr ⟨o,e _ _ h⟩)
 ·exact .inr h
section
variable {X : Cx} {pins : List (Addr × Obj)} {σ : St} {H : Hp} {s : Shared}
mutual
theorem DV.reads (I : Inv X pins σ H s) : ∀ {v : V} {d : PyData} {u : Value}, DV X.K H v d -> RelV v u -> ∃ as, Reads s.heap u d as
 | _,_,_,.non,r=>by cases r; exact ⟨_,.none⟩
 | _,_,_,.bl b,r=>by cases r; exact ⟨_,.bool b⟩
 | _,_,_,.int i,r=>by obtain ⟨t,rfl⟩:=r; exact ⟨_,.int i t⟩
 | _,_,_,.str x,r=>by obtain ⟨t,rfl⟩:=r; exact ⟨_,.str x t⟩
 | _,_,_,.lst hq hs,r=>by
  cases r
  obtain ⟨its,rv,⟨o,n,e,c,_,d⟩,_⟩:=I.list hq;obtain ⟨as,q⟩:=DVs.reads I hs rv;exact ⟨_,.list e c d (by simpa using q)⟩
 | _,_,_,.tup hq hs,r=>by
  cases r
  obtain ⟨its,rv,p,_⟩:=I.tuple hq;obtain ⟨as,q⟩:=DVs.reads I hs rv;obtain ⟨o,e,c,n,d⟩:=p;exact ⟨_,.tuple e c d (by simpa using q)⟩
theorem DVs.reads (I : Inv X pins σ H s) : ∀ {vs : List V} {ds : List PyData} {us : List Value}, DVs X.K H vs ds -> Vals vs us -> ∃ as, ReadsAll s.heap us ds as
 | _,_,_,.nil,.nil=>⟨_,.nil⟩
 | _,_,_,.cons h t,.cons r rs=>by
  obtain ⟨as,q⟩:=DV.reads I h r;obtain ⟨bs,q'⟩:=DVs.reads I t rs;exact ⟨_,.cons q q'⟩
end
end
section
variable {X : Cx} {k : Nat}
noncomputable def zZI (K : PySem.W.Frag) : List V -> Hp -> VK -> Prop:=λxs H Q=>∃ x d,xs = [x]/\DV K H x d/\d.showable = true/\d.hasDict = false/\d.depth <= 100/\d.shown.length <= sizeLine/\Q (.str d.shown) H
theorem zPU (hr : Room k X.A) : zCW X (.builtin "repr") (zZI X.K) := by
 intro pins s σ H xs us Q I r h;obtain ⟨x,d,rfl,hd,h1,h2,h3,h4,q⟩:=h;obtain ⟨u,rfl,ru⟩:=zDN r;obtain ⟨as,rd⟩:=hd.reads I ru;have fin : ∀ t : Tok,∀ tk,EP X pins σ Q (.str d.shown t) { s with toks:=tk }:=λt tk=>⟨.str d.shown,H,I.tok _,⟨_,rfl⟩,q⟩
 cases hd with
 | non=>cases ru; exact PySem.P.repr_of_none (fin _ _)
 | bl b =>
  cases ru
  refine PySem.P.repr_of_bool ?_;have e : (PyData.bool b).shown = (if b then "True" else "False" : Str):=PyData.shown_bool b;rw [e] at fin
  cases b <;> exact fin _ _
 | int i=>obtain ⟨t,rfl⟩:=ru; exact PySem.P.repr_of_int (by simpa [PyData.showable] using h1) (by have:=fin s.toks (s.toks + 1); rw [PyData.shown_int] at this; exact this)
 | str y=>obtain ⟨t,rfl⟩:=ru; exact PySem.P.repr_of_str (by have:=fin s.toks (s.toks + 1); rw [yDj] at this; exact this) (by rw [yDj] at h4; exact h4)
 | @lst a xs ds hq hs =>
  cases ru
  exact yDU rd h1 (λz=>by rw [h2] at z; cases z) hr.gd (by have:=hr.un; lia) (λ_ _ e=>e) (λh' u tk hk=>⟨.str _,H,I.kept (t':=tk) hk,⟨_,rfl⟩,q⟩) h4
 | @tup a xs ds hq hs =>
  cases ru
  exact yDU rd h1 (λz=>by rw [h2] at z; cases z) hr.gd (by have:=hr.un; lia) (λ_ _ e=>e) (λh' u tk hk=>⟨.str _,H,I.kept (t':=tk) hk,⟨_,rfl⟩,q⟩) h4
noncomputable def za6 (K : PySem.W.Frag) (neg : Bool) : R2:=λx y H Q=>∃ d e,DV K H x d/\DV K H y e/\d.canLay0 = true/\e.canLay0 = true/\d.depth <= 100/\Q (.bl (if neg then !PyData.eqv d e else PyData.eqv d e)) H
theorem zH5 (hr : Room k X.A) : OpR X (compareOp .Eq) (za6 X.K false) := by
 intro pins s σ H x y v u Q I rx ry h;obtain ⟨d,e,hd,he,h1,h2,h3,q⟩:=h;obtain ⟨as,r1⟩:=hd.reads I rx;obtain ⟨bs,r2⟩:=he.reads I ry;refine SeqAt.compareEq_reads r1 r2 h1 h2 (by have:=hr.un; have:=Nat.min_le_left d.depth e.depth; lia) ?_;exact ⟨.bl _,H,I,rfl,q⟩
theorem zUJ (hr : Room k X.A) : OpR X (compareOp .NotEq) (za6 X.K true) := by
 intro pins s σ H x y v u Q I rx ry h;obtain ⟨d,e,hd,he,h1,h2,h3,q⟩:=h;obtain ⟨as,r1⟩:=hd.reads I rx;obtain ⟨bs,r2⟩:=he.reads I ry;refine SeqAt.compareNe_reads r1 r2 h1 h2 (by have:=hr.un; have:=Nat.min_le_left d.depth e.depth; lia) ?_;exact ⟨.bl _,H,I,rfl,q⟩
noncomputable def zaQ (K : PySem.W.Frag) : List V -> Hp -> VK -> Prop:=λxs H Q=>∃ x t n b,xs = [x,.ty n]/\TyOf K H x t/\PySem.W.kitOne K t (.type n) = some b/\Q (.bl b) H
theorem zB3 : zCW X (.builtin "isinstance") (zaQ X.K) := by
 intro pins s σ H xs us Q I r h;obtain ⟨x,t,n,b,rfl,ty,e,q⟩:=h;obtain ⟨u,w',rfl,r1,r2⟩:=zTJ r
 cases r2
 exact zPQ I r1 ty e λtk=>⟨.bl b,H,I.tok _,rfl,q⟩
noncomputable def zc9 (K : PySem.W.Frag) (te : TE) : TE:=λσ H Q=>te σ H λx H1=>∃ a xs,x = .ref a/\SqL K H1 a xs/\∀ p,H1 p = none -> Q (.ref p) (upd H1 p (.lst xs.reverse))
theorem zOW {e : Expr} {te : TE} {p1 p2 p3 p4 pos : Pos} {c : Nat} (he : PE X e te) : PE X (.Subscript e (.Slice none none (some (.UnaryOp .USub (.Constant (.int 1) c p1) p2)) p3) pos) (zc9 X.K te) := by
 intro pins s σ H Q I h;refine Subscript_ (thn (he pins s σ H _ I h) λv s1 ⟨x,H1,I1,r1,q1⟩ => ?_);obtain ⟨a,xs,rfl,hx,q⟩:=q1
 cases r1
 refine wpAny_Slice (thn (zB2 pins s1 σ H1 (fun o H2 => o = none /\ H2 = H1) I1 ⟨rfl, rfl⟩) fun vl s2 ⟨l, H2, I2, pl, q2⟩ => thn (zB2 pins s2 σ H2 (fun o H3 => o = none /\ H3 = H1) I2 ⟨rfl, q2.2⟩) fun vu s3 ⟨u, H3, I3, pu, q3⟩ =>
  thn (zB5 (zb9 zYF zA8) pins s3 σ H3 (λo H4=>o = some (-1)/\H4 = H1) I3 ⟨1,rfl,-1,rfl,rfl,q3.2⟩) λvk s4 ⟨w,H4,I4,pk,q4⟩ => ?_)
 obtain ⟨rfl,rfl⟩:=q4;obtain ⟨rfl,_⟩:=q2;obtain ⟨rfl,_⟩:=q3;obtain ⟨its,r,ht,hz⟩:=I4.list hx;have hlen:=r.length;have I5 : Inv X pins σ H4 { s4 with heap:=s4.heap.push { cls := .type "slice",data := .fields #[vl,vu,vk] } }:=I4.kept (t':=s4.toks) λb ob q=>yAC _ q;have hl5 : (s4.heap.push { cls := .type "slice",data := .fields #[vl,vu,vk] }).IsList a its.toArray:=ht.isList.push _
 refine tail_any (ops := [.ref a, .ref s4.heap.objs.size]) (s := { s4 with heap := s4.heap.push { cls := .type "slice", data := .fields #[vl, vu, vk] } }) (Heap.IsList.typeIs (s := { s4 with heap := s4.heap.push { cls := .type "slice", data := .fields #[vl, vu, vk] } }) hl5) slot_list_getitem.lookup
  (wpAny_getItem_list_slice hl5 (Heap.IsSliceOf.new ..) pl pu pk (by simp) ?_ (by rw [yAH]; lia)) (by with_unfolding_all rfl)
 rw [show slicePick its.toArray none none (some (-1)) = its.reverse.toArray from by rw [PySem.W.krv_pick]];refine ⟨.ref _,_,I5.lnew (t':=s4.toks) (ys:=xs.reverse) r.reverse (by simpa using hz),rfl,q _ I5.fresh⟩
end
end L2
namespace L2
open PySem PySem.Spec PyProof.Rows PySem.W
noncomputable def zCK (a b : Int × List Int) : Bool:=if a.1 = b.1 then HT.lexLt a.2 b.2 else decide (a.1 < b.1)
noncomputable def za8 (a : Int × List Int) : PyData := .tuple [.int a.1,.tuple (a.2.map PyData.int)]
theorem zPS : ∀ a : List Int, HT.lexLt a a = false
 | []=>rfl
 | x::r=>by rw [HT.lexLt_cons,yAQ rfl]; exact zPS r
theorem zMD : ∀ a b : List Int, HT.lexLt a b = true -> HT.lexLt b a = false
 | [],[],h=>by cases h
 | [],_::_,_=>rfl
 | _::_,[],h=>by cases h
 | x::r,y::t,h=>by
  rw [HT.lexLt_cons] at h ⊢
  by_cases e : x = y
  ·rw [yAQ e] at h; rw [yAQ e.symm]; exact zMD r t h
  ·rw [yAN e] at h; rw [yAN (Ne.symm e)]
   have:=yAj h
   exact yAG (by lia)
theorem zMF : ∀ a b : List Int, HT.lexLt a b = false -> HT.lexLt b a = false -> a = b
 | [],[],_,_=>rfl
 | [],_::_,h,_=>by cases h
 | _::_,[],_,h=>by cases h
 | x::r,y::t,h,h'=>by
  rw [HT.lexLt_cons] at h h'
  by_cases e : x = y
  ·rw [yAQ e] at h; rw [yAQ e.symm] at h'; rw [e,zMF r t h h']
  ·rw [yAN e] at h; rw [yAN (Ne.symm e)] at h'
   have h1:=yBU h;have h2:=yBU h';lia
theorem zJ5 : ∀ a b c : List Int, HT.lexLt b a = false -> HT.lexLt c b = false -> HT.lexLt c a = false
 | _,[],[],h,_=>h
 | _,_::_,[],_,h'=>by cases h'
 | [],_,_::_,_,_=>rfl
 | x::r,[],_::_,h,_=>by cases h
 | x::r,y::t,z::u,h,h'=>by
  rw [HT.lexLt_cons] at h h' ⊢
  by_cases e1 : y = x
  ·rw [yAQ e1] at h
   by_cases e2 : z = y
   ·rw [yAQ e2] at h'; rw [yAQ (e2.trans e1)]; exact zJ5 r t u h h'
   ·rw [yAN e2] at h'; rw [yAN (by lia)]
    have:=yBU h'
    exact yAG (by lia)
  ·rw [yAN e1] at h
   have h1:=yBU h
   by_cases e2 : z = y
   ·rw [yAN (by lia)]; exact yAG (by lia)
   ·rw [yAN e2] at h'
    have h2:=yBU h';rw [yAN (by lia)]; exact yAG (by lia)
noncomputable def keyLin : Lin (Int × List Int) where
 lt:=zCK
 asym := fun a b h => by
  unfold zCK at h ⊢
  by_cases e : a.1 = b.1
  ·rw [yAQ e] at h; rw [yAQ e.symm]; exact zMD _ _ h
  ·rw [yAN e] at h; rw [yAN (Ne.symm e)]
   have:=yAj h
   exact yAG (by lia)
 trans := fun a b c h h' => by
  unfold zCK at h h' ⊢
  by_cases e1 : b.1 = a.1
  ·rw [yAQ e1] at h
   by_cases e2 : c.1 = b.1
   ·rw [yAQ e2] at h'; rw [yAQ (e2.trans e1)]; exact zJ5 _ _ _ h h'
   ·rw [yAN e2] at h'; rw [yAN (by lia)]
    have:=yBU h'
    exact yAG (by lia)
  ·rw [yAN e1] at h
   have h1:=yBU h
   by_cases e2 : c.1 = b.1
   ·rw [yAN (by lia)]; exact yAG (by lia)
   ·rw [yAN e2] at h'
    have h2:=yBU h';rw [yAN (by lia)]; exact yAG (by lia)
 anti := fun a b h h' => by
  unfold zCK at h h'
  by_cases e : a.1 = b.1
  ·rw [yAQ e] at h; rw [yAQ e.symm] at h'
   exact Prod.ext e (zMF _ _ h h')
  ·rw [yAN e] at h; rw [yAN (Ne.symm e)] at h'
   have h1:=yBU h;have h2:=yBU h';lia
mutual
theorem DV.mono {K : PySem.W.Frag} {H H' : Hp} (g : Same H H') : ∀ {v : V} {d : PyData}, DV K H v d -> DV K H' v d
 | _,_,.non => .non
 | _,_,.bl b => .bl b
 | _,_,.int i => .int i
 | _,_,.str x => .str x
 | _,_,.lst h t => .lst (g.seq h) (DVs.mono g t)
 | _,_,.tup h t => .tup (SqT.mono g h) (DVs.mono g t)
theorem DVs.mono {K : PySem.W.Frag} {H H' : Hp} (g : Same H H') : ∀ {v : List V} {d : List PyData}, DVs K H v d -> DVs K H' v d
 | _,_,.nil => .nil
 | _,_,.cons h t => .cons (DV.mono g h) (DVs.mono g t)
end
section
variable {X : Cx} {pins : List (Addr × Obj)} {σ : St} {H : Hp} {s : Shared}
theorem Inv.take {D : Addr} {o : HO} (I : Inv X pins σ H s) (f : zGL X pins H D) (hs : X.s₀.heap.objs.size <= D) (new : ObjOk X.prog X.w (upd H D o) s.heap D o) : Inv X pins σ (upd H D o) s := by
 obtain ⟨f0,f1,f2,_,f4,f5⟩:=f;have ne : ∀ b ob,X.s₀.heap.get? b = some ob -> b≠D:=λb ob e=>yAi (yAh (yAJ e) hs);have nH : ∀ b u,H b = some u -> b≠D:=λb u e z=>by rw [z,f0] at e; cases e
 refine ⟨I.ok,I.os,I.bare,⟨λb ob e n hb hx=>I.base.keep b ob e n hb hx,λb ob e n hb hx=>I.base.slot b ob e n hb hx,λb ob e n hx => ?_,I.base.there,λb xs e => ?_,λb ob xs e => ?_,λb ps e => ?_⟩,I.loc,I.cell,?_,λy c e => ?_,λp hp => ?_,λb u e => ?_,I.len⟩
 ·rw [zA6 (ne b ob e)]; exact I.base.free b ob e n hx
 ·rw [zA6 (nH b _ (I.base.tups b xs e))]; exact I.base.tups b xs e
 ·rw [zA6 (nH b _ (I.base.frzs b ob xs e))]; exact I.base.frzs b ob xs e
 ·obtain ⟨m, q⟩ := I.base.tbls b ps e
  exact ⟨m,by rw [zA6 (nH b _ q)]; exact q⟩
 ·rw [zA6 f1.symm]; exact I.free
 ·rw [zA6 (f4 y c e)]; exact I.freeC y c e
 ·obtain ⟨z1, z2, z3⟩ := I.pin p hp
  exact ⟨z1,by rw [zA6 (f5 p hp)]; exact z2,z3⟩
 ·by_cases hb : b = D
  ·subst hb; rw [zA2] at e; cases e; exact new
  ·rw [zA6 hb] at e
   exact (I.hok b u e).stay (λ_ _ _ q=>q) (λc q=>by rw [zA6 (zA5 q f0)]; exact q) λc xs q=>by rw [zA6 (zA5 q f0)]; exact q
theorem zKT {prog : Program} {w : World} {A : Around} {E : Value -> Shared -> Prop} {l : Addr} {T : String} {o : Obj} {n : Nat} {vs : List Value} {Q : List Value -> Shared -> Prop} (hT : T = "list" \/ T = "tuple") (ho : s.heap.get? l = some o) (hc : o.cls = .type T)
  (hd : o.data = .seq vs.toArray n) (h : ∀ h',(∀ b u,s.heap.get? b = some u -> h'.get? b = some u) -> Q vs { s with heap:=h' }) (hz : vs.length <= sizeLine) : wpAny (model prog w) A (collect (.ref l)) Q E s:=by
 unfold collect;refine yAD (wpAny_runValue (yCo entry_proto_collect' ?_));show wpAny _ _ ((newList []) >>= λz=>again (.builtin "list.__iadd__" ⟨[z,.ref l],[]⟩)) _ _ s;refine yAD (wpAny_newList (yAW ⟨yCv _ (by decide +kernel),yCo entry_list_iadd' ?_⟩));show wpAny _ _ (Builtin.List.listExtendWith (.ref s.heap.objs.size) (.ref l) (.ref s.heap.objs.size)) _ _ { s with heap:=s.heap.push (seqObj "list" #[] 0) };unfold Builtin.List.listExtendWith;have ho1:=yAC (seqObj "list" #[] 0) ho;refine yAD (wpAny_typeOf (T:=T) ⟨o,ho1,hc⟩ ?_)
 have hor : (Builtin.List.listSameRef (.ref s.heap.objs.size) (.ref l) || Value.type T == .type "list" || Value.type T == .type "tuple") = true := by
  rcases hT with rfl | rfl <;> simp
 rw [yAQ hor];have hnew : (s.heap.push (seqObj "list" #[] 0)).get? s.heap.objs.size = some (seqObj "list" #[] 0):=yAS _ rfl;refine yAD (listItems_at ho1 hd (yAD (listItems_at hnew rfl ?_)));rw [yAN (by simp)];refine yAD (yDf hnew rfl ?_ (yBL _) (by show (#[]++vs.toArray).size <= _; simp; lia));refine yAW ?_;show wpAny (model prog w) A (load s.heap.objs.size >>= λz=>match z.data with | .seq xs _=>pure xs.toList | _=>unsupported "internal:collect") Q E { s with heap:=(s.heap.push (seqObj "list" #[] 0)).update s.heap.objs.size (Obj.mapSeq (· ++ vs.toArray)) };refine yAD (wpAny_load (yDm hnew _) ?_);show wpAny _ _ (pure ((#[] : Array Value)++vs.toArray).toList) Q E _;rw [show ((#[] : Array Value)++vs.toArray).toList = vs by simp];refine yAW (h _ λb u e => ?_);have hb : b≠s.heap.objs.size:=yAi (yAJ e);rw [yBY _ _ _ _ hb];exact yAC _ e
theorem zWP {prog : Program} {w : World} {A : Around} {E : Value -> Shared -> Prop} {st : SortSt} {out : List Value} {D kS : Addr} {e e1 : Nat} {ks : List Value} {P : PySem.Fin -> Shared -> Prop} (hk : s.heap.get? kS = some (seqObj "list" ks.toArray e)) (hD : s.heap.get? D = some (seqObj "list" #[] e1)) (hne : kS ≠ D)
  (hout : (arrOf st).map (·.2) = out.toArray) (hf : failedOf st = none) (hz : ks.length <= sizeLine) (hz2 : out.length <= sizeLine)
  (h : P (.done (.ret .none)) { s with heap:=(s.heap.update kS (Obj.mapSeq λ_ => #[])).update D (Obj.mapSeq λ_=>out.toArray) }) : wpAny (model prog w) A (ksk_tail D false e1 (.ref kS) st) P E s:=by
 unfold ksk_tail
 try dsimp only
 rw [hout];refine yAD (yDf hk rfl ?_ (by rw [yAH]; exact hz) (yBL _))
 have hD' : (s.heap.update kS (Obj.mapSeq fun _ => (#[] : Array Value))).get? D = some (seqObj "list" #[] e1) := by
  rw [yBY _ _ _ _ hne.symm]; exact hD
 refine yAD (wpAny_letGo (yAD (seqEpoch_at hD' rfl ?_)));refine yAD (yDf hD' rfl ?_ (yBL _) (by simp only [yBG,yCc,yAH]; lia));rw [hf];simp only [bne_self_eq_false,yBG,yCc];exact yAW h
theorem zC6 : ∀ ms : List Int, PyData.canLayAll0 (ms.map PyData.int) = true
 | []=>rfl
 | _::r=>by show (true&&PyData.canLayAll0 (r.map PyData.int)) = true; rw [zC6 r]; rfl
theorem zCL : ∀ ms : List Int, PyData.depthAll (ms.map PyData.int) <= 1
 | []=>by simp [PyData.depthAll]
 | m::r=>by
  have:=zCL r
  simp only [yAl,PyData.depthAll,PyData.depth];lia
theorem zMY (ms : List Int) : (PyData.tuple (ms.map PyData.int)).depth <= 2 := by
 have:=zCL ms
 simp only [PyData.depth];lia
theorem DVs.ints_inv {K : PySem.W.Frag} : ∀ {xs : List V} {ms : List Int}, DVs K H xs (ms.map PyData.int) -> xs = ms.map V.int
 | _,[],.nil=>rfl
 | _,_::_,.cons (.int i) t=>by rw [DVs.ints_inv t]; rfl
structure KeyAt (X : Cx) (H : Hp) (s : Shared) (v : Value) (n : Int) (ms : List Int) : Prop where
 ex : ∃ (a b : Addr) (t : Tok) (o : Obj) (k : Nat) (its : List Value) (bs : List Addr),v = .ref a/\s.heap.get? a = some o/\o.cls = .type "tuple"/\o.data = .seq [.int n t,.ref b].toArray k/\IsTup s.heap b its.toArray/\IntsAre its ms/\Reads s.heap (.ref b) (.tuple (ms.map PyData.int)) bs
theorem zY3 {v : V} {u : Value} {n : Int} {ms : List Int} (I : Inv X pins σ H s) (h : DV X.K H v (za8 (n, ms))) (r : RelV v u) : KeyAt X H s u n ms := by
 unfold za8 at h;generalize hd : PyData.tuple [.int n,.tuple (ms.map PyData.int)] = d at h
 cases h with
 | @tup a xs ds hq hs =>
  cases hd
  cases r
  obtain ⟨its,rv,⟨o,e,c,k,d⟩,_⟩:=I.tuple hq
  cases hs with
  | cons h1 t =>
   cases t with
   | cons h2 t2 =>
    cases t2
    generalize hd2 : PyData.int n = d1 at h1
    cases h1 with
    | int i =>
     cases hd2
     generalize hd3 : PyData.tuple (ms.map PyData.int) = d2 at h2;have h2':=h2
     cases h2 with
     | @tup b ys es hq2 hs2 =>
      cases hd3
      have ey:=DVs.ints_inv hs2;subst ey
      cases rv with
      | cons r1 rr =>
       cases rr with
       | cons r2 rr2 =>
        cases rr2
        obtain ⟨t,rfl⟩:=r1
        cases r2
        obtain ⟨its2,rv2,p2,_⟩:=I.tuple hq2;obtain ⟨bs,q⟩:=DV.reads I h2' (u := .ref b) rfl;exact ⟨a,b,t,o,k,its2,bs,rfl,e,c,d,p2,zN1 rv2,q⟩
     | _=>cases hd3
    | _=>cases hd2
 | _=>cases hd
theorem zWX {A : Around} {E : Value -> Shared -> Prop} {u v : Value} {n m : Int} {ms ks : List Int} {C : Bool -> Shared -> Prop} (hu : A.units + 10 < cLine) (h1 : KeyAt X H s u n ms) (h2 : KeyAt X H s v m ks) (h : C (zCK (n, ms) (m, ks)) s) :
  wpAny (model X.prog X.w) A (keyLt' (tuples' true) u v) C E s:=by
 obtain ⟨a,b,t,o,k,its,bs,rfl,e,c,d,p,ia,rd⟩:=h1.ex;obtain ⟨a',b',t',o',k',its',bs',rfl,e',c',d',p',ia',rd'⟩:=h2.ex;refine kat_lt e d e' d' (kat_cons (SeqAt.EqAt.int_int n t m t' _ _ _ _ ?_));refine kat_go (λz => ?_) (λz => ?_)
 ·have en : n = m := by simpa using z
  subst en;refine kat_yes (kat_cons (SeqAt.eqAt_reads _ _ A s _ _ _ _ rd rd' ?_ ?_ ?_ _ _ _ _ ?_))
  ·show PyData.canLayAll0 (ms.map PyData.int) = true
   exact zC6 ms
  ·show PyData.canLayAll0 (ks.map PyData.int) = true
   exact zC6 ks
  ·have q : (PyData.tuple (ms.map PyData.int)).depth <= 2 := zMY ms
   have:=Nat.min_le_left (PyData.tuple (ms.map PyData.int)).depth (PyData.tuple (ks.map PyData.int)).depth
   lia
  ·have eq1 : PyData.eqv (.tuple (ms.map PyData.int)) (.tuple (ks.map PyData.int)) = decide (ms = ks) := by
    rw [PyData.eqv]; exact ked_eqvAll ms ks
   have hk : zCK (n,ms) (n,ks) = HT.lexLt ms ks:=by unfold zCK; rw [yAQ rfl]
   rw [hk] at h;refine kat_go (λy => ?_) (λy => ?_)
   ·rw [eq1] at y
    have em:=yAj y;subst em;rw [zPS] at h;exact kat_yes (kat_nil h)
   ·refine kat_no (kat_one _ _ ?_)
    exact HT.lt_tupInts (items:=its.toArray) (items2:=its'.toArray) p p' ia ia' (by lia) h
 ·have en : ¬ n = m := by simpa using z
  have hk : zCK (n,ms) (m,ks) = decide (n < m):=by unfold zCK; rw [yAN en]
  rw [hk] at h;exact kat_no (oneLt_int h)
end
end L2
namespace L2T
open PySem PyProof.Rows
noncomputable def zDQ : Bool -> Keyed -> Array Keyed -> Nat -> Nat -> Nat -> StateT SortSt Sem (Option Nat):=sortPriv% PySem.Builtin.gallop
noncomputable def zL5 : Array Keyed -> Array Keyed -> StateT SortSt Sem (Array Keyed):=sortPriv% PySem.Builtin.mergeLo
noncomputable def zLZ : Array Keyed -> Array Keyed -> StateT SortSt Sem (Array Keyed):=sortPriv% PySem.Builtin.mergeHi
noncomputable def zQQ : Nat -> StateT SortSt Sem Unit:=sortPriv% PySem.Builtin.setMinGallop
structure Ord (R : Keyed -> Keyed -> Bool) : Prop where
 as : ∀ x y,R x y = true -> R y x = false
 tr : ∀ x y z,R y x = false -> R z y = false -> R z x = false
theorem Ord.irr {R : Keyed -> Keyed -> Bool} (O : Ord R) (x : Keyed) : R x x = false := by
 cases h : R x x with
 | false=>rfl
 | true=>rw [O.as x x h] at h; cases h
structure Cmp (prog : Program) (w : World) (A : Around) (s : Shared) (κ : SortKind) (R : Keyed -> Keyed -> Bool) (P : Keyed -> Prop) : Prop where
 ask : ∀ x y,P x -> P y -> ∀ (C : Bool -> Shared -> Prop) (E : Value -> Shared -> Prop),C (R x y) s -> wpAny (model prog w) A (keyLt' κ x.1 y.1) C E s
noncomputable def at_ (xs : Array Keyed) (i : Nat) : Keyed:=xs.getD i (Value.none,Value.none)
theorem zV7 {xs : Array Keyed} {i : Nat} (h : i < xs.size) : xs[i]? = some (at_ xs i) := by
 unfold at_
 simp [Array.getD,h]
section
variable {prog : Program} {w : World} {A : Around} {E : Value -> Shared -> Prop} {s : Shared} {κ : SortKind} {R : Keyed -> Keyed -> Bool} {P : Keyed -> Prop} {st : SortSt}
theorem zJL {x y : Keyed} {Q : Option Bool -> SortSt -> Prop} (C : Cmp prog w A s κ R P) (hk : kindOf st = κ) (hx : P x) (hy : P y) (h : Q (some (R x y)) st) : wpS (model prog w) A E s (lt' x y) Q st := by
 rw [lt'_eq];refine yAK (yDe ?_);rw [hk];refine yAK (wpS_lift (wpAny_attempt (C.ask x y hx hy _ _ ⟨rfl,?_⟩)));exact yAV h
theorem zAR {α : Type} {M : Model} {st : SortSt} {c : Prop} [Decidable c] {x y : StateT SortSt Sem α} {Q : α -> SortSt -> Prop} (h1 : c -> wpS M A E s x Q st) (h2 : ¬c -> wpS M A E s y Q st) : wpS M A E s (if c then x else y) Q st := by
 by_cases h : c
 ·rw [yAQ h]; exact h1 h
 ·rw [yAN h]; exact h2 h
structure Box (G : Prop) : Prop where
 k : G
theorem zHO {G T : Prop} (use : Box G -> T) (pf : G) : T:=use ⟨pf⟩
theorem zXU {γ σ : Type} {I T : γ -> σ -> Prop} {G : (γ -> σ -> Prop) -> Prop} (use : ∀ T : γ -> σ -> Prop,Box (G T) -> ∀ c st',I c st' -> T c st') (pf : G T) : ∀ c st',I c st' -> T c st':=use T ⟨pf⟩
theorem za9 {γ σ : Type} {I T : γ -> σ -> Prop} {G G' : (γ -> σ -> Prop) -> Prop} (use : ∀ T : γ -> σ -> Prop,Box (G T) -> Box (G' T) -> ∀ c st',I c st' -> T c st') (pf : G T) (pg : G' T) : ∀ c st',I c st' -> T c st':=use T ⟨pf⟩ ⟨pg⟩
theorem zAL {xs : Array Keyed} {i : Nat} {Q : Keyed -> SortSt -> Prop} (h : i < xs.size) (q : Q (at_ xs i) st) : wpS (model prog w) A E s (elem' xs i) Q st := by
 rw [elem'_eq,zV7 h];exact yAV q
noncomputable def bey (R : Keyed -> Keyed -> Bool) (left : Bool) (key : Keyed) (xs : Array Keyed) (base i : Nat) : Bool:=if left = true then R (at_ xs (base + i)) key else !R key (at_ xs (base + i))
noncomputable def zV4 (left : Bool) (key : Keyed) (xs : Array Keyed) (base i : Nat) : StateT SortSt Sem (Option Bool) :=
 elem' xs (base + i) >>= λx=>if left = true then lt' x key else (lt' key x >>= λr=>pure (Option.map (λb => !b) r))
theorem zVA {left : Bool} {key : Keyed} {xs : Array Keyed} {base i : Nat} {Q : Option Bool -> SortSt -> Prop} (C : Cmp prog w A s κ R P) (hk : kindOf st = κ) (hy : P key) (hi : base + i < xs.size) (hx : P (at_ xs (base + i))) (h : Q (some (bey R left key xs base i)) st) : wpS (model prog w) A E s (zV4 left key xs base i) Q st := by
 unfold zV4;refine yAK (zAL hi ?_);unfold bey at h
 cases left with
 | true =>
  rw [yAQ rfl] at h ⊢;exact zJL C hk hx hy h
 | false =>
  rw [yAN yAY] at h ⊢;exact yAK (zJL C hk hy hx (yAV h))
structure Gal (R : Keyed -> Keyed -> Bool) (left : Bool) (key : Keyed) (xs : Array Keyed) (base n k : Nat) : Prop where
 le : k <= n
 lo : ∀ i,i < k -> bey R left key xs base i = true
 hi : ∀ i,k <= i -> i < n -> bey R left key xs base i = false
theorem zBZ {left : Bool} {key : Keyed} {xs : Array Keyed} {base n hint : Nat} {Q : Option Nat -> SortSt -> Prop} (C : Cmp prog w A s κ R P) (hk : kindOf st = κ) (hy : P key) (hx : ∀ i, i < n -> base + i < xs.size /\ P (at_ xs (base + i)))
  (mono : ∀ i j,i <= j -> j < n -> bey R left key xs base j = true -> bey R left key xs base i = true) (hh : hint < n) (h : ∀ k,Gal R left key xs base n k -> Q (some k) st) :
  wpS (model prog w) A E s (zDQ left key xs base n hint) Q st:=by
 have ask : ∀ {i : Nat} {Q' : Option Bool -> SortSt -> Prop},i < n -> Q' (some (bey R left key xs base i)) st -> wpS (model prog w) A E s (zV4 left key xs base i) Q' st:=λhi q=>zVA C hk hy (hx _ hi).1 (hx _ hi).2 q;refine yAK (m:=zV4 left key xs base hint) (f:=_) (ask hh ?_);dsimp only
 have down : ∀ i j, i <= j -> j < n -> bey R left key xs base i = false -> bey R left key xs base j = false := fun i j hij hj e => by
  cases z : bey R left key xs base j with
  | false=>rfl
  | true=>rw [mono i j hij hj z] at e; cases e
 cases hb : bey R left key xs base hint with
 | true =>
  simp only [if_true]
  refine yAK (m := _) (f := _) (yCC (yBS (I := fun x c st' => st' = st /\ ∃ l o, c = (none, l, o) /\ hint + l < n /\ l < o /\ x + 1 <= o /\ bey R left key xs base (hint + l) = true)
   (Q:=λc st'=>st' = st/\∃ l o,c = (none,l,o)/\hint + l < n/\l < o/\bey R left key xs base (hint + l) = true/\(n - hint <= o \/ bey R left key xs base (hint + o) = false)) ?step ?fin ⟨rfl,0,1,rfl,hh,by lia,by lia,hb⟩) ?post)
  case fin =>
   rintro c st' ⟨rfl,l,o,rfl,h1,h2,h3,h4⟩
   exact ⟨rfl,l,o,rfl,h1,h2,h4,.inl (by lia)⟩
  case step =>
   rintro x c st' _ hxn ⟨rfl,l,o,rfl,h1,h2,h3,h4⟩
   dsimp only
   by_cases hge : o >= n - hint
   ·rw [yAQ hge]
    exact yAV ⟨rfl,l,o,rfl,h1,h2,h4,.inl hge⟩
   ·rw [yAN hge]
    refine yAK (m:=zV4 left key xs base (hint + o)) (f:=_) (ask (by lia) ?_);dsimp only
    cases ho : bey R left key xs base (hint + o) with
    | false=>exact yAV ⟨rfl,l,o,rfl,h1,h2,h4,.inr ho⟩
    | true=>exact yAV ⟨rfl,o,2 * o + 1,rfl,by lia,by lia,by lia,ho⟩
  case post =>
   rintro c st' ⟨rfl,l,o,rfl,h1,h2,h4,h5⟩
   dsimp only
   refine yAK (m := _) (f := _) (yCC (yBS (I := fun x c st3 => st3 = st' /\ ∃ lo hi, c = (none, lo, hi) /\ lo <= hi /\ hi <= n /\ hi - lo <= n - x /\ (∀ i, i < lo -> bey R left key xs base i = true) /\ ∀ i, hi <= i -> i < n -> bey R left key xs base i = false)
    (Q:=λc st3=>st3 = st'/\∃ lo hi,c = (none,lo,hi)/\Gal R left key xs base n hi) ?ts1 ?tf1 ?ti1) ?tp1)
   case tf1 =>
    rintro c st' ⟨rfl,lo,hi,rfl,a1,a2,a3,a4,a5⟩
    have e : lo = hi:=by lia
    subst e;exact ⟨rfl,lo,lo,rfl,a2,a4,a5⟩
   case tp1 =>
    rintro c st' ⟨rfl,lo,hi,rfl,g⟩
    exact yAV (h hi g)
   case ts1 =>
    rintro x c st' _ hxn ⟨rfl,lo,hi,rfl,a1,a2,a3,a4,a5⟩
    dsimp only
    by_cases hge : lo >= hi
    ·rw [yAQ hge]
     have e : lo = hi:=by lia
     subst e;exact yAV ⟨rfl,lo,lo,rfl,a2,a4,a5⟩
    ·rw [yAN hge]
     refine yAK (m:=zV4 left key xs base (lo + (hi - lo) / 2)) (f:=_) (ask (by lia) ?_);dsimp only
     cases hm : bey R left key xs base (lo + (hi - lo) / 2) with
     | true=>exact yAV ⟨rfl,_,_,rfl,by lia,a2,by lia,λi hi'=>mono i _ (by lia) (by lia) hm,a5⟩
     | false=>exact yAV ⟨rfl,_,_,rfl,by lia,by lia,by lia,a4,λi b1 b2=>down _ i b1 b2 hm⟩
   refine ⟨rfl,hint + l + 1,hint + min o (n - hint),rfl,by lia,by lia,by lia,λi hi=>mono i (hint + l) (by lia) h1 h4,λi h6 h7 => ?_⟩
   ·rcases h5 with h5 | h5
    ·lia
    ·exact down (hint + o) i (by lia) h7 h5
 | false =>
  simp only [yBG,yCc]
  refine yAK (m := _) (f := _) (yCC (yBS (I := fun x c st' => st' = st /\ ∃ l o, c = (none, l, o) /\ l <= hint /\ l < o /\ x + 1 <= o /\ bey R left key xs base (hint - l) = false)
   (Q:=λc st'=>st' = st/\∃ l o,c = (none,l,o)/\l <= hint/\l < o/\bey R left key xs base (hint - l) = false/\(hint + 1 <= o \/ (o <= hint/\bey R left key xs base (hint - o) = true))) ?step2 ?fin2 ⟨rfl,0,1,rfl,by lia,by lia,by lia,hb⟩) ?post2)
  case fin2 =>
   rintro c st' ⟨rfl,l,o,rfl,h1,h2,h3,h4⟩
   exact ⟨rfl,l,o,rfl,h1,h2,h4,.inl (by lia)⟩
  case step2 =>
   rintro x c st' _ hxn ⟨rfl,l,o,rfl,h1,h2,h3,h4⟩
   dsimp only
   by_cases hge : o >= hint + 1
   ·rw [yAQ hge]
    exact yAV ⟨rfl,l,o,rfl,h1,h2,h4,.inl hge⟩
   ·rw [yAN hge]
    refine yAK (m:=zV4 left key xs base (hint - o)) (f:=_) (ask (by lia) ?_);dsimp only
    cases ho : bey R left key xs base (hint - o) with
    | true=>exact yAV ⟨rfl,l,o,rfl,h1,h2,h4,.inr ⟨by lia,ho⟩⟩
    | false=>exact yAV ⟨rfl,o,2 * o + 1,rfl,by lia,by lia,by lia,ho⟩
  case post2 =>
   rintro c st' ⟨rfl,l,o,rfl,h1,h2,h4,h5⟩
   dsimp only
   refine yAK (m := _) (f := _) (yCC (yBS (I := fun x c st3 => st3 = st' /\ ∃ lo hi, c = (none, lo, hi) /\ lo <= hi /\ hi <= n /\ hi - lo <= n - x /\ (∀ i, i < lo -> bey R left key xs base i = true) /\ ∀ i, hi <= i -> i < n -> bey R left key xs base i = false)
    (Q:=λc st3=>st3 = st'/\∃ lo hi,c = (none,lo,hi)/\Gal R left key xs base n hi) ?ts2 ?tf2 ?ti2) ?tp2)
   case tf2 =>
    rintro c st' ⟨rfl,lo,hi,rfl,a1,a2,a3,a4,a5⟩
    have e : lo = hi:=by lia
    subst e;exact ⟨rfl,lo,lo,rfl,a2,a4,a5⟩
   case tp2 =>
    rintro c st' ⟨rfl,lo,hi,rfl,g⟩
    exact yAV (h hi g)
   case ts2 =>
    rintro x c st' _ hxn ⟨rfl,lo,hi,rfl,a1,a2,a3,a4,a5⟩
    dsimp only
    by_cases hge : lo >= hi
    ·rw [yAQ hge]
     have e : lo = hi:=by lia
     subst e;exact yAV ⟨rfl,lo,lo,rfl,a2,a4,a5⟩
    ·rw [yAN hge]
     refine yAK (m:=zV4 left key xs base (lo + (hi - lo) / 2)) (f:=_) (ask (by lia) ?_);dsimp only
     cases hm : bey R left key xs base (lo + (hi - lo) / 2) with
     | true=>exact yAV ⟨rfl,_,_,rfl,by lia,a2,by lia,λi hi'=>mono i _ (by lia) (by lia) hm,a5⟩
     | false=>exact yAV ⟨rfl,_,_,rfl,by lia,by lia,by lia,a4,λi b1 b2=>down _ i b1 b2 hm⟩
   refine ⟨rfl,hint + 1 - min o (hint + 1),hint - l,rfl,by lia,by lia,by lia,λi hi => ?_,λi h6 h7=>down (hint - l) i h6 h7 h4⟩
   ·rcases h5 with h5 | ⟨h5, h6⟩
    ·lia
    ·exact mono i (hint - o) (by lia) (by lia) h6
end
end L2T
namespace L2T
open PySem PyProof.Rows
noncomputable def Srt (R : Keyed -> Keyed -> Bool) (xs : Array Keyed) : Prop:=∀ i j,i <= j -> j < xs.size -> R (at_ xs j) (at_ xs i) = false
structure Mg (R : Keyed -> Keyed -> Bool) (a b out : Array Keyed) (ia ib : Nat) : Prop where
 la : ia <= a.size
 lb : ib <= b.size
 perm : out.toList.Perm (a.toList.take ia++b.toList.take ib)
 srt : out.toList.Pairwise λx y=>R y x = false
 ua : ∀ x∈out.toList,∀ i,ia <= i -> i < a.size -> R (at_ a i) x = false
 ub : ∀ x∈out.toList,∀ i,ib <= i -> i < b.size -> R (at_ b i) x = false
noncomputable def zKQ (R : Keyed -> Keyed -> Bool) (a b m : Array Keyed) : Prop:=m.toList.Perm (a.toList++b.toList)/\m.toList.Pairwise λx y=>R y x = false
theorem at_toList {xs : Array Keyed} {i : Nat} (h : i < xs.size) : xs.toList[i]? = some (at_ xs i) := by
 rw [<- zV7 h]; simp
theorem zK5 {xs : Array Keyed} {i : Nat} (h : i < xs.size) : xs.toList.take (i + 1) = xs.toList.take i ++ [at_ xs i] := by
 rw [yBF,at_toList h]; rfl
theorem zLA {xs : Array Keyed} {i k : Nat} (h : i + k < xs.size) (out : Array Keyed) : out ++ xs.extract i (i + (k + 1)) = (out ++ xs.extract i (i + k)).push (at_ xs (i + k)) := by
 apply yBx.mp;rw [yAq,yCn,yCn,yAy]
 congr 1
 rw [yBc,yBc,yBH,yBH];have e1 : i + (k + 1) - i = k + 1:=by lia
 have e2 : i + k - i = k:=by lia
 rw [e1,e2,yBF,yCV,at_toList h];rfl
theorem zFF (xs out : Array Keyed) (i : Nat) : out ++ xs.extract i (i + 0) = out := by
 apply yBx.mp;rw [yCn,yBc,yBH]
 simp
theorem Mg.pushA {R : Keyed -> Keyed -> Bool} {a b out : Array Keyed} {ia ib : Nat} (h : Mg R a b out ia ib) (sa : Srt R a) (hi : ia < a.size) (le : ∀ i, ib <= i -> i < b.size -> R (at_ b i) (at_ a ia) = false) : Mg R a b (out.push (at_ a ia)) (ia + 1) ib := by
 refine ⟨hi,h.lb,?_,?_,λx hx i h1 h2 => ?_,λx hx i h1 h2 => ?_⟩
 ·rw [yAq, zK5 hi, yAy]
  refine (h.perm.append_right [at_ a ia]).trans ?_;rw [yAy];exact List.Perm.append_left _ yDr
 ·rw [yAq, List.pairwise_append]
  refine ⟨h.srt,yCP _ _,λx hx y hy => ?_⟩;rw [yAF.mp hy];exact h.ua x hx ia (yAE _) hi
 ·rw [yAq] at hx
  rcases yAa.mp hx with hx | hx
  ·exact h.ua x hx i (by lia) h2
  ·rw [yAF.mp hx]; exact sa ia i (by lia) h2
 ·rw [yAq] at hx
  rcases yAa.mp hx with hx | hx
  ·exact h.ub x hx i h1 h2
  ·rw [yAF.mp hx]; exact le i h1 h2
theorem Mg.pushB {R : Keyed -> Keyed -> Bool} {a b out : Array Keyed} {ia ib : Nat} (h : Mg R a b out ia ib) (sb : Srt R b) (hi : ib < b.size) (le : ∀ i, ia <= i -> i < a.size -> R (at_ a i) (at_ b ib) = false) : Mg R a b (out.push (at_ b ib)) ia (ib + 1) := by
 refine ⟨h.la,hi,?_,?_,λx hx i h1 h2 => ?_,λx hx i h1 h2 => ?_⟩
 ·rw [yAq, zK5 hi, <- yAy]
  exact h.perm.append_right [at_ b ib]
 ·rw [yAq, List.pairwise_append]
  refine ⟨h.srt,yCP _ _,λx hx y hy => ?_⟩;rw [yAF.mp hy];exact h.ub x hx ib (yAE _) hi
 ·rw [yAq] at hx
  rcases yAa.mp hx with hx | hx
  ·exact h.ua x hx i h1 h2
  ·rw [yAF.mp hx]; exact le i h1 h2
 ·rw [yAq] at hx
  rcases yAa.mp hx with hx | hx
  ·exact h.ub x hx i (by lia) h2
  ·rw [yAF.mp hx]; exact sb ib i (by lia) h2
theorem Mg.appA {R : Keyed -> Keyed -> Bool} {a b out : Array Keyed} {ia ib : Nat} (h : Mg R a b out ia ib) (sa : Srt R a) : ∀ k, ia + k <= a.size -> (∀ j, j < k -> ∀ i, ib <= i -> i < b.size -> R (at_ b i) (at_ a (ia + j)) = false) -> Mg R a b (out ++ a.extract ia (ia + k)) (ia + k) ib
 | 0,_,_=>by rw [zFF]; exact h
 | k + 1,hk,le=>by
  rw [zLA (by lia)];exact (h.appA sa k (by lia) λj hj=>le j (by lia)).pushA sa (by lia) (le k (by lia))
theorem Mg.appB {R : Keyed -> Keyed -> Bool} {a b out : Array Keyed} {ia ib : Nat} (h : Mg R a b out ia ib) (sb : Srt R b) : ∀ k, ib + k <= b.size -> (∀ j, j < k -> ∀ i, ia <= i -> i < a.size -> R (at_ a i) (at_ b (ib + j)) = false) -> Mg R a b (out ++ b.extract ib (ib + k)) ia (ib + k)
 | 0,_,_=>by rw [zFF]; exact h
 | k + 1,hk,le=>by
  rw [zLA (by lia)];exact (h.appB sb k (by lia) λj hj=>le j (by lia)).pushB sb (by lia) (le k (by lia))
theorem Mg.good {R : Keyed -> Keyed -> Bool} {a b out : Array Keyed} (h : Mg R a b out a.size b.size) : zKQ R a b out := by
 refine ⟨?_,h.srt⟩;have p:=h.perm;rw [yAt (by simp),yAt (by simp)] at p;exact p
theorem zWS (xs out : Array Keyed) : out ++ xs.extract xs.size xs.size = out := by
 apply yBx.mp
 simp
theorem Mg.done {R : Keyed -> Keyed -> Bool} {a b out : Array Keyed} {ia ib : Nat} (h : Mg R a b out ia ib) (sa : Srt R a) (e : ib = b.size) : zKQ R a b (out ++ a.extract ia a.size ++ b.extract ib b.size) := by
 subst e;rw [zWS];have la:=h.la;have q:=h.appA sa (a.size - ia) (by lia) λj hj i h1 h2=>by lia
 rw [show ia + (a.size - ia) = a.size by lia] at q;exact q.good
theorem Mg.lastA {R : Keyed -> Keyed -> Bool} {a b out : Array Keyed} {ia ib : Nat} (h : Mg R a b out ia ib) (sa : Srt R a) (sb : Srt R b) (e : ia + 1 = a.size) (le : ∀ j, j < b.size -> R (at_ a (a.size - 1)) (at_ b j) = false) : zKQ R a b (out ++ b.extract ib b.size ++ a.extract ia a.size) := by
 have lb:=h.lb
 have q := h.appB sb (b.size - ib) (by lia) fun j hj i h1 h2 => by
  have : i = a.size - 1:=by lia
  subst this;exact le _ (by lia)
 rw [show ib + (b.size - ib) = b.size by lia] at q;have q2:=q.appA sa (a.size - ia) (by lia) λj hj i h1 h2=>by lia
 rw [show ia + (a.size - ia) = a.size by lia] at q2;exact q2.good
structure Pre (R : Keyed -> Keyed -> Bool) (P : Keyed -> Prop) (a b : Array Keyed) : Prop where
 sa : Srt R a
 sb : Srt R b
 na : 1 <= a.size
 nb : 1 <= b.size
 fst : R (at_ b 0) (at_ a 0) = true
 lst : ∀ j,j < b.size -> R (at_ b j) (at_ a (a.size - 1)) = true
 pa : ∀ i,i < a.size -> P (at_ a i)
 pb : ∀ i,i < b.size -> P (at_ b i)
noncomputable abbrev zC3 (st : SortSt) (g : Nat) : SortSt:=SortSt.mk' (kindOf st) (arrOf st) (pendingOf st) g (failedOf st)
section
variable {prog : Program} {w : World} {A : Around} {E : Value -> Shared -> Prop} {s : Shared} {κ : SortKind} {R : Keyed -> Keyed -> Bool} {P : Keyed -> Prop} {st : SortSt}
theorem zFE {g : Nat} {Q : Unit -> SortSt -> Prop} (h : Q () (zC3 st g)) : wpS (model prog w) A E s (zQQ g) Q st:=yDX h
theorem Pre.le {a b : Array Keyed} (O : Ord R) (hp : Pre R P a b) : ∀ j,j < b.size -> R (at_ a (a.size - 1)) (at_ b j) = false:=λj hj=>O.as _ _ (hp.lst j hj)
theorem zVH {left : Bool} {key : Keyed} {xs : Array Keyed} {base i : Nat} (e : left = true) : bey R left key xs base i = R (at_ xs (base + i)) key:=by subst e; rfl
theorem zXI {left : Bool} {key : Keyed} {xs : Array Keyed} {base i : Nat} (e : left = false) : bey R left key xs base i = !R key (at_ xs (base + i)):=by subst e; rfl
theorem zDC {left : Bool} {key : Keyed} {xs : Array Keyed} {base n : Nat} (O : Ord R) (so : ∀ i j, i <= j -> j < n -> R (at_ xs (base + j)) (at_ xs (base + i)) = false) : ∀ i j, i <= j -> j < n -> bey R left key xs base j = true -> bey R left key xs base i = true := fun i j hij hj e => by
 have so:=so i j hij hj
 cases left with
 | true =>
  rw [zVH rfl] at e ⊢
  cases z : R (at_ xs (base + i)) key with
  | true=>rfl
  | false=>rw [O.tr _ _ _ z so] at e; cases e
 | false =>
  rw [zXI rfl] at e ⊢;rw [yBb] at e ⊢;exact O.tr _ _ _ so e
theorem Gal.loF {key : Keyed} {xs : Array Keyed} {base n k i : Nat} (g : Gal R false key xs base n k) (h : i < k) : R key (at_ xs (base + i)) = false := by
 have:=g.lo i h
 rwa [zXI rfl,yBb] at this
theorem Gal.hiF {key : Keyed} {xs : Array Keyed} {base n k i : Nat} (g : Gal R false key xs base n k) (h : k <= i) (h' : i < n) : R key (at_ xs (base + i)) = true := by
 have:=g.hi i h h'
 rwa [zXI rfl,Bool.not_eq_false'] at this
theorem Gal.loT {key : Keyed} {xs : Array Keyed} {base n k i : Nat} (g : Gal R true key xs base n k) (h : i < k) : R (at_ xs (base + i)) key = true := by
 have:=g.lo i h
 rwa [zVH rfl] at this
theorem Gal.hiT {key : Keyed} {xs : Array Keyed} {base n k i : Nat} (g : Gal R true key xs base n k) (h : k <= i) (h' : i < n) : R (at_ xs (base + i)) key = false := by
 have:=g.hi i h h'
 rwa [zVH rfl] at this
set_option maxHeartbeats 2000000 in
theorem zKN {a b : Array Keyed} {Q : Array Keyed -> SortSt -> Prop} (O : Ord R) (C : Cmp prog w A s κ R P) (hk : kindOf st = κ) (hp : Pre R P a b) (h : ∀ m g, zKQ R a b m -> Q m (zC3 st g)) : wpS (model prog w) A E s (zL5 a b) Q st := by
 have na:=hp.na;have nb:=hp.nb;have les:=hp.le O;refine yAK (m:=_) (f:=_) (wpS_lift (yDI ⟨rfl,?_⟩));dsimp only;refine yAK (m:=elem' b 0) (f:=_) (zAL (by lia) ?_)
 have M0 : Mg R a b #[at_ b 0] 0 1 := by
  refine ⟨yBL _,nb,?_,yCP _ _,λx hx i h1 h2 => ?_,λx hx i h1 h2 => ?_⟩
  ·rw [zK5 (by lia : 0 < b.size)]; exact List.Perm.refl _
  ·rw [yAF.mp hx]
   exact O.tr _ (at_ a 0) _ (O.as _ _ hp.fst) (hp.sa 0 i (yBL _) h2)
  ·rw [yAF.mp hx]
   exact hp.sb 0 i (yBL _) h2
 refine zAR (λc1=>yAV (h _ (gallopOf st) (M0.done hp.sa (yAc.mp c1)))) (λc1 => ?_);refine zAR (λc2=>yAV (h _ (gallopOf st) (M0.lastA hp.sa hp.sb (yAc.mp c2) les))) (λc2 => ?_);have c1' : 1≠b.size:=λz=>c1 (yAc.mpr z);have c2' : 0 + 1≠a.size:=λz=>c2 (yAc.mpr z);refine yAK (m:=_) (f:=_) (yDe ?_)
 refine yAK (m := _) (f := _) (yCC (yBS (I := fun x c st' => (∃ g, st' = zC3 st g) /\ ∃ out ia ib mg, c = (none, out, ia, ib, mg) /\ Mg R a b out ia ib /\ ia + 1 < a.size /\ ib < b.size /\ x + 1 <= ia + ib)
  (Q:=λc st'=>(∃ g,st' = zC3 st g)/\∃ m r,c = (some m,r)/\zKQ R a b m) ?step ?fin ⟨⟨gallopOf st,rfl⟩,_,_,_,_,rfl,M0,by lia,by lia,by lia⟩) ?post)
 case fin =>
  rintro c st' ⟨_,out,ia,ib,mg,_,_,h1,h2,h3⟩
  lia
 case post =>
  rintro c st' ⟨⟨g,rfl⟩,m,r,rfl,hG⟩
  exact yAV (h m g hG)
 case step =>
  intro x c st' h8 hx;clear h8;revert c st';apply zXU
  case use =>
   rintro T key c st' ⟨⟨g,rfl⟩,out,ia,ib,mg,rfl,M,ha,hb,hxi⟩
   revert g out ia ib mg M ha hb hxi;exact key.k
  intro g out ia ib mg M ha hb hxi;dsimp only
  refine yAK (m := _) (f := _) (yCC (yBS (I := fun y c st' => (∃ g, st' = zC3 st g) /\ ∃ out' ia' ib' ac bc, c = (none, out', ia', ib', ac, bc) /\ Mg R a b out' ia' ib' /\ ia' + 1 < a.size /\ ib' < b.size /\ ia + ib + y <= ia' + ib')
   (Q:=λc st'=>(∃ g,st' = zC3 st g)/\((∃ m r,c = (some m,r)/\zKQ R a b m) \/ ∃ out' ia' ib' ac bc,c = (none,out',ia',ib',ac,bc)/\Mg R a b out' ia' ib'/\ia' + 1 < a.size/\ib' < b.size/\ia + ib + 1 <= ia' + ib')) ?s1 ?f1 ⟨⟨g,rfl⟩,_,_,_,_,_,rfl,M,ha,hb,by lia⟩) ?p1)
  case f1 =>
   rintro c st' ⟨_,out',ia',ib',ac,bc,_,_,h1,h2,h3⟩
   lia
  case s1 =>
   intro y c st' h8 hy;clear h8;revert c st';apply zXU
   case use =>
    rintro T key c st' ⟨⟨g,rfl⟩,out,ia',ib',ac,bc,rfl,M,ha,hb,hxi⟩
    revert g out ia' ib' ac bc M ha hb hxi;exact key.k
   intro g out ia' ib' ac bc M ha hb hxi;dsimp only;refine yAK (m:=elem' b ib') (f:=_) (zAL (by lia) ?_);refine yAK (m:=elem' a ia') (f:=_) (zAL (by lia) ?_);refine yAK (m:=lt' (at_ b ib') (at_ a ia')) (f:=_) (zJL C hk (hp.pb _ (by lia)) (hp.pa _ (by lia)) ?_);dsimp only
   cases hR : R (at_ b ib') (at_ a ia') with
   | true =>
    simp only [if_true];refine yAK (m:=elem' b ib') (f:=_) (zAL (by lia) ?_);have M':=M.pushB hp.sb hb λi h1 h2=>O.tr _ (at_ a ia') _ (O.as _ _ hR) (hp.sa ia' i h1 h2);refine zAR (λd1=>yAV ⟨⟨g,rfl⟩,.inl ⟨_,_,rfl,M'.done hp.sa (yAc.mp d1)⟩⟩) (λd1 => ?_);have d1' : ib' + 1≠b.size:=λz=>d1 (yAc.mpr z);exact zAR (λd2=>yAV ⟨⟨g,rfl⟩,.inr ⟨_,_,_,_,_,rfl,M',ha,by lia,by lia⟩⟩) (λd2=>yAV ⟨⟨g,rfl⟩,_,_,_,_,_,rfl,M',ha,by lia,by lia⟩)
   | false =>
    simp only [yBG,yCc];refine yAK (m:=elem' a ia') (f:=_) (zAL (by lia) ?_);have M':=M.pushA hp.sa (by lia) λi h1 h2=>O.tr _ (at_ b ib') _ hR (hp.sb ib' i h1 h2);refine zAR (λd1=>yAV ⟨⟨g,rfl⟩,.inl ⟨_,_,rfl,M'.lastA hp.sa hp.sb (yAc.mp d1) les⟩⟩) (λd1 => ?_);have d1' : ia' + 1 + 1≠a.size:=λz=>d1 (yAc.mpr z);exact zAR (λd2=>yAV ⟨⟨g,rfl⟩,.inr ⟨_,_,_,_,_,rfl,M',by lia,hb,by lia⟩⟩) (λd2=>yAV ⟨⟨g,rfl⟩,_,_,_,_,_,rfl,M',by lia,hb,by lia⟩)
  case p1 =>
   apply za9
   case use =>
    rintro T key key2 c st' ⟨⟨g,rfl⟩,⟨m,r,rfl,hG⟩ | ⟨out1,ia1,ib1,ac,bc,rfl,M1,ha1,hb1,hx1⟩⟩
    ·revert g m r hG
     exact key.k
    ·revert g out1 ia1 ib1 ac bc M1 ha1 hb1 hx1
     exact key2.k
   ·intro g m r hG
    exact yAV ⟨⟨g,rfl⟩,m,_,rfl,hG⟩
   ·intro g out1 ia1 ib1 ac bc M1 ha1 hb1 hx1
    dsimp only;refine yAK (m:=_) (f:=_) (wpS_lift (yDI ⟨rfl,?_⟩))
    refine yAK (m := _) (f := _) (yCC (yBS (I := fun y c st' => (∃ g, st' = zC3 st g) /\ ∃ out' ia' ib' mg' ac bc, c = (none, out', ia', ib', mg', ac, bc) /\ Mg R a b out' ia' ib' /\ ia' + 1 < a.size /\ ib' < b.size /\ ia + ib + 1 + y <= ia' + ib')
     (Q:=λc st'=>(∃ g,st' = zC3 st g)/\((∃ m r,c = (some m,r)/\zKQ R a b m) \/ ∃ out' ia' ib' mg' ac bc,c = (none,out',ia',ib',mg',ac,bc)/\Mg R a b out' ia' ib'/\ia' + 1 < a.size/\ib' < b.size/\ia + ib + 1 <= ia' + ib')) ?s2 ?f2 ⟨⟨g,rfl⟩,_,_,_,_,_,_,rfl,M1,ha1,hb1,by lia⟩) ?p2)
    case f2 =>
     rintro c st' ⟨_,out',ia',ib',mg',ac,bc,_,_,h1,h2,h3⟩
     lia
    case p2 =>
     apply za9
     case use =>
      rintro T key key2 c st' ⟨⟨g,rfl⟩,⟨m,r,rfl,hG⟩ | ⟨out2,ia2,ib2,mg2,ac2,bc2,rfl,M2,ha2,hb2,hx2⟩⟩
      ·revert g m r hG
       exact key.k
      ·revert g out2 ia2 ib2 mg2 ac2 bc2 M2 ha2 hb2 hx2
       exact key2.k
     ·intro g m r hG
      exact yAV ⟨⟨g,rfl⟩,m,_,rfl,hG⟩
     ·intro g out2 ia2 ib2 mg2 ac2 bc2 M2 ha2 hb2 hx2
      dsimp only;refine yAK (m:=zQQ _) (f:=_) (zFE (yAV ⟨⟨_,rfl⟩,_,_,_,_,rfl,M2,ha2,hb2,by lia⟩))
    case s2 =>
     intro y c st' h8 hy;clear h8;revert c st';apply zXU
     case use =>
      rintro T key c st' ⟨⟨g,rfl⟩,out,i,j,mg',ac',bc',rfl,M,ha,hb,hxi⟩
      revert g out i j mg' ac' bc' M ha hb hxi;exact key.k
     intro g out i j mg' ac' bc' M ha hb hxi;dsimp only;apply zHO
     case use =>
      intro key
      by_cases hm : mg' > 1
      ·rw [yAQ hm]
       generalize mg' - 1 = mm;revert mm;exact key.k
      ·rw [yAN hm]
       clear hm;generalize mg' = mm;revert mm;exact key.k
     intro mm;refine yAK (m:=zQQ mm) (f:=_) (zFE ?_);refine yAK (m:=elem' b j) (f:=_) (zAL (by lia) ?_);refine yAK (m:=zDQ false (at_ b j) a i (a.size - i) 0) (f:=_) (zBZ C hk (hp.pb j hb) (λu hu=>⟨by lia,hp.pa _ (by lia)⟩) (zDC O λu v huv hv=>hp.sa _ _ (by lia) (by lia)) (by lia) λk G1 => ?_);dsimp only;apply zHO
     case use =>
      intro key
      have kn : k < a.size - i := by
       rcases yBo k (a.size - i) with z | z
       ·exact z
       ·have q := G1.loF (i := a.size - i - 1) (by lia)
        rw [show i + (a.size - i - 1) = a.size - 1 by lia,hp.lst j hb] at q
        cases q
      have MM:=M.appA hp.sa k (by lia) λu hu v h1 h2=>O.tr _ (at_ b j) _ (G1.loF hu) (hp.sb j v h1 h2)
      have uu : ∀ v, i + k <= v -> v < a.size -> R (at_ b j) (at_ a v) = true := fun v h1 h2 => by
       have q:=G1.hiF (i:=v - i) (by lia) (by lia)
       rwa [show i + (v - i) = v by lia] at q
      have lim : i + k < a.size:=by lia
      have far : i <= i + k:=by lia
      rcases yCU k with k0 | k0
      case inr =>
       rw [yAQ k0];refine zAR (λe1=>yAV ⟨⟨_,rfl⟩,.inl ⟨_,_,rfl,MM.lastA hp.sa hp.sb (yAc.mp e1) les⟩⟩) (λe1 => ?_);have nz : i + k + 1≠a.size:=λz=>e1 (yAc.mpr z);rw [yAN (λz=>by have:=yAc.mp z; lia)];clear e1;generalize out++a.extract i (i + k) = out2 at MM ⊢;generalize i + k = i2 at far MM uu lim nz ⊢;revert far; revert nz; revert lim; revert uu; revert MM; revert i2; revert out2;exact key.k
      case inl =>
       subst k0;rw [yAN (yBV 0)];rw [zFF] at MM;simp only [Nat.add_zero] at MM uu lim;exact key.k out i MM uu lim (by lia) (yAE _)
     clear G1 M;intro out2 i2 MM uu lim nz far;refine yAK (m:=elem' b j) (f:=_) (zAL (by lia) ?_);have M2:=MM.pushB hp.sb hb λv h1 h2=>O.as _ _ (uu v h1 h2);refine zAR (λd1=>yAV ⟨⟨_,rfl⟩,.inl ⟨_,_,rfl,M2.done hp.sa (yAc.mp d1)⟩⟩) (λd1 => ?_);have d1' : j + 1≠b.size:=λz=>d1 (yAc.mpr z);refine yAK (m:=elem' a i2) (f:=_) (zAL (by lia) ?_);refine yAK (m:=zDQ true (at_ a i2) b (j + 1) (b.size - (j + 1)) 0) (f:=_) (zBZ C hk (hp.pa i2 lim) (λu hu=>⟨by lia,hp.pb _ (by lia)⟩) (zDC O λu v huv hv=>hp.sb _ _ (by lia) (by lia)) (by lia) λk2 G2 => ?_);dsimp only;apply zHO
     case use =>
      intro key;have g2:=G2.le;have M3:=M2.appB hp.sb k2 (by lia) λu hu v h1 h2=>O.tr _ (at_ a i2) _ (O.as _ _ (G2.loT hu)) (hp.sa i2 v h1 h2)
      have lo2 : ∀ v, j + 1 + k2 <= v -> v < b.size -> R (at_ b v) (at_ a i2) = false := fun v h1 h2 => by
       have q:=G2.hiT (i:=v - (j + 1)) (by lia) (by lia)
       rwa [show j + 1 + (v - (j + 1)) = v by lia] at q
      have fb : j + 1 <= j + 1 + k2:=by lia
      rcases yCU k2 with k0' | k0'
      case inr =>
       rw [yAQ k0'];refine zAR (λe2=>yAV ⟨⟨_,rfl⟩,.inl ⟨_,_,rfl,M3.done hp.sa (yAc.mp e2)⟩⟩) (λe2 => ?_);have bz : j + 1 + k2≠b.size:=λz=>e2 (yAc.mpr z);clear e2;generalize out2.push (at_ b j)++b.extract (j + 1) (j + 1 + k2) = out3 at M3 ⊢;generalize j + 1 + k2 = j3 at M3 lo2 bz fb ⊢;revert fb; revert bz; revert lo2; revert M3; revert j3; revert out3;exact key.k
      case inl =>
       subst k0';rw [yAN (yBV 0)];rw [zFF] at M3;simp only [Nat.add_zero] at M3 lo2;exact key.k _ _ M3 lo2 d1' (yAE _)
     clear G2;intro out3 j3 M3 lo2 bz fb;have lb3:=M3.lb;refine yAK (m:=elem' a i2) (f:=_) (zAL lim ?_);have M4:=M3.pushA hp.sa lim lo2;refine zAR (λd3=>yAV ⟨⟨_,rfl⟩,.inl ⟨_,_,rfl,M4.lastA hp.sa hp.sb (yAc.mp d3) les⟩⟩) (λd3 => ?_);have d3' : i2 + 1 + 1≠a.size:=λz=>d3 (yAc.mpr z);exact zAR (λ_=>yAV ⟨⟨_,rfl⟩,.inr ⟨_,_,_,_,_,_,rfl,M4,by lia,by lia,by lia⟩⟩) (λ_=>yAV ⟨⟨_,rfl⟩,_,_,_,_,_,_,rfl,M4,by lia,by lia,by lia⟩)
end
end L2T
namespace L2T
open PySem PyProof.Rows
structure Hg (R : Keyed -> Keyed -> Bool) (a b out : Array Keyed) (na nb : Nat) : Prop where
 la : na <= a.size
 lb : nb <= b.size
 perm : out.toList.Perm (a.toList.drop na++b.toList.drop nb)
 srt : out.toList.reverse.Pairwise λx y=>R y x = false
 ua : ∀ x∈out.toList,∀ i,i < na -> R x (at_ a i) = false
 ub : ∀ x∈out.toList,∀ i,i < nb -> R x (at_ b i) = false
theorem zHK {xs : Array Keyed} {i : Nat} (h : i < xs.size) : xs.toList.drop i = at_ xs i :: xs.toList.drop (i + 1) := by
 have h' : i < xs.toList.length:=by simpa using h
 rw [yCG h']
 congr 1
 have:=at_toList h
 rw [yAA h'] at this;exact Option.some.inj this
theorem Hg.pushA {R : Keyed -> Keyed -> Bool} {a b out : Array Keyed} {na nb : Nat} (h : Hg R a b out (na + 1) nb) (sa : Srt R a) (le : ∀ i, i < nb -> R (at_ a na) (at_ b i) = false) : Hg R a b (out.push (at_ a na)) na nb := by
 have hi : na < a.size:=h.la;refine ⟨by lia,h.lb,?_,?_,λx hx i h1 => ?_,λx hx i h1 => ?_⟩
 ·rw [yAq, zHK hi, List.cons_append]
  exact (yDr (l₁ := out.toList)).trans (h.perm.cons _)
 ·rw [yAq, List.reverse_append]
  refine List.pairwise_cons.mpr ⟨λy hy => ?_,h.srt⟩;exact h.ua y (List.mem_reverse.mp hy) na (by lia)
 ·rw [yAq] at hx
  rcases yAa.mp hx with hx | hx
  ·exact h.ua x hx i (by lia)
  ·rw [yAF.mp hx]; exact sa i na (by lia) hi
 ·rw [yAq] at hx
  rcases yAa.mp hx with hx | hx
  ·exact h.ub x hx i h1
  ·rw [yAF.mp hx]; exact le i h1
theorem Hg.pushB {R : Keyed -> Keyed -> Bool} {a b out : Array Keyed} {na nb : Nat} (h : Hg R a b out na (nb + 1)) (sb : Srt R b) (le : ∀ i, i < na -> R (at_ b nb) (at_ a i) = false) : Hg R a b (out.push (at_ b nb)) na nb := by
 have hi : nb < b.size:=h.lb;refine ⟨h.la,by lia,?_,?_,λx hx i h1 => ?_,λx hx i h1 => ?_⟩
 ·rw [yAq, zHK hi]
  refine (yDr (l₁ := out.toList)).trans ?_;exact (h.perm.cons _).trans List.perm_middle.symm
 ·rw [yAq, List.reverse_append]
  refine List.pairwise_cons.mpr ⟨λy hy => ?_,h.srt⟩;exact h.ub y (List.mem_reverse.mp hy) nb (by lia)
 ·rw [yAq] at hx
  rcases yAa.mp hx with hx | hx
  ·exact h.ua x hx i h1
  ·rw [yAF.mp hx]; exact le i h1
 ·rw [yAq] at hx
  rcases yAa.mp hx with hx | hx
  ·exact h.ub x hx i (by lia)
  ·rw [yAF.mp hx]; exact sb i nb (by lia) hi
theorem zME {xs : Array Keyed} {k n : Nat} (h : k < n) (hn : n <= xs.size) (out : Array Keyed) : out ++ (xs.extract k n).reverse = (out ++ (xs.extract (k + 1) n).reverse).push (at_ xs k) := by
 apply yBx.mp;rw [yAq,yCn,yCn,yDH,yDH,yAy]
 congr 1
 rw [yBc,yBc,yBH,yBH,zHK (by lia)];rw [show n - k = (n - (k + 1)) + 1 by lia,List.take_succ_cons,List.reverse_cons]
theorem zFA (xs out : Array Keyed) (n : Nat) : out ++ (xs.extract n n).reverse = out := by
 apply yBx.mp
 simp
theorem Hg.appA {R : Keyed -> Keyed -> Bool} {a b out : Array Keyed} {na nb : Nat} (h : Hg R a b out na nb) (sa : Srt R a) : ∀ d, d <= na -> (∀ j, na - d <= j -> j < na -> ∀ i, i < nb -> R (at_ a j) (at_ b i) = false) -> Hg R a b (out ++ (a.extract (na - d) na).reverse) (na - d) nb
 | 0,_,_=>by rw [Nat.sub_zero,zFA]; exact h
 | d + 1,hd,le=>by
  have la:=h.la;have e : na - (d + 1) + 1 = na - d:=by lia
  rw [zME (by lia) h.la,e];refine Hg.pushA ?_ sa (le _ (by lia) (by lia));rw [e];exact h.appA sa d (by lia) λj h1 h2=>le j (by lia) h2
theorem Hg.appB {R : Keyed -> Keyed -> Bool} {a b out : Array Keyed} {na nb : Nat} (h : Hg R a b out na nb) (sb : Srt R b) : ∀ d, d <= nb -> (∀ j, nb - d <= j -> j < nb -> ∀ i, i < na -> R (at_ b j) (at_ a i) = false) -> Hg R a b (out ++ (b.extract (nb - d) nb).reverse) na (nb - d)
 | 0,_,_=>by rw [Nat.sub_zero,zFA]; exact h
 | d + 1,hd,le=>by
  have lb:=h.lb;have e : nb - (d + 1) + 1 = nb - d:=by lia
  rw [zME (by lia) h.lb,e];refine Hg.pushB ?_ sb (le _ (by lia) (by lia));rw [e];exact h.appB sb d (by lia) λj h1 h2=>le j (by lia) h2
theorem Hg.good {R : Keyed -> Keyed -> Bool} {a b out : Array Keyed} (h : Hg R a b out 0 0) : zKQ R a b out.reverse := by
 refine ⟨?_,by rw [yDH]; exact h.srt⟩;rw [yDH];exact (List.reverse_perm _).trans h.perm
theorem zKM (xs out : Array Keyed) (n : Nat) : (out ++ (xs.extract 0 n).reverse).reverse = xs.extract 0 n ++ out.reverse := by
 apply yBx.mp
 simp [List.reverse_append]
theorem zSM (xs : Array Keyed) (out : Array Keyed) : xs.extract 0 0 ++ out = out := by
 apply yBx.mp
 simp
theorem Hg.done {R : Keyed -> Keyed -> Bool} {a b out : Array Keyed} {na nb : Nat} (h : Hg R a b out na nb) (sb : Srt R b) (e : na = 0) : zKQ R a b (a.extract 0 na ++ b.extract 0 nb ++ out.reverse) := by
 subst e;have q:=h.appB sb nb (yAE _) λj h1 h2 i h3=>absurd h3 (Nat.not_lt_zero i);rw [yDp] at q;have g:=q.good;rw [zKM] at g
 rwa [zSM]
theorem Hg.firstB {R : Keyed -> Keyed -> Bool} {a b out : Array Keyed} {na nb : Nat} (h : Hg R a b out na nb) (sa : Srt R a) (sb : Srt R b) (e : nb = 1) (le : ∀ i, i < na -> R (at_ a i) (at_ b 0) = false) : zKQ R a b (b.extract 0 nb ++ a.extract 0 na ++ out.reverse) := by
 subst e
 have q := h.appA sa na (yAE _) fun j h1 h2 i h3 => by
  have : i = 0:=by lia
  subst this;exact le j h2
 rw [yDp] at q;have q2:=q.appB sb 1 (yAE _) λj h1 h2 i h3=>absurd h3 (Nat.not_lt_zero i);rw [yDp] at q2;have g:=q2.good;rw [zKM,zKM] at g
 rwa [Array.append_assoc]
end L2T
namespace L2T
open PySem PyProof.Rows
section
variable {prog : Program} {w : World} {A : Around} {E : Value -> Shared -> Prop} {s : Shared} {κ : SortKind} {R : Keyed -> Keyed -> Bool} {P : Keyed -> Prop} {st : SortSt}
theorem Hg.popA {a b out : Array Keyed} {na nb : Nat} (h : Hg R a b out na nb) (sa : Srt R a) (h1 : 1 <= na) (le : ∀ i, i < nb -> R (at_ a (na - 1)) (at_ b i) = false) : Hg R a b (out.push (at_ a (na - 1))) (na - 1) nb := by
 refine Hg.pushA ?_ sa le;rw [show na - 1 + 1 = na by lia];exact h
theorem Hg.popB {a b out : Array Keyed} {na nb : Nat} (h : Hg R a b out na nb) (sb : Srt R b) (h1 : 1 <= nb) (le : ∀ i, i < na -> R (at_ b (nb - 1)) (at_ a i) = false) : Hg R a b (out.push (at_ b (nb - 1))) na (nb - 1) := by
 refine Hg.pushB ?_ sb le;rw [show nb - 1 + 1 = nb by lia];exact h
set_option maxHeartbeats 2000000 in
theorem zJR {a b : Array Keyed} {Q : Array Keyed -> SortSt -> Prop} (O : Ord R) (C : Cmp prog w A s κ R P) (hk : kindOf st = κ) (hp : Pre R P a b) (h : ∀ m g, zKQ R a b m -> Q m (zC3 st g)) : wpS (model prog w) A E s (zLZ a b) Q st := by
 have pa1:=hp.na;have pb1:=hp.nb;have les:=hp.le O;have fb : ∀ i,i < a.size -> R (at_ a i) (at_ b 0) = false:=λi hi=>O.tr _ (at_ a 0) _ (O.as _ _ hp.fst) (hp.sa 0 i (yBL _) hi)
 have tb : ∀ i, i < a.size -> R (at_ b 0) (at_ a i) = true := fun i hi => by
  cases z : R (at_ b 0) (at_ a i) with
  | true=>rfl
  | false =>
   have q:=hp.fst;rw [O.tr _ (at_ a i) _ (hp.sa 0 i (yBL _) hi) z] at q
   cases q
 refine yAK (m:=_) (f:=_) (wpS_lift (yDI ⟨rfl,?_⟩));dsimp only;refine yAK (m:=elem' a (a.size - 1)) (f:=_) (zAL (by lia) ?_)
 have M0 : Hg R a b #[at_ a (a.size - 1)] (a.size - 1) b.size := by
  refine ⟨by lia,yAE _,?_,yCP _ _,λx hx i h1 => ?_,λx hx i h1 => ?_⟩
  ·rw [zHK (by lia : a.size - 1 < a.size), yCw (by simp; lia), yCw (by simp)]
   exact List.Perm.refl _
  ·rw [yAF.mp hx]
   exact hp.sa i _ (by lia) (by lia)
  ·rw [yAF.mp hx]
   exact les i h1
 refine zAR (λc1=>yAV (h _ (gallopOf st) (M0.done hp.sb (yAc.mp c1)))) (λc1 => ?_);refine zAR (λc2=>yAV (h _ (gallopOf st) (M0.firstB hp.sa hp.sb (yAc.mp c2) λi hi=>fb i (by lia)))) (λc2 => ?_);have c1' : a.size - 1≠0:=λz=>c1 (yAc.mpr z);have c2' : b.size≠1:=λz=>c2 (yAc.mpr z);refine yAK (m:=_) (f:=_) (yDe ?_)
 refine yAK (m := _) (f := _) (yCC (yBS (I := fun x c st' => (∃ g, st' = zC3 st g) /\ ∃ na nb out mg, c = (none, na, nb, out, mg) /\ Hg R a b out na nb /\ 1 <= na /\ 2 <= nb /\ na <= a.size /\ nb <= b.size /\ x + na + nb + 1 <= a.size + b.size)
  (Q:=λc st'=>(∃ g,st' = zC3 st g)/\∃ m r,c = (some m,r)/\zKQ R a b m) ?step ?fin ⟨⟨gallopOf st,rfl⟩,_,_,_,_,rfl,M0,by lia,by lia,by lia,by lia,by lia⟩) ?post)
 case fin =>
  rintro c st' ⟨_,na,nb,out,mg,_,_,h1,h2,h3,h4,h5⟩
  lia
 case post =>
  rintro c st' ⟨⟨g,rfl⟩,m,r,rfl,hG⟩
  exact yAV (h m g hG)
 case step =>
  intro x c st' h8 hx;clear h8;revert c st';apply zXU
  case use =>
   rintro T key c st' ⟨⟨g,rfl⟩,na,nb,out,mg,rfl,M,ha,hb,za,zb,hxi⟩
   revert g na nb out mg M ha hb za zb hxi;exact key.k
  intro g na nb out mg M ha hb za zb hxi;dsimp only
  refine yAK (m := _) (f := _) (yCC (yBS (I := fun y c st' => (∃ g, st' = zC3 st g) /\ ∃ na' nb' out' ac bc, c = (none, na', nb', out', ac, bc) /\ Hg R a b out' na' nb' /\ 1 <= na' /\ 2 <= nb' /\ na' <= a.size /\ nb' <= b.size /\ y + na' + nb' <= na + nb)
   (Q:=λc st'=>(∃ g,st' = zC3 st g)/\((∃ m r,c = (some m,r)/\zKQ R a b m) \/ ∃ na' nb' out' ac bc,c = (none,na',nb',out',ac,bc)/\Hg R a b out' na' nb'/\1 <= na'/\2 <= nb'/\na' <= a.size/\nb' <= b.size/\na' + nb' + 1 <= na + nb)) ?s1 ?f1 ⟨⟨g,rfl⟩,_,_,_,_,_,rfl,M,ha,hb,za,zb,by lia⟩) ?p1)
  case f1 =>
   rintro c st' ⟨_,na',nb',out',ac,bc,_,_,h1,h2,h3,h4,h5⟩
   lia
  case s1 =>
   intro y c st' h8 hy;clear h8;revert c st';apply zXU
   case use =>
    rintro T key c st' ⟨⟨g,rfl⟩,i,j,out,ac,bc,rfl,M,ha,hb,za,zb,hxi⟩
    revert g i j out ac bc M ha hb za zb hxi;exact key.k
   intro g i j out ac bc M ha hb za zb hxi;dsimp only;refine yAK (m:=elem' b (j - 1)) (f:=_) (zAL (by lia) ?_);refine yAK (m:=elem' a (i - 1)) (f:=_) (zAL (by lia) ?_);refine yAK (m:=lt' (at_ b (j - 1)) (at_ a (i - 1))) (f:=_) (zJL C hk (hp.pb _ (by lia)) (hp.pa _ (by lia)) ?_);dsimp only
   cases hR : R (at_ b (j - 1)) (at_ a (i - 1)) with
   | true =>
    simp only [if_true];refine yAK (m:=elem' a (i - 1)) (f:=_) (zAL (by lia) ?_);have M':=M.popA hp.sa ha λu hu=>O.tr _ (at_ b (j - 1)) _ (hp.sb u _ (by lia) (by lia)) (O.as _ _ hR);refine zAR (λd1=>yAV ⟨⟨g,rfl⟩,.inl ⟨_,_,rfl,M'.done hp.sb (yAc.mp d1)⟩⟩) (λd1 => ?_);have d1' : i - 1≠0:=λz=>d1 (yAc.mpr z);exact zAR (λd2=>yAV ⟨⟨g,rfl⟩,.inr ⟨_,_,_,_,_,rfl,M',by lia,by lia,by lia,by lia,by lia⟩⟩) (λd2=>yAV ⟨⟨g,rfl⟩,_,_,_,_,_,rfl,M',by lia,by lia,by lia,by lia,by lia⟩)
   | false =>
    simp only [yBG,yCc];refine yAK (m:=elem' b (j - 1)) (f:=_) (zAL (by lia) ?_);have M':=M.popB hp.sb (by lia) λu hu=>O.tr _ (at_ a (i - 1)) _ (hp.sa u _ (by lia) (by lia)) hR;refine zAR (λd1=>yAV ⟨⟨g,rfl⟩,.inl ⟨_,_,rfl,M'.firstB hp.sa hp.sb (yAc.mp d1) λu hu=>fb u (by lia)⟩⟩) (λd1 => ?_);have d1' : j - 1≠1:=λz=>d1 (yAc.mpr z);exact zAR (λd2=>yAV ⟨⟨g,rfl⟩,.inr ⟨_,_,_,_,_,rfl,M',by lia,by lia,by lia,by lia,by lia⟩⟩) (λd2=>yAV ⟨⟨g,rfl⟩,_,_,_,_,_,rfl,M',by lia,by lia,by lia,by lia,by lia⟩)
  case p1 =>
   apply za9
   case use =>
    rintro T key key2 c st' ⟨⟨g,rfl⟩,⟨m,r,rfl,hG⟩ | ⟨na1,nb1,out1,ac,bc,rfl,M1,ha1,hb1,za1,zb1,hx1⟩⟩
    ·revert g m r hG
     exact key.k
    ·revert g na1 nb1 out1 ac bc M1 ha1 hb1 za1 zb1 hx1
     exact key2.k
   ·intro g m r hG
    exact yAV ⟨⟨g,rfl⟩,m,_,rfl,hG⟩
   ·intro g na1 nb1 out1 ac bc M1 ha1 hb1 za1 zb1 hx1
    dsimp only;refine yAK (m:=_) (f:=_) (wpS_lift (yDI ⟨rfl,?_⟩))
    refine yAK (m := _) (f := _) (yCC (yBS (I := fun y c st' => (∃ g, st' = zC3 st g) /\ ∃ na' nb' out' mg' ac bc, c = (none, na', nb', out', mg', ac, bc) /\ Hg R a b out' na' nb' /\ 1 <= na' /\ 2 <= nb' /\ na' <= a.size /\ nb' <= b.size /\ y + na' + nb' + 1 <= na + nb)
     (Q:=λc st'=>(∃ g,st' = zC3 st g)/\((∃ m r,c = (some m,r)/\zKQ R a b m) \/ ∃ na' nb' out' mg' ac bc,c = (none,na',nb',out',mg',ac,bc)/\Hg R a b out' na' nb'/\1 <= na'/\2 <= nb'/\na' <= a.size/\nb' <= b.size/\na' + nb' + 1 <= na + nb)) ?s2 ?f2 ⟨⟨g,rfl⟩,_,_,_,_,_,_,rfl,M1,ha1,hb1,za1,zb1,by lia⟩) ?p2)
    case f2 =>
     rintro c st' ⟨_,na',nb',out',mg',ac,bc,_,_,h1,h2,h3,h4,h5⟩
     lia
    case p2 =>
     apply za9
     case use =>
      rintro T key key2 c st' ⟨⟨g,rfl⟩,⟨m,r,rfl,hG⟩ | ⟨na2,nb2,out2,mg2,ac2,bc2,rfl,M2,ha2,hb2,za2,zb2,hx2⟩⟩
      ·revert g m r hG
       exact key.k
      ·revert g na2 nb2 out2 mg2 ac2 bc2 M2 ha2 hb2 za2 zb2 hx2
       exact key2.k
     ·intro g m r hG
      exact yAV ⟨⟨g,rfl⟩,m,_,rfl,hG⟩
     ·intro g na2 nb2 out2 mg2 ac2 bc2 M2 ha2 hb2 za2 zb2 hx2
      dsimp only;refine yAK (m:=zQQ _) (f:=_) (zFE (yAV ⟨⟨_,rfl⟩,_,_,_,_,rfl,M2,ha2,hb2,za2,zb2,by lia⟩))
    case s2 =>
     intro y c st' h8 hy;clear h8;revert c st';apply zXU
     case use =>
      rintro T key c st' ⟨⟨g,rfl⟩,i,j,out,mg',ac',bc',rfl,M,ha,hb,za,zb,hxi⟩
      revert g i j out mg' ac' bc' M ha hb za zb hxi;exact key.k
     intro g i j out mg' ac' bc' M ha hb za zb hxi;dsimp only;apply zHO
     case use =>
      intro key
      by_cases hm : mg' > 1
      ·rw [yAQ hm]
       generalize mg' - 1 = mm;revert mm;exact key.k
      ·rw [yAN hm]
       clear hm;generalize mg' = mm;revert mm;exact key.k
     intro mm;refine yAK (m:=zQQ mm) (f:=_) (zFE ?_);refine yAK (m:=elem' b (j - 1)) (f:=_) (zAL (by lia) ?_);refine yAK (m:=zDQ false (at_ b (j - 1)) a 0 i (i - 1)) (f:=_) (zBZ C hk (hp.pb _ (by lia)) (λu hu=>⟨by lia,hp.pa _ (by lia)⟩) (zDC O λu v huv hv=>hp.sa _ _ (by lia) (by lia)) (by lia) λk G1 => ?_);dsimp only;apply zHO
     case use =>
      intro key;have kn:=G1.le
      have lo1 : ∀ u, u < k -> R (at_ b (j - 1)) (at_ a u) = false := fun u hu => by
       have q:=G1.loF hu
       rwa [yDQ] at q
      have hi1 : ∀ u, k <= u -> u < i -> R (at_ b (j - 1)) (at_ a u) = true := fun u h1 h2 => by
       have q:=G1.hiF h1 h2
       rwa [yDQ] at q
      have MM:=M.appA hp.sa (i - k) (by lia) λu h1 h2 v hv=>O.tr _ (at_ b (j - 1)) _ (hp.sb v _ (by lia) (by lia)) (O.as _ _ (hi1 u (by lia) h2));rw [show i - (i - k) = k by lia] at MM;have lim : k <= a.size:=by lia
      rcases yCU (i - k) with k0 | k0
      case inr =>
       rw [yAQ k0];refine zAR (λe1=>yAV ⟨⟨_,rfl⟩,.inl ⟨_,_,rfl,MM.done hp.sb (yAc.mp e1)⟩⟩) (λe1 => ?_);have nz' : k≠0:=λz=>e1 (yAc.mpr z);have nz : 1 <= k:=by lia
       clear e1 nz';generalize hn : i - k = n;generalize out++(a.extract k i).reverse = out2 at MM ⊢;clear hn k0 hi1;have kn2 : k <= i:=kn;clear kn;generalize k = i2 at MM lo1 lim nz kn2 ⊢;revert kn2; revert nz; revert lim; revert lo1; revert MM; revert i2; revert out2; revert n;exact key.k
      case inl =>
       rw [yAN (by lia)];have ek : i = k:=by lia
       subst ek;rw [zFA] at MM;exact key.k _ _ _ MM lo1 lim ha (yAE _)
     clear G1 M k;intro n out2 i2 MM lo1 lim nz kn;refine yAK (m:=elem' b (j - 1)) (f:=_) (zAL (by lia) ?_);have M2:=MM.popB hp.sb (by lia) lo1;refine zAR (λd1=>yAV ⟨⟨_,rfl⟩,.inl ⟨_,_,rfl,M2.firstB hp.sa hp.sb (yAc.mp d1) λu hu=>fb u (by lia)⟩⟩) (λd1 => ?_);have d1' : j - 1≠1:=λz=>d1 (yAc.mpr z);refine yAK (m:=elem' a (i2 - 1)) (f:=_) (zAL (by lia) ?_);refine yAK (m:=zDQ true (at_ a (i2 - 1)) b 0 (j - 1) (j - 1 - 1)) (f:=_) (zBZ C hk (hp.pa _ (by lia)) (λu hu=>⟨by lia,hp.pb _ (by lia)⟩) (zDC O λu v huv hv=>hp.sb _ _ (by lia) (by lia)) (by lia) λk2 G2 => ?_);dsimp only;apply zHO
     case use =>
      intro key;have g2:=G2.le
      have lo2 : ∀ u, u < k2 -> R (at_ b u) (at_ a (i2 - 1)) = true := fun u hu => by
       have q:=G2.loT hu
       rwa [yDQ] at q
      have hi2' : ∀ u, k2 <= u -> u < j - 1 -> R (at_ b u) (at_ a (i2 - 1)) = false := fun u h1 h2 => by
       have q:=G2.hiT h1 h2
       rwa [yDQ] at q
      have k2p : 1 <= k2 := by
       rcases yCU k2 with z | z
       ·have q := hi2' 0 (by lia) (by lia)
        rw [tb _ (by lia)] at q
        cases q
       ·exact z
      have M3:=M2.appB hp.sb (j - 1 - k2) (by lia) λu h1 h2 v hv=>O.tr _ (at_ a (i2 - 1)) _ (hp.sa v _ (by lia) (by lia)) (hi2' u (by lia) h2);rw [show j - 1 - (j - 1 - k2) = k2 by lia] at M3
      rcases yCU (j - 1 - k2) with k0' | k0'
      case inr =>
       rw [yAQ k0'];refine zAR (λe2=>yAV ⟨⟨_,rfl⟩,.inl ⟨_,_,rfl,M3.firstB hp.sa hp.sb (yAc.mp e2) λu hu=>fb u (by lia)⟩⟩) (λe2 => ?_);have e2' : k2≠1:=λz=>e2 (yAc.mpr z);rw [yAN (λz=>by have:=yAc.mp z; lia)];have bz : 2 <= k2:=by lia
       clear e2 e2';generalize j - 1 - k2 = n2;generalize out2.push (at_ b (j - 1))++(b.extract k2 (j - 1)).reverse = out3 at M3 ⊢;have jl : k2 <= j - 1:=g2;clear g2 k0' hi2' k2p;generalize k2 = j3 at M3 lo2 bz jl ⊢;revert jl; revert bz; revert lo2; revert M3; revert j3; revert out3; revert n2;exact key.k
      case inl =>
       rw [yAN (by lia)];have ek : k2 = j - 1:=by lia
       subst ek;rw [zFA] at M3;exact key.k _ _ _ M3 lo2 (by lia) (yAE _)
     clear G2 k2;intro n2 out3 j3 M3 lo2 bz jl;refine yAK (m:=elem' a (i2 - 1)) (f:=_) (zAL (by lia) ?_);have M4:=M3.popA hp.sa nz λu hu=>O.as _ _ (lo2 u hu);have lb3:=M3.lb;refine zAR (λd3=>yAV ⟨⟨_,rfl⟩,.inl ⟨_,_,rfl,M4.done hp.sb (yAc.mp d3)⟩⟩) (λd3 => ?_);have d3' : i2 - 1≠0:=λz=>d3 (yAc.mpr z);exact zAR (λ_=>yAV ⟨⟨_,rfl⟩,.inr ⟨_,_,_,_,_,_,rfl,M4,by lia,by lia,by lia,by lia,by lia⟩⟩) (λ_=>yAV ⟨⟨_,rfl⟩,_,_,_,_,_,_,rfl,M4,by lia,by lia,by lia,by lia,by lia⟩)
end
end L2T
namespace L2T
open PySem PyProof.Rows
noncomputable def SegSrt (R : Keyed -> Keyed -> Bool) (xs : Array Keyed) (lo hi : Nat) : Prop:=∀ i j,lo <= i -> i <= j -> j < hi -> R (at_ xs j) (at_ xs i) = false
noncomputable abbrev zbE (st : SortSt) (p : Array (Nat × Nat × Nat)) : SortSt:=SortSt.mk' (kindOf st) (arrOf st) p (gallopOf st) (failedOf st)
theorem zGG (xs : Array Keyed) (i : Nat) : at_ xs i = (xs.toList[i]?).getD (Value.none, Value.none) := by
 unfold at_
 by_cases h : i < xs.size
 ·simp [Array.getD,h]
 ·simp [Array.getD,h]
theorem zMA : ∀ (m : List Keyed) (xs : Array Keyed) (off j : Nat), off + j + m.length <= xs.size -> ((m.zipIdx j).foldl (fun a x => a.setIfInBounds (off + x.snd) x.fst) xs).toList = xs.toList.take (off + j) ++ m ++ xs.toList.drop (off + j + m.length)
 | [],xs,off,j,h=>by simp
 | x::r,xs,off,j,h=>by
  have hl : off + j + (r.length + 1) <= xs.size:=h;rw [List.zipIdx_cons,yDu,zMA r _ off (j + 1) (by rw [Array.size_setIfInBounds]; lia)]
  have e : (xs.setIfInBounds (off + j) x).toList = xs.toList.take (off + j) ++ x :: xs.toList.drop (off + j + 1) := by
   rw [Array.toList_setIfInBounds,List.set_eq_take_append_cons_drop,yAQ (by simp; lia)]
  show (xs.setIfInBounds (off + j) x).toList.take (off + (j + 1))++r++(xs.setIfInBounds (off + j) x).toList.drop (off + (j + 1) + r.length) = _;rw [e];have lt : (xs.toList.take (off + j)).length = off + j:=by rw [yAp]; simp; lia
  have t1 : (xs.toList.take (off + j) ++ x :: xs.toList.drop (off + j + 1)).take (off + (j + 1)) = xs.toList.take (off + j) ++ [x] := by
   rw [List.take_append,lt,yAt (by lia),show off + (j + 1) - (off + j) = 1 by lia];rfl
  have t2 : (xs.toList.take (off + j) ++ x :: xs.toList.drop (off + j + 1)).drop (off + (j + 1) + r.length) = xs.toList.drop (off + j + (x :: r).length) := by
   rw [List.drop_append,lt,yCw (by lia),show off + (j + 1) + r.length - (off + j) = r.length + 1 by lia,List.drop_succ_cons,List.drop_drop,yDt]
   congr 1
   simp only [yBA];lia
  rw [t1,t2]
  simp
theorem zDM {xs : Array Keyed} {lo hi i : Nat} (h : lo + i < hi) (hz : hi <= xs.size) : at_ (xs.extract lo hi) i = at_ xs (lo + i) := by
 rw [zGG,zGG,yBc,yBH,List.getElem?_take,yAQ (by lia),yCV]
theorem zRM {xs : Array Keyed} {lo hi : Nat} (hz : hi <= xs.size) {z : Keyed} (h : z ∈ (xs.extract lo hi).toList) : ∃ u, lo <= u /\ u < hi /\ z = at_ xs u := by
 obtain ⟨n,hn⟩:=yCf h;rw [yBc,yBH,List.getElem?_take] at hn
 split at hn
 ·rw [yCV] at hn
  refine ⟨lo + n,by lia,by lia,?_⟩;rw [zGG,hn];rfl
 ·cases hn
section
variable {prog : Program} {w : World} {A : Around} {E : Value -> Shared -> Prop} {s : Shared} {κ : SortKind} {R : Keyed -> Keyed -> Bool} {P : Keyed -> Prop} {st : SortSt}
theorem zVX {st' : SortSt} {Q : PUnit -> SortSt -> Prop} (h : Q ⟨⟩ st') : wpS (model prog w) A E s (set st' : StateT SortSt Sem PUnit) Q st := by
 unfold wpS; rw [StateT.run_set]; exact yAW ⟨rfl,h⟩
theorem zKR {i sa na pw sb nb pw2 : Nat} {Q : Bool -> SortSt -> Prop} (O : Ord R) (C : Cmp prog w A s κ R P) (hk : kindOf st = κ) (hf : failedOf st = none) (p1 : (pendingOf st)[i]? = some (sa, na, pw)) (p2 : (pendingOf st)[i + 1]? = some (sb, nb, pw2)) (esb : sb = sa + na) (na1 : 1 <= na) (nb1 : 1 <= nb)
  (hz : sb + nb <= (arrOf st).size) (s1 : SegSrt R (arrOf st) sa sb) (s2 : SegSrt R (arrOf st) sb (sb + nb)) (hP : ∀ k,k < (arrOf st).size -> P (at_ (arrOf st) k))
  (h : ∀ xs g,xs.Perm (arrOf st) -> (∀ k,k < sa \/ sb + nb <= k -> at_ xs k = at_ (arrOf st) k) -> SegSrt R xs sa (sb + nb) -> Q true (SortSt.mk' (kindOf st) xs (((pendingOf st).setIfInBounds i (sa,na + nb,pw)).eraseIdxIfInBounds (i + 1)) g none)) :
  wpS (model prog w) A E s (mergeAt' i) Q st:=by
 rcases st with ⟨kd,ar,pd,ga,fl⟩
 have hf : fl = none:=hf;subst hf;have hk : kd = κ := hk;have hz : sb + nb <= ar.size:=hz;have s1 : SegSrt R ar sa sb:=s1;have s2 : SegSrt R ar sb (sb + nb):=s2;have hP : ∀ k,k < ar.size -> P (at_ ar k):=hP;refine yAK (m:=_) (f:=_) (yDe ?_);dsimp only;rw [show pd[i]? = some (sa,na,pw) from p1,show pd[i + 1]? = some (sb,nb,pw2) from p2];dsimp only;refine yAK (m:=_) (f:=_) (zVX ?_);refine yAK (m:=elem' ar sb) (f:=_) (zAL (by lia) ?_);refine yAK (m:=zDQ false (at_ ar sb) ar sa na 0) (f:=_) (zBZ C hk (hP _ (by lia)) (λu hu=>⟨by lia,hP _ (by lia)⟩) (zDC O λu v huv hv=>s1 _ _ (by lia) (by lia) (by lia)) (by lia) λk G1 => ?_);dsimp only;have kle:=G1.le
 have lo1 : ∀ u, sa <= u -> u < sa + k -> R (at_ ar sb) (at_ ar u) = false := fun u h1 h2 => by
  have q:=G1.loF (i:=u - sa) (by lia)
  rwa [show sa + (u - sa) = u by lia] at q
 have hi1 : ∀ u, sa + k <= u -> u < sb -> R (at_ ar sb) (at_ ar u) = true := fun u h1 h2 => by
  have q:=G1.hiF (i:=u - sa) (by lia) (by lia)
  rwa [show sa + (u - sa) = u by lia] at q
 have below : ∀ u,sa <= u -> u < sa + k -> ∀ v,sb <= v -> v < sb + nb -> R (at_ ar v) (at_ ar u) = false:=λu h1 h2 v h3 h4=>O.tr _ (at_ ar sb) _ (lo1 u h1 h2) (s2 sb v (yAE _) h3 h4)
 by_cases c1 : (na - k == 0) = true
 ·rw [yAQ c1]
  have ek : na - k = 0:=yAc.mp c1;refine yAV (h ar ga (Array.Perm.refl _) (λ_ _=>rfl) λu v h1 h2 h3 => ?_)
  by_cases cu : u < sb
  ·by_cases cv : v < sb
   ·exact s1 u v h1 h2 cv
   ·exact below u h1 (by lia) v (by lia) h3
  ·exact s2 u v (by lia) h2 h3
 rw [yAN c1];have c1' : na - k≠0:=λz=>c1 (yAc.mpr z);have el : sa + k + (na - k) - 1 = sb - 1:=by lia
 rw [el];refine yAK (m:=elem' ar (sb - 1)) (f:=_) (zAL (by lia) ?_);refine yAK (m:=zDQ true (at_ ar (sb - 1)) ar sb nb (nb - 1)) (f:=_) (zBZ C hk (hP _ (by lia)) (λu hu=>⟨by lia,hP _ (by lia)⟩) (zDC O λu v huv hv=>s2 _ _ (by lia) (by lia) (by lia)) (by lia) λk2 G2 => ?_);dsimp only;have k2le:=G2.le
 have lo2 : ∀ u, sb <= u -> u < sb + k2 -> R (at_ ar u) (at_ ar (sb - 1)) = true := fun u h1 h2 => by
  have q:=G2.loT (i:=u - sb) (by lia)
  rwa [show sb + (u - sb) = u by lia] at q
 have hi2 : ∀ u, sb + k2 <= u -> u < sb + nb -> R (at_ ar u) (at_ ar (sb - 1)) = false := fun u h1 h2 => by
  have q:=G2.hiT (i:=u - sb) (by lia) (by lia)
  rwa [show sb + (u - sb) = u by lia] at q
 have k2p : 1 <= k2 := by
  rcases yCU k2 with z | z
  ·have q := hi2 sb (by lia) (by lia)
   rw [hi1 (sb - 1) (by lia) (by lia)] at q
   cases q
  ·exact z
 rw [yAN (λz=>by have:=yAc.mp z; lia)];have xs1 : (ar.extract (sa + k) sb).size = na - k:=by rw [Array.size_extract]; lia
 have ys1 : (ar.extract sb (sb + k2)).size = k2:=by rw [Array.size_extract]; lia
 have hp : Pre R P (ar.extract (sa + k) sb) (ar.extract sb (sb + k2)) := by
  refine ⟨λu v h1 h2 => ?_,λu v h1 h2 => ?_,by lia,by lia,?_,λj hj => ?_,λu hu => ?_,λu hu => ?_⟩
  ·rw [xs1] at h2
   rw [zDM (by lia) (by lia),zDM (by lia) (by lia)];exact s1 _ _ (by lia) (by lia) (by lia)
  ·rw [ys1] at h2
   rw [zDM (by lia) (by lia),zDM (by lia) (by lia)];exact s2 _ _ (by lia) (by lia) (by lia)
  ·rw [zDM (by lia) (by lia), zDM (by lia) (by lia)]
   exact hi1 _ (by lia) (by lia)
  ·rw [ys1] at hj
   rw [xs1,zDM (by lia) (by lia),zDM (by lia) (by lia),show sa + k + (na - k - 1) = sb - 1 by lia];exact lo2 _ (by lia) (by lia)
  ·rw [xs1] at hu
   rw [zDM (by lia) (by lia)];exact hP _ (by lia)
  ·rw [ys1] at hu
   rw [zDM (by lia) (by lia)];exact hP _ (by lia)
 have fin : ∀ m : Array Keyed, zKQ R (ar.extract (sa + k) sb) (ar.extract sb (sb + k2)) m -> ∀ xs : Array Keyed, xs = (m.toList.zipIdx).foldl (fun a x => a.setIfInBounds (sa + k + x.snd) x.fst) ar -> xs.Perm ar /\ (∀ u, u < sa \/ sb + nb <= u -> at_ xs u = at_ ar u) /\ SegSrt R xs sa (sb + nb) := fun m hG xs hxs => by
  obtain ⟨gp,gs⟩:=hG;have ml : m.toList.length = na - k + k2:=by rw [gp.length_eq,yAX]; simp only [yBI]; lia
  have el : xs.toList = ar.toList.take (sa + k) ++ m.toList ++ ar.toList.drop (sb + k2) := by
   rw [hxs,zMA _ _ _ _ (by lia),ml,Nat.add_zero,show sa + k + (na - k + k2) = sb + k2 by lia]
  have eo : ar.toList = ar.toList.take (sa + k) ++ ((ar.extract (sa + k) sb).toList ++ (ar.extract sb (sb + k2)).toList) ++ ar.toList.drop (sb + k2) := by
   rw [yBc,yBc,yBH,yBH]
   have e1 : ar.toList.drop sb = (ar.toList.drop sb).take (sb + k2 - sb) ++ ar.toList.drop (sb + k2) := by
    have:=(yCE (sb + k2 - sb) (ar.toList.drop sb)).symm
    rwa [List.drop_drop,show sb + (sb + k2 - sb) = sb + k2 by lia] at this
   have e2 : ar.toList.drop (sa + k) = (ar.toList.drop (sa + k)).take (sb - (sa + k)) ++ ar.toList.drop sb := by
    have:=(yCE (sb - (sa + k)) (ar.toList.drop (sa + k))).symm
    rwa [List.drop_drop,show sa + k + (sb - (sa + k)) = sb by lia] at this
   have e3:=(yCE (sa + k) ar.toList).symm;rw [yAy,yAy,<- e1,<- e2,<- e3]
  have ta : (ar.toList.take (sa + k)).length = sa + k:=by rw [yAp]; simp; lia
  have at1 : ∀ u, u < sa + k -> at_ xs u = at_ ar u := fun u hu => by
   rw [zGG,zGG,el,yAy,yBR (by lia),List.getElem?_take,yAQ hu]
  have at3 : ∀ u, sb + k2 <= u -> at_ xs u = at_ ar u := fun u hu => by
   rw [zGG,zGG,el,yBP (by rw [yAX]; lia),yAX,ta,ml,yCV]
   congr 2
   lia
  have at2 : ∀ u, sa + k <= u -> u < sb + k2 -> m.toList[u - (sa + k)]? = some (at_ xs u) := fun u h1 h2 => by
   have hl : u - (sa + k) < m.toList.length:=by lia
   rw [zGG,el,yAy,yBP (by lia),ta,yBR hl,yAA hl];rfl
  have mem : ∀ u, sa + k <= u -> u < sb + k2 -> (∃ v, sa + k <= v /\ v < sb /\ at_ xs u = at_ ar v) \/ ∃ v, sb <= v /\ v < sb + k2 /\ at_ xs u = at_ ar v := fun u h1 h2 => by
   have q:=gp.mem_iff.mp (yAm (at2 u h1 h2))
   rcases yAa.mp q with q | q
   ·exact .inl (zRM (by lia) q)
   ·exact .inr (zRM (by lia) q)
  refine ⟨yDN.mpr ?_,λu hu => ?_,λu v h1 h2 h3 => ?_⟩
  ·rw [el]
   refine List.Perm.trans ?_ (List.Perm.of_eq eo.symm);exact (gp.append_left _).append_right _
  ·rcases hu with hu | hu
   ·exact at1 u (by lia)
   ·exact at3 u (by lia)
  ·by_cases cu1 : u < sa + k
   ·rw [at1 u cu1]
    by_cases cv1 : v < sa + k
    ·rw [at1 v cv1]; exact s1 u v h1 h2 (by lia)
    ·by_cases cv2 : v < sb + k2
     ·rcases mem v (by lia) cv2 with ⟨z, z1, z2, e⟩ | ⟨z, z1, z2, e⟩
      ·rw [e]; exact s1 u z h1 (by lia) z2
      ·rw [e]; exact below u h1 cu1 z z1 (by lia)
     ·rw [at3 v (by lia)]; exact below u h1 cu1 v (by lia) h3
   ·by_cases cu2 : u < sb + k2
    ·by_cases cv2 : v < sb + k2
     ·by_cases e : u = v
      ·rw [e]; exact O.irr _
      ·have p := List.pairwise_iff_getElem.mp gs (u - (sa + k)) (v - (sa + k)) (by lia) (by lia) (by lia)
       have e1:=at2 u (by lia) cu2;have e2:=at2 v (by lia) cv2;rw [yAA (by lia)] at e1 e2;rw [Option.some.inj e1,Option.some.inj e2] at p;exact p
     ·rw [at3 v (by lia)]
      rcases mem u (by lia) cu2 with ⟨z,z1,z2,e⟩ | ⟨z,z1,z2,e⟩
      ·rw [e]; exact O.tr _ (at_ ar (sb - 1)) _ (s1 z (sb - 1) (by lia) (by lia) (by lia)) (hi2 v (by lia) h3)
      ·rw [e]; exact s2 z v z1 (by lia) h3
    ·rw [at3 u (by lia),at3 v (by lia)]; exact s2 u v (by lia) h2 h3
 by_cases c3 : na - k <= k2
 ·rw [yAQ c3]
  refine yAK (m:=zL5 _ _) (f:=_) (zKN O C hk hp λm g hG => ?_);obtain ⟨q1,q2,q3⟩:=fin m hG _ rfl;refine yAK (m:=_) (f:=_) (yDX ?_);refine yAK (m:=_) (f:=_) (yDe (yAV ?_));exact h _ g q1 q2 q3
 ·rw [yAN c3]
  refine yAK (m:=zLZ _ _) (f:=_) (zJR O C hk hp λm g hG => ?_);obtain ⟨q1,q2,q3⟩:=fin m hG _ rfl;refine yAK (m:=_) (f:=_) (yDX ?_);refine yAK (m:=_) (f:=_) (yDe (yAV ?_));exact h _ g q1 q2 q3
end
end L2T
namespace L2T
open PySem PyProof.Rows
noncomputable def Eqv (R : Keyed -> Keyed -> Bool) (x y : Keyed) : Prop:=R x y = false/\R y x = false
theorem Eqv.le {R : Keyed -> Keyed -> Bool} (O : Ord R) {x x' y y' : Keyed} (a : Eqv R x x') (b : Eqv R y y') (h : R x y = false) : R x' y' = false :=
 O.tr _ x _ (O.tr _ y _ b.1 h) a.2
theorem Eqv.refl {R : Keyed -> Keyed -> Bool} (O : Ord R) (x : Keyed) : Eqv R x x:=⟨O.irr x,O.irr x⟩
theorem Eqv.symm {R : Keyed -> Keyed -> Bool} {x y : Keyed} (h : Eqv R x y) : Eqv R y x:=⟨h.2,h.1⟩
theorem Eqv.trans {R : Keyed -> Keyed -> Bool} (O : Ord R) {x y z : Keyed} (h : Eqv R x y) (g : Eqv R y z) : Eqv R x z:=⟨O.tr _ _ _ g.1 h.1,O.tr _ _ _ h.2 g.2⟩
noncomputable def Dec (R : Keyed -> Keyed -> Bool) (xs : Array Keyed) (lo hi : Nat) : Prop:=∀ i j,lo <= i -> i <= j -> j < hi -> R (at_ xs i) (at_ xs j) = false
theorem zDZ {xs ys : Array Keyed} {i j : Nat} (h : xs[i]? = ys[j]?) : at_ xs i = at_ ys j := by
 rw [zGG,zGG,yBN,yBN,h]
theorem zE4 {xs : Array Keyed} {i j : Nat} (hj : j <= xs.size) (k : Nat) : at_ (mirror xs i j ((j - i) / 2)) k = if i <= k /\ k < j then at_ xs (i + j - 1 - k) else at_ xs k := by
 have e:=getElem?_mirror_all (i:=i) hj k
 split
 ·rename_i c
  rw [yAQ c] at e;exact zDZ e
 ·rename_i c
  rw [yAN c] at e;exact zDZ e
theorem zPA {xs : Array Keyed} {src d : Nat} (hs : src < xs.size) (hd : d <= src) (k : Nat) : at_ (bubble xs src d) k = if k = src - d then at_ xs src else if src - d < k /\ k <= src then at_ xs (k - 1) else at_ xs k := by
 have e:=getElem?_bubble hs d hd k
 split
 ·rename_i c
  rw [yAQ c] at e;exact zDZ e
 ·rename_i c
  rw [yAN c] at e
  split
  ·rename_i c2
   rw [yAQ c2] at e;exact zDZ e
  ·rename_i c2
   rw [yAN c2] at e;exact zDZ e
structure Bs (κ : SortKind) (a₀ : Array Keyed) (st : SortSt) : Prop where
 kind : kindOf st = κ
 failed : failedOf st = none
 perm : (arrOf st).Perm a₀
theorem Bs.size {κ : SortKind} {a₀ : Array Keyed} {st : SortSt} (h : Bs κ a₀ st) : (arrOf st).size = a₀.size:=h.perm.size_eq
theorem Bs.mem {κ : SortKind} {a₀ : Array Keyed} {st : SortSt} (h : Bs κ a₀ st) {k : Nat} (hk : k < (arrOf st).size) : at_ (arrOf st) k ∈ a₀.toList := by
 have:=yDN.mp h.perm
 exact this.mem_iff.mp (yAm (at_toList hk))
theorem Bs.setA {κ : SortKind} {a₀ : Array Keyed} {st : SortSt} (h : Bs κ a₀ st) {xs : Array Keyed} (hp : xs.Perm (arrOf st)) : Bs κ a₀ (setArr st xs):=⟨h.kind,h.failed,hp.trans h.perm⟩
structure Upd (a₀ : Array Keyed) (κ : SortKind) (lo : Nat) (st st' : SortSt) : Prop where
 bs : Bs κ a₀ st'
 pend : pendingOf st' = pendingOf st
 low : ∀ k,k < lo -> at_ (arrOf st') k = at_ (arrOf st) k
theorem Upd.refl {a₀ : Array Keyed} {κ : SortKind} {lo : Nat} {st : SortSt} (h : Bs κ a₀ st) : Upd a₀ κ lo st st:=⟨h,rfl,λ_ _=>rfl⟩
section
variable {prog : Program} {w : World} {A : Around} {E : Value -> Shared -> Prop} {s : Shared} {κ : SortKind} {R : Keyed -> Keyed -> Bool} {a₀ : Array Keyed} {st : SortSt}
theorem zGW {i j : Nat} {Q : Option Bool -> SortSt -> Prop} (C : Cmp prog w A s κ R (· ∈ a₀.toList)) (hB : Bs κ a₀ st) (hi : i < a₀.size) (hj : j < a₀.size) (h : Q (some (R (at_ (arrOf st) i) (at_ (arrOf st) j))) st) : wpS (model prog w) A E s (ltAt' i j) Q st := by
 have hz:=hB.size;rw [ltAt'_eq];refine yAK (yDe ?_);refine yAK (m:=elem' (arrOf st) i) (f:=_) (zAL (by lia) ?_);refine yAK (m:=elem' (arrOf st) j) (f:=_) (zAL (by lia) ?_);exact zJL C hB.kind (hB.mem (by lia)) (hB.mem (by lia)) h
theorem Upd.mirror {lo i j : Nat} {st₀ : SortSt} (U : Upd a₀ κ lo st₀ st) (hi : lo <= i) (hj : j <= a₀.size) : Upd a₀ κ lo st₀ (setArr st (mirror (arrOf st) i j ((j - i) / 2))) := by
 have hz:=U.bs.size;refine ⟨U.bs.setA (mirror_perm _ _ _ _),U.pend,λk hk => ?_⟩;show at_ (PyProof.Rows.mirror (arrOf st) i j ((j - i) / 2)) k = _;rw [zE4 (by lia),yAN (by lia)];exact U.low k hk
theorem zEK (O : Ord R) {xs : Array Keyed} {i j : Nat} (hj : j <= xs.size) (he : ∀ u, i <= u -> u < j -> Eqv R (at_ xs u) (at_ xs (j - 1))) (k : Nat) : Eqv R (at_ xs k) (at_ (mirror xs i j ((j - i) / 2)) k) := by
 rw [zE4 hj]
 split
 ·exact (he _ (by lia) (by lia)).trans O (he _ (by lia) (by lia)).symm
 ·exact Eqv.refl O _
set_option maxHeartbeats 1000000 in
theorem zOL {lo nrem : Nat} {Q : Option Nat -> SortSt -> Prop} (O : Ord R) (C : Cmp prog w A s κ R (· ∈ a₀.toList)) (hB : Bs κ a₀ st) (hn : lo + nrem <= a₀.size) (h1 : 1 <= nrem)
  (h : ∀ m st',Upd a₀ κ lo st st' -> 1 <= m -> m <= nrem -> SegSrt R (arrOf st') lo (lo + m) -> Q (some m) st') : wpS (model prog w) A E s (countRun' lo nrem) Q st:=by
 have hz:=hB.size
 have one : ∀ xs : Array Keyed, SegSrt R xs lo (lo + 1) := fun xs i j a1 a2 a3 => by
  have : i = j:=by lia
  subst this;exact O.irr _
 refine yAK (m := _) (f := _) (yCC (yBS (I := fun x c st' => st' = st /\ c = (none, x) /\ SegSrt R (arrOf st) lo (lo + x))
  (Q:=λc st'=>st' = st/\∃ n,c = (none,n)/\1 <= n/\n <= nrem/\SegSrt R (arrOf st) lo (lo + n)/\(n = nrem \/ R (at_ (arrOf st) (lo + n)) (at_ (arrOf st) (lo + n - 1)) = true)) ?as ?af ⟨rfl,rfl,one _⟩) ?ap)
 case af =>
  rintro c st' ⟨rfl,rfl,hs⟩
  rw [show max 1 nrem = nrem by lia] at hs ⊢;exact ⟨rfl,nrem,rfl,h1,yAE _,hs,.inl rfl⟩
 case as =>
  rintro x c st' hx1 hx ⟨rfl,rfl,hs⟩
  dsimp only;refine yAK (m:=ltAt' (lo + x) (lo + x - 1)) (f:=_) (zGW C hB (by lia) (by lia) ?_);dsimp only
  cases hr : R (at_ (arrOf st') (lo + x)) (at_ (arrOf st') (lo + x - 1)) with
  | true=>exact yAV ⟨rfl,x,rfl,hx1,by lia,hs,.inr hr⟩
  | false =>
   refine yAV ⟨rfl,rfl,λi j a1 a2 a3 => ?_⟩
   by_cases c1 : j < lo + x
   ·exact hs i j a1 a2 c1
   ·have ej : j = lo + x := by lia
    subst ej
    by_cases c2 : i = lo + x
    ·rw [c2]; exact O.irr _
    ·exact O.tr _ (at_ (arrOf st') (lo + x - 1)) _ (hs i (lo + x - 1) a1 (by lia) (by lia)) hr
 case ap =>
  rintro c st' ⟨rfl,n,rfl,n1,nn,hs,hor⟩
  dsimp only;have hst4 : st' = st':=rfl;refine zAR (λcn=>yAV (h n st' (Upd.refl hB) n1 nn hs)) (λcn => ?_);have cn' : n≠nrem:=λz=>cn (yAc.mpr z);have hlt:=hor.resolve_left cn';apply zHO
  case use =>
   intro key
   by_cases cg : n > 1
   case pos =>
    rw [yAQ cg];refine yAK (m:=ltAt' lo (lo + n - 1)) (f:=_) (zGW C hB (by lia) (by lia) ?_);dsimp only
    by_cases hr' : R (at_ (arrOf st') lo) (at_ (arrOf st') (lo + n - 1)) = true
    ·rw [hr']
     exact yAV (h n st' (Upd.refl hB) n1 nn hs)
    have hr : R (at_ (arrOf st') lo) (at_ (arrOf st') (lo + n - 1)) = false:=Bool.eq_false_iff.mpr hr';rw [hr];have al : ∀ u,lo <= u -> u < lo + n -> Eqv R (at_ (arrOf st') u) (at_ (arrOf st') (lo + n - 1)):=λu b1 b2=>⟨O.tr _ (at_ (arrOf st') lo) _ hr (hs lo u (yAE _) b1 b2),hs u (lo + n - 1) b1 (by lia) (by lia)⟩;simp only [yBG,yCc];refine yAK (m:=reverseSlice' lo (lo + n)) (f:=_) (wpS_reverse ?_);have U:=(Upd.refl (lo:=lo) hB).mirror (yAE lo) (show lo + n <= a₀.size by lia);have ev:=zEK O (xs:=arrOf st') (i:=lo) (j:=lo + n) (by lia) al
    have D0 : Dec R (mirror (arrOf st') lo (lo + n) ((lo + n - lo) / 2)) lo (lo + (n + 1)) := fun i j a1 a2 a3 => by
     refine (ev i).le O (ev j) ?_
     by_cases c1 : j < lo + n
     ·exact ((al i a1 (by lia)).trans O (al j (by lia) c1).symm).1
     ·have ej : j = lo + n := by lia
      subst ej
      by_cases c2 : i = lo + n
      ·rw [c2]; exact O.irr _
      ·exact (al i a1 (by lia)).symm.le O (Eqv.refl O _) (O.as _ _ hlt)
    have D : Dec R (arrOf (setArr st' (mirror (arrOf st') lo (lo + n) ((lo + n - lo) / 2)))) lo (lo + (n + 1)):=D0;clear D0 ev al hr;generalize setArr st' (mirror (arrOf st') lo (lo + n) ((lo + n - lo) / 2)) = st2 at U D ⊢;revert D; revert U; revert st2;exact key.k
   case neg =>
    rw [yAN cg];have U:=Upd.refl (lo:=lo) hB
    have D : Dec R (arrOf st') lo (lo + (n + 1)) := fun i j a1 a2 a3 => by
     by_cases c2 : i = j
     ·rw [c2]; exact O.irr _
     ·have ei : i = lo + n - 1 := by lia
      have ej : j = lo + n:=by lia
      subst ei ej;exact O.as _ _ hlt
    exact key.k _ U D
  intro st2 U D;refine yAK (m:=_) (f:=_) (wpS_lift (yDI ⟨rfl,?_⟩))
  refine yAK (m := _) (f := _) (yCC (yBS (I := fun x c st3 => ∃ neq, c = (none, x, neq) /\ Upd a₀ κ lo st' st3 /\ Dec R (arrOf st3) lo (lo + x) /\ neq + 1 <= x /\ ∀ u, lo + x - (neq + 1) <= u -> u < lo + x -> Eqv R (at_ (arrOf st3) u) (at_ (arrOf st3) (lo + x - 1)))
   (Q:=λc st3=>∃ m neq,c = (none,m,neq)/\1 <= m/\m <= nrem/\Upd a₀ κ lo st' st3/\Dec R (arrOf st3) lo (lo + m)/\neq + 1 <= m/\∀ u,lo + m - (neq + 1) <= u -> u < lo + m -> Eqv R (at_ (arrOf st3) u) (at_ (arrOf st3) (lo + m - 1))) ?ds ?df ⟨0,rfl,U,D,by lia,λu b1 b2=>by rw [show u = lo + (n + 1) - 1 by lia]; exact Eqv.refl O _⟩) ?dp)
  case df =>
   rintro c st3 ⟨neq,rfl,U3,D3,q1,q2⟩
   rw [show max (n + 1) nrem = nrem by lia] at D3 q1 q2 ⊢;exact ⟨nrem,neq,rfl,h1,yAE _,U3,D3,q1,q2⟩
  case ds =>
   rintro x c st3 hx1 hx ⟨neq,rfl,U3,D3,q1,q2⟩
   have z3:=U3.bs.size;dsimp only;refine yAK (m:=ltAt' (lo + x) (lo + x - 1)) (f:=_) (zGW C U3.bs (by lia) (by lia) ?_);dsimp only
   by_cases hr' : R (at_ (arrOf st3) (lo + x)) (at_ (arrOf st3) (lo + x - 1)) = true
   ·rw [hr']
    simp only [if_true]
    have step1 : ∀ xs : Array Keyed, (∀ k, Eqv R (at_ (arrOf st3) k) (at_ xs k)) -> Dec R xs lo (lo + (x + 1)) := fun xs ev i j a1 a2 a3 => by
     refine (ev i).le O (ev j) ?_
     by_cases c1 : j < lo + x
     ·exact D3 i j a1 a2 c1
     ·have ej : j = lo + x := by lia
      subst ej
      by_cases c2 : i = lo + x
      ·rw [c2]; exact O.irr _
      ·exact O.tr _ (at_ (arrOf st3) (lo + x - 1)) _ (O.as _ _ hr') (D3 i (lo + x - 1) a1 (by lia) (by lia))
    by_cases cq : neq > 0
    ·rw [yAQ cq]
     refine yAK (m:=reverseSlice' (lo + x - (neq + 1)) (lo + x)) (f:=_) (wpS_reverse (yAV ⟨0,rfl,U3.mirror (by lia) (by lia),step1 _ (zEK O (by lia) q2),by lia,λu b1 b2=>by rw [show u = lo + (x + 1) - 1 by lia]; exact Eqv.refl O _⟩))
    ·rw [yAN cq]
     exact yAV ⟨0,rfl,U3,step1 _ (λk=>Eqv.refl O _),by lia,λu b1 b2=>by rw [show u = lo + (x + 1) - 1 by lia]; exact Eqv.refl O _⟩
   ·have hr : R (at_ (arrOf st3) (lo + x)) (at_ (arrOf st3) (lo + x - 1)) = false := Bool.eq_false_iff.mpr hr'
    rw [hr];simp only [yBG,yCc];refine yAK (m:=ltAt' (lo + x - 1) (lo + x)) (f:=_) (zGW C U3.bs (by lia) (by lia) ?_);dsimp only
    by_cases hl' : R (at_ (arrOf st3) (lo + x - 1)) (at_ (arrOf st3) (lo + x)) = true
    ·rw [hl']
     exact yAV ⟨x,neq,rfl,by lia,by lia,U3,D3,q1,q2⟩
    ·have hl : R (at_ (arrOf st3) (lo + x - 1)) (at_ (arrOf st3) (lo + x)) = false := Bool.eq_false_iff.mpr hl'
     rw [hl];have ee : Eqv R (at_ (arrOf st3) (lo + x - 1)) (at_ (arrOf st3) (lo + x)):=⟨hl,hr⟩;refine yAV ⟨neq + 1,rfl,U3,λi j a1 a2 a3 => ?_,by lia,λu b1 b2 => ?_⟩
     ·by_cases c1 : j < lo + x
      ·exact D3 i j a1 a2 c1
      ·have ej : j = lo + x := by lia
       subst ej
       by_cases c2 : i = lo + x
       ·rw [c2]; exact O.irr _
       ·exact (Eqv.refl O _).le O ee (D3 i (lo + x - 1) a1 (by lia) (by lia))
     ·rw [show lo + (x + 1) - 1 = lo + x by lia]
      by_cases c2 : u = lo + x
      ·rw [c2]; exact Eqv.refl O _
      ·exact (q2 u (by lia) (by lia)).trans O ee
  case dp =>
   rintro c st3 ⟨m,neq,rfl,m1,mn,U3,D3,q1,q2⟩
   have z3:=U3.bs.size;dsimp only;apply zHO
   case use =>
    intro key
    by_cases cq : neq > 0
    case pos =>
     rw [yAQ cq];refine yAK (m:=reverseSlice' (lo + m - (neq + 1)) (lo + m)) (f:=_) (wpS_reverse ?_);have U5:=U3.mirror (i:=lo + m - (neq + 1)) (j:=lo + m) (by lia) (by lia);have ev:=zEK O (xs:=arrOf st3) (i:=lo + m - (neq + 1)) (j:=lo + m) (by lia) q2;have D5 : Dec R (arrOf (setArr st3 (mirror (arrOf st3) (lo + m - (neq + 1)) (lo + m) ((lo + m - (lo + m - (neq + 1))) / 2)))) lo (lo + m):=λi j a1 a2 a3=>(ev i).le O (ev j) (D3 i j a1 a2 a3);clear ev;generalize setArr st3 (mirror (arrOf st3) (lo + m - (neq + 1)) (lo + m) ((lo + m - (lo + m - (neq + 1))) / 2)) = st5 at U5 D5 ⊢;revert D5; revert U5; revert st5;exact key.k
    case neg =>
     rw [yAN cq];have U5:=U3;have D5:=D3;exact key.k _ U5 D5
   intro st5 U5 D5;have z5:=U5.bs.size;refine yAK (m:=reverseSlice' lo (lo + m)) (f:=_) (wpS_reverse ?_);have U6:=U5.mirror (yAE lo) (show lo + m <= a₀.size by lia)
   have S6 : SegSrt R (arrOf (setArr st5 (mirror (arrOf st5) lo (lo + m) ((lo + m - lo) / 2)))) lo (lo + m) := fun i j a1 a2 a3 => by
    show R (at_ (mirror (arrOf st5) lo (lo + m) ((lo + m - lo) / 2)) j) (at_ (mirror (arrOf st5) lo (lo + m) ((lo + m - lo) / 2)) i) = false;rw [zE4 (by lia),zE4 (by lia),yAQ (by lia),yAQ (by lia)];exact D5 _ _ (by lia) (by lia) (by lia)
   generalize hs6 : setArr st5 (mirror (arrOf st5) lo (lo + m) ((lo + m - lo) / 2)) = st6 at U6 S6 ⊢
   refine yAK (m := _) (f := _) (yCC (yBS (I := fun x c st7 => st7 = st6 /\ c = (none, x) /\ SegSrt R (arrOf st6) lo (lo + x))
    (Q:=λc st7=>st7 = st6/\∃ n,c = (none,n)/\1 <= n/\n <= nrem/\SegSrt R (arrOf st6) lo (lo + n)) ?es ?ef ⟨rfl,rfl,S6⟩) ?ep)
   case ef =>
    rintro c st7 ⟨rfl,rfl,hs'⟩
    rw [show max m nrem = nrem by lia] at hs' ⊢;exact ⟨rfl,nrem,rfl,h1,yAE _,hs'⟩
   case ep =>
    rintro c st7 ⟨rfl,n',rfl,b1,b2,hs'⟩
    exact yAV (h n' _ U6 b1 b2 hs')
   case es =>
    rintro x c st7 hx1 hx ⟨rfl,rfl,hs'⟩
    have z6:=U6.bs.size;dsimp only;refine yAK (m:=ltAt' (lo + x) (lo + x - 1)) (f:=_) (zGW C U6.bs (by lia) (by lia) ?_);dsimp only
    cases hr : R (at_ (arrOf st7) (lo + x)) (at_ (arrOf st7) (lo + x - 1)) with
    | true=>exact yAV ⟨rfl,x,rfl,by lia,by lia,hs'⟩
    | false =>
     refine yAV ⟨rfl,rfl,λi j a1 a2 a3 => ?_⟩
     by_cases c1 : j < lo + x
     ·exact hs' i j a1 a2 c1
     ·have ej : j = lo + x := by lia
      subst ej
      by_cases c2 : i = lo + x
      ·rw [c2]; exact O.irr _
      ·exact O.tr _ (at_ (arrOf st7) (lo + x - 1)) _ (hs' i (lo + x - 1) a1 (by lia) (by lia)) hr
end
end L2T
namespace L2T
open PySem PyProof.Rows
section
variable {prog : Program} {w : World} {A : Around} {E : Value -> Shared -> Prop} {s : Shared} {κ : SortKind} {R : Keyed -> Keyed -> Bool} {a₀ : Array Keyed} {st : SortSt}
set_option maxHeartbeats 1000000 in
theorem zO1 {lo n ok : Nat} {Q : Bool -> SortSt -> Prop} (O : Ord R) (C : Cmp prog w A s κ R (· ∈ a₀.toList)) (hB : Bs κ a₀ st) (hn : lo + n <= a₀.size) (ho1 : 1 <= ok) (hok : ok <= n) (hs : SegSrt R (arrOf st) lo (lo + ok))
  (h : ∀ st',Upd a₀ κ lo st st' -> SegSrt R (arrOf st') lo (lo + n) -> Q true st') : wpS (model prog w) A E s (binarySort' lo n ok) Q st:=by
 refine yAK (m := _) (f := _) (yCC (yBS (I := fun k c st' => c = (none, ()) /\ Upd a₀ κ lo st st' /\ SegSrt R (arrOf st') lo (lo + min k n))
  (Q:=λc st'=>c = (none,())/\Upd a₀ κ lo st st'/\SegSrt R (arrOf st') lo (lo + n)) ?step ?fin ⟨rfl,Upd.refl hB,by rw [show min (max ok 1) n = ok by lia]; exact hs⟩) ?post)
 case post =>
  rintro c st' ⟨rfl,U,hs'⟩
  exact yAV (h st' U hs')
 case fin =>
  rintro c st' ⟨hc,U,hs'⟩
  refine ⟨hc,U,?_⟩
  rwa [show min (max (max ok 1) n) n = n by lia] at hs'
 case step =>
  rintro k c st' hak hkn ⟨rfl,U,hs'⟩
  rw [show min k n = k by lia] at hs';have z1:=U.bs.size;dsimp only
  refine yAK (m := _) (f := _) (yCC (yBS (I := fun x c st'' => st'' = st' /\ ∃ l r, c = (none, l, r) /\ l <= r /\ r <= k /\ r - l <= k - x /\
    (∀ i,lo <= i -> i < lo + l -> R (at_ (arrOf st') (lo + k)) (at_ (arrOf st') i) = false)/\(∀ i,lo + r <= i -> i < lo + k -> R (at_ (arrOf st') (lo + k)) (at_ (arrOf st') i) = true))
   (Q := fun c st'' => st'' = st' /\ ∃ l r, c = (none, l, r) /\ l <= k /\
    (∀ i,lo <= i -> i < lo + l -> R (at_ (arrOf st') (lo + k)) (at_ (arrOf st') i) = false)/\(∀ i,lo + l <= i -> i < lo + k -> R (at_ (arrOf st') (lo + k)) (at_ (arrOf st') i) = true)) ?istep ?ifin ⟨rfl,0,k,rfl,by lia,by lia,by lia,λi a1 a2=>by lia,λi a1 a2=>by lia⟩) ?ipost)
  case ifin =>
   rintro c st'' ⟨rfl,l,r,rfl,hlr,hrk,hm,hlo,hhi⟩
   have e : l = r:=by lia
   subst e;exact ⟨rfl,l,l,rfl,hrk,hlo,hhi⟩
  case istep =>
   rintro x c st'' _ hxk ⟨rfl,l,r,rfl,hlr,hrk,hm,hlo,hhi⟩
   dsimp only
   by_cases hge : l >= r
   ·rw [yAQ hge]
    have e : l = r:=by lia
    subst e;exact yAV ⟨rfl,l,l,rfl,hrk,hlo,hhi⟩
   ·rw [yAN hge]
    refine yAK (m:=ltAt' (lo + k) (lo + (l + r) / 2)) (f:=_) (zGW C U.bs (by lia) (by lia) ?_);dsimp only
    cases hr : R (at_ (arrOf st'') (lo + k)) (at_ (arrOf st'') (lo + (l + r) / 2)) with
    | true =>
     refine yAV ⟨rfl,l,(l + r) / 2,rfl,by lia,by lia,by lia,hlo,λi b1 b2 => ?_⟩
     cases z : R (at_ (arrOf st'') (lo + k)) (at_ (arrOf st'') i) with
     | true=>rfl
     | false =>
      rw [O.tr _ (at_ (arrOf st'') i) _ (hs' (lo + (l + r) / 2) i (by lia) b1 b2) z] at hr
      cases hr
    | false =>
     refine yAV ⟨rfl,(l + r) / 2 + 1,r,rfl,by lia,by lia,by lia,λi b1 b2 => ?_,hhi⟩;exact O.tr _ (at_ (arrOf st'') (lo + (l + r) / 2)) _ (hs' i (lo + (l + r) / 2) b1 (by lia) (by lia)) hr
  case ipost =>
   rintro c st'' ⟨rfl,l,r,rfl,hlk,hlo,hhi⟩
   dsimp only;refine yAK (m:=moveDown' (lo + k) (lo + l)) (f:=_) ?_;rw [moveDown'_eq]
   have ab : ∀ u, at_ (bubble (arrOf st'') (lo + k) (lo + k - (lo + l))) u = if u = lo + l then at_ (arrOf st'') (lo + k) else if lo + l < u /\ u <= lo + k then at_ (arrOf st'') (u - 1) else at_ (arrOf st'') u := fun u => by
    have q:=zPA (xs:=arrOf st'') (src:=lo + k) (d:=lo + k - (lo + l)) (by lia) (by lia) u
    rwa [show lo + k - (lo + k - (lo + l)) = lo + l by lia] at q
   refine yDX (yAV ⟨rfl,⟨U.bs.setA (bubble_perm _ _ _),U.pend,λu hu => ?_⟩,?_⟩)
   ·show at_ (bubble (arrOf st'') (lo + k) (lo + k - (lo + l))) u = _
    rw [ab,yAN (by lia),yAN (by lia)];exact U.low u hu
   ·rw [show min (k + 1) n = k + 1 by lia]
    intro i j a1 a2 a3;show R (at_ (bubble (arrOf st'') (lo + k) (lo + k - (lo + l))) j) (at_ (bubble (arrOf st'') (lo + k) (lo + k - (lo + l))) i) = false;rw [ab,ab]
    repeat' split
    all_goals first
     | (exfalso; lia)
     | exact O.irr _
     | exact hlo _ (by lia) (by lia)
     | exact O.as _ _ (hhi _ (by lia) (by lia))
     | exact hs' _ _ (by lia) (by lia) (by lia)
noncomputable def Runs (S : Nat -> Nat -> Prop) : List (Nat × Nat × Nat) -> Nat -> Nat -> Prop
 | [],a,b=>a = b
 | (s,n,_)::r,a,b=>s = a/\1 <= n/\S a (a + n)/\Runs S r (a + n) b
theorem Runs.le {S : Nat -> Nat -> Prop} : ∀ {l : List (Nat × Nat × Nat)} {a b : Nat}, Runs S l a b -> a + l.length <= b
 | [],a,b,h=>by have : a = b:=h; subst this; simp
 | (s,n,p)::r,a,b,h=>by
  have:=h.2.2.2.le
  have:=h.2.1
  simp only [yBA];lia
theorem Runs.mono {S S' : Nat -> Nat -> Prop} : ∀ {l : List (Nat × Nat × Nat)} {a b : Nat}, Runs S l a b -> (∀ u v, a <= u -> v <= b -> S u v -> S' u v) -> Runs S' l a b
 | [],a,b,h,_=>h
 | (s,n,p)::r,a,b,h,f=>by
  have:=h.2.2.2.le
  exact ⟨h.1,h.2.1,f _ _ (yAE _) (by lia) h.2.2.1,h.2.2.2.mono λu v h1 h2=>f u v (by lia) h2⟩
theorem Runs.push {S : Nat -> Nat -> Prop} : ∀ {l : List (Nat × Nat × Nat)} {a b n p : Nat}, Runs S l a b -> 1 <= n -> S b (b + n) -> Runs S (l ++ [(b, n, p)]) a (b + n)
 | [],a,b,n,p,h,hn,hs=>by have : a = b:=h; subst this; exact ⟨rfl,hn,hs,rfl⟩
 | (s,m,p')::r,a,b,n,p,h,hn,hs=>⟨h.1,h.2.1,h.2.2.1,h.2.2.2.push hn hs⟩
theorem Runs.two {S : Nat -> Nat -> Prop} : ∀ {l : List (Nat × Nat × Nat)} {a b i : Nat}, Runs S l a b -> i + 1 < l.length -> ∃ s n p m p2, l[i]? = some (s, n, p) /\ l[i + 1]? = some (s + n, m, p2) /\ 1 <= n /\ 1 <= m /\ a <= s /\ s + n + m <= b /\ S s (s + n) /\ S (s + n) (s + n + m) /\
  ∀ S' : Nat -> Nat -> Prop,(∀ u v,(v <= s \/ s + n + m <= u) -> S u v -> S' u v) -> S' s (s + n + m) -> Runs S' ((l.set i (s,n + m,p)).eraseIdx (i + 1)) a b
 | (s,n,p)::(t,m,p2)::r,a,b,0,h,_=>by
  obtain ⟨e1,h1,q1,e2,h2,q2,h3⟩:=h;have l3:=h3.le;subst e1 e2;refine ⟨s,n,p,m,p2,rfl,rfl,h1,h2,yAE _,by lia,q1,q2,λS' f g=>⟨rfl,by lia,by rw [<- Nat.add_assoc]; exact g,?_⟩⟩;rw [<- Nat.add_assoc];exact h3.mono λu v a1 a2=>f u v (.inr a1)
 | [],a,b,i,h,hl=>by simp at hl
 | [x],a,b,i,h,hl=>by simp at hl
 | (s,n,p)::x::r,a,b,i + 1,h,hl=>by
  obtain ⟨e1,h1,q1,h2⟩:=h;obtain ⟨s',n',p',m',q',g1,g2,g3,g4,g5,g6,g7,g8,g9⟩:=h2.two (i:=i) (by simpa using hl);exact ⟨s',n',p',m',q',g1,g2,g3,g4,by lia,g6,g7,g8,λS' f g=>⟨e1,h1,f _ _ (.inl g5) q1,g9 S' f g⟩⟩
theorem Runs.mod {S : Nat -> Nat -> Prop} {f : Nat × Nat × Nat -> Nat × Nat × Nat} (hf : ∀ x, (f x).1 = x.1 /\ (f x).2.1 = x.2.1) : ∀ {l : List (Nat × Nat × Nat)} {a b : Nat} (k : Nat), Runs S l a b -> Runs S (l.modify k f) a b
 | [],a,b,k,h=>by rw [List.modify_nil]; exact h
 | (s,n,p)::r,a,b,0,h=>by
  show Runs S (f (s,n,p)::r) a b;obtain ⟨e1,e2⟩:=hf (s,n,p);generalize f (s,n,p) = w at e1 e2 ⊢;obtain ⟨x,y,z⟩:=w;have e1 : x = s:=e1;have e2 : y = n:=e2;subst e1 e2;exact h
 | (s,n,p)::r,a,b,k + 1,h=>⟨h.1,h.2.1,h.2.2.1,h.2.2.2.mod hf k⟩
theorem zOV {xs ys : Array Keyed} {lo u v : Nat} (h : ∀ k, k < lo -> at_ ys k = at_ xs k) (hv : v <= lo) (q : SegSrt R xs u v) : SegSrt R ys u v := fun i j a1 a2 a3 => by
 rw [h i (by lia),h j (by lia)]; exact q i j a1 a2 a3
theorem zIN {i lo : Nat} {Q : Bool -> SortSt -> Prop} (O : Ord R) (C : Cmp prog w A s κ R (· ∈ a₀.toList)) (hB : Bs κ a₀ st) (hl : lo <= a₀.size) (hr : Runs (SegSrt R (arrOf st)) (pendingOf st).toList 0 lo) (hi : i + 1 < (pendingOf st).size)
  (h : ∀ st',Bs κ a₀ st' -> Runs (SegSrt R (arrOf st')) (pendingOf st').toList 0 lo -> (pendingOf st').size + 1 = (pendingOf st).size -> (∀ k,lo <= k -> at_ (arrOf st') k = at_ (arrOf st) k) -> Q true st') : wpS (model prog w) A E s (mergeAt' i) Q st:=by
 obtain ⟨sa,na,p,nb,p2,e1,e2,n1,n2,_,le,s1,s2,f⟩:=hr.two (i:=i) (by simpa using hi);have hz:=hB.size;refine zKR O C hB.kind hB.failed (sa:=sa) (na:=na) (pw:=p) (sb:=sa + na) (nb:=nb) (pw2:=p2) (by simpa using e1) (by simpa using e2) rfl n1 n2 (by lia) s1 s2 (λk hk=>hB.mem hk) λxs g hp same seg => ?_;refine h _ ⟨hB.kind,rfl,hp.trans hB.perm⟩ ?_ ?_ λk hk=>same k (.inr (by lia))
 ·have q := f (SegSrt R xs) (fun u v huv q i j a1 a2 a3 => by
   rcases huv with huv | huv
   ·rw [same i (.inl (by lia)),same j (.inl (by lia))]; exact q i j a1 a2 a3
   ·rw [same i (.inr (by lia)),same j (.inr (by lia))]; exact q i j a1 a2 a3) seg
  have et : (((pendingOf st).setIfInBounds i (sa, na + nb, p)).eraseIdxIfInBounds (i + 1)).toList = ((pendingOf st).toList.set i (sa, na + nb, p)).eraseIdx (i + 1) := by
   simp
  show Runs (SegSrt R xs) (((pendingOf st).setIfInBounds i (sa,na + nb,p)).eraseIdxIfInBounds (i + 1)).toList 0 lo;rw [et];exact q
 ·show (((pendingOf st).setIfInBounds i (sa, na + nb, p)).eraseIdxIfInBounds (i + 1)).size + 1 = _
  rw [<- yBI,show (((pendingOf st).setIfInBounds i (sa,na + nb,p)).eraseIdxIfInBounds (i + 1)).toList = ((pendingOf st).toList.set i (sa,na + nb,p)).eraseIdx (i + 1) by simp,List.length_eraseIdx,List.length_set,yBI,yAQ hi];lia
set_option maxHeartbeats 2000000 in
theorem wpS_runs {Q : Unit -> SortSt -> Prop} (O : Ord R) (C : Cmp prog w A s κ R (· ∈ a₀.toList)) (hB : Bs κ a₀ st) (hpd : pendingOf st = #[]) (h2 : 2 <= a₀.size)
  (h : ∀ st',Bs κ a₀ st' -> SegSrt R (arrOf st') 0 a₀.size -> Q () st') : wpS (model prog w) A E s sortRuns' Q st:=by
 have hz:=hB.size;refine yAK (m:=_) (f:=_) (yDe ?_);dsimp only;rw [show (arrOf st).size = a₀.size from hz];generalize (sortPriv% PySem.Builtin.minRun) a₀.size a₀.size 0 = minrun
 refine yAK (m := _) (f := _) (yCC (yBS (I := fun x c st' => ∃ lo, c = (none, lo) /\ Bs κ a₀ st' /\ Runs (SegSrt R (arrOf st')) (pendingOf st').toList 0 lo /\ lo <= a₀.size /\ x <= lo)
  (Q:=λc st'=>c = (none,a₀.size)/\Bs κ a₀ st'/\Runs (SegSrt R (arrOf st')) (pendingOf st').toList 0 a₀.size) ?step ?fin ⟨0,rfl,hB,by rw [hpd]; exact rfl,yBL _,yBL _⟩) ?post)
 case fin =>
  rintro c st' ⟨lo,rfl,hB',hr,h3,h4⟩
  have e : lo = a₀.size:=by lia
  subst e;exact ⟨rfl,hB',hr⟩
 case post =>
  rintro c st1 ⟨rfl,hB1,hr1⟩
  dsimp only;have len1:=hr1.le
  refine yAK (m := _) (f := _) (yCC (yBS (I := fun x c st' => c = (none, ()) /\ Bs κ a₀ st' /\ Runs (SegSrt R (arrOf st')) (pendingOf st').toList 0 a₀.size /\ (pendingOf st').size + x <= a₀.size)
   (Q:=λc st'=>c = (none,())/\Bs κ a₀ st'/\Runs (SegSrt R (arrOf st')) (pendingOf st').toList 0 a₀.size/\(pendingOf st').size <= 1) ?ls ?lf ⟨rfl,hB1,hr1,by simp only [yBI] at len1; lia⟩) ?lp)
  case lf =>
   rintro c st' ⟨rfl,hB',hr,h3⟩
   exact ⟨rfl,hB',hr,by lia⟩
  case lp =>
   rintro c st' ⟨rfl,hB',hr,h3⟩
   refine yAV (h st' hB' ?_)
   match hl : (pendingOf st').toList,hr with
   | [],hr=>have : (0 : Nat) = a₀.size:=hr; lia
   | [(s0,n0,p0)],hr =>
    obtain ⟨e1,_,q,e2⟩:=hr;have e2 : 0 + n0 = a₀.size:=e2;rw [<- e2];exact q
   | _::_::_,_ =>
    have : (pendingOf st').toList.length <= 1:=by rw [yBI]; exact h3
    rw [hl] at this
    simp at this
  case ls =>
   rintro x c st' _ hx ⟨rfl,hB',hr,h3⟩
   refine yAK (m:=_) (f:=_) (yDe ?_);refine zAR (λc1=>yAV ⟨rfl,hB',hr,c1⟩) (λc1 => ?_);have c1 : ¬ (pendingOf st').size <= 1:=c1;have two : ∀ (p : Prop) [Decidable p],(if p then (pendingOf st').size - 2 - 1 else (pendingOf st').size - 2) + 1 < (pendingOf st').size:=λp _=>by split <;> lia
   have go : ∀ i,i + 1 < (pendingOf st').size -> wpS (model prog w) A E s (mergeAt' i) (λb st''=>b = true/\Bs κ a₀ st''/\Runs (SegSrt R (arrOf st'')) (pendingOf st'').toList 0 a₀.size/\(pendingOf st'').size + (x + 1) <= a₀.size) st':=λi hi=>zIN O C hB' (yAE _) hr hi λst'' b1 b2 b3 _=>⟨rfl,b1,b2,by lia⟩
   try dsimp only
   refine yAK (m:=mergeAt' _) (f:=_) (yCC (go _ ?_) ?_)
   ·exact two _
   ·rintro b st'' ⟨rfl, b1, b2, b3⟩
    exact yAV ⟨rfl,b1,b2,b3⟩
 case step =>
  rintro x c st' _ hx ⟨lo,rfl,hB',hr,h3,h4⟩
  dsimp only
  by_cases cg : lo >= a₀.size
  ·rw [yAQ cg]
   have e : lo = a₀.size:=by lia
   subst e;exact yAV ⟨rfl,hB',hr⟩
  rw [yAN cg];refine yAK (m:=countRun' lo (a₀.size - lo)) (f:=_) (zOL O C hB' (by lia) (by lia) λm st2 U m1 mn sg => ?_);dsimp only
  have r2 : Runs (SegSrt R (arrOf st2)) (pendingOf st2).toList 0 lo := by
   rw [U.pend];exact hr.mono λu v _ hv q=>zOV U.low hv q
  apply zHO
  case use =>
   intro key
   by_cases cm : m < minrun
   case pos =>
    rw [yAQ cm];refine yAK (m:=_) (f:=_) (wpS_lift (yDI ⟨rfl,?_⟩));refine yAK (m:=binarySort' lo (min (a₀.size - lo) minrun) m) (f:=_) (zO1 O C U.bs (by lia) m1 (by lia) sg λst3 U3 sg3 => ?_);simp only [Bool.not_true,yBG,yCc]
    have r3 : Runs (SegSrt R (arrOf st3)) (pendingOf st3).toList 0 lo := by
     rw [U3.pend];exact r2.mono λu v _ hv q=>zOV U3.low hv q
    have B3:=U3.bs;have n1 : 1 <= min (a₀.size - lo) minrun:=by lia
    have nz : lo + min (a₀.size - lo) minrun <= a₀.size:=by lia
    clear U3;generalize min (a₀.size - lo) minrun = n at sg3 n1 nz ⊢;revert nz; revert n1; revert sg3; revert B3; revert r3; revert n; revert st3;exact key.k
   case neg =>
    rw [yAN cm];exact key.k _ _ r2 U.bs sg m1 (by lia)
  intro st3 n r3 B3 sg3 n1 nz;have last : ∀ st4 : SortSt,Bs κ a₀ st4 -> Runs (SegSrt R (arrOf st4)) (pendingOf st4).toList 0 lo -> SegSrt R (arrOf st4) lo (lo + n) -> Bs κ a₀ (zbE st4 ((pendingOf st4).push (lo,n,0)))/\Runs (SegSrt R (arrOf st4)) ((pendingOf st4).push (lo,n,0)).toList 0 (lo + n):=λst4 b1 b2 b3=>⟨⟨b1.kind,b1.failed,b1.perm⟩,by rw [yAq]; exact b2.push n1 b3⟩;refine yAK (m:=_) (f:=_) (yDe ?_)
  split
  ·refine yAK (m := _) (f := _) (yCC (yBS (I := fun y c st4 => c = (none, ()) /\ Bs κ a₀ st4 /\ Runs (SegSrt R (arrOf st4)) (pendingOf st4).toList 0 lo /\ SegSrt R (arrOf st4) lo (lo + n))
    (Q:=λc st4=>c = (none,())/\Bs κ a₀ st4/\Runs (SegSrt R (arrOf st4)) (pendingOf st4).toList 0 lo/\SegSrt R (arrOf st4) lo (lo + n)) ?ix1 ?ix2 ⟨rfl,B3,r3,sg3⟩) ?ix3)
   case ix2 =>
    rintro c st4 q
    exact q
   case ix1 =>
    rintro y c st4 _ hy ⟨rfl,B4,r4,sg4⟩
    refine yAK (m:=_) (f:=_) (yDe ?_)
    split
    ·rename_i hsome
     split
     ·exact yAV ⟨rfl,B4,r4,sg4⟩
     ·have c2 : (pendingOf st4).size > 1 := by
       rcases yBo 1 (pendingOf st4).size with z | z
       ·exact z
       ·rw [yAN (Nat.not_lt_of_ge z)] at hsome
        cases hsome
      refine yAK (m:=mergeAt' ((pendingOf st4).size - 2)) (f:=_) (zIN O C B4 h3 r4 (by lia) λst5 b1 b2 b3 b4=>yAV ⟨rfl,b1,b2,λi j a1 a2 a3 => ?_⟩);rw [b4 i a1,b4 j (by lia)];exact sg4 i j a1 a2 a3
    ·exact yAV ⟨rfl,B4,r4,sg4⟩
   case ix3 =>
    rintro c st4 ⟨rfl,B4,r4,sg4⟩
    dsimp only;refine yAK (m:=_) (f:=_) (yDX ?_);refine yAK (m:=_) (f:=_) (yDX (yAV ?_));refine ⟨lo + n,rfl,⟨B4.kind,B4.failed,B4.perm⟩,?_,nz,by lia⟩;show Runs (SegSrt R (arrOf st4)) (((pendingOf st4).modify ((pendingOf st4).size - 1) _).push (lo,n,0)).toList 0 (lo + n);rw [yAq,Array.toList_modify];refine Runs.push (Runs.mod ?_ _ r4) n1 sg4;exact λx=>⟨rfl,rfl⟩
  ·refine yAK (m := _) (f := _) (yDX (yAV ?_))
   obtain ⟨b1,b2⟩:=last st3 B3 r3 sg3;exact ⟨lo + n,rfl,b1,b2,nz,by lia⟩
end
end L2T
namespace L2
open PySem PySem.Spec PyProof.Rows PySem.W
section
variable {X : Cx} {pins : List (Addr × Obj)} {σ : St} {H : Hp} {s : Shared} {k : Nat} {f D : Addr} {fd : FuncData} {pn : Str} {sp : Sp} {kf : V -> Int × List Int} {xs : List V} {its : List Value} {kd : Int × List Int -> PyData} {okk : Int × List Int -> Prop} {KA : Hp -> Shared -> Value -> Int -> List Int -> Prop}
theorem zSA {x : V} {u : Value} {Q : VK} {E : Value -> Shared -> Prop} (F : FnOk X.prog X.w X.K X.mg X.base CX0 k f fd [pn] sp) (hr : Room (k + 2) X.A) (hb : Binds X.K fd [pn] []) (I : Inv X pins σ H s) (r : RelV x u) (h : sp [x] H Q E0) :
  wpAny (model X.prog X.w) X.A.in1.in1 (call (.ref f) [u]) (EP X pins σ Q) E s:=by
 refine yDJ (yCM (F.run X.A.in1.in1 X.stack s H ⟨[u],[]⟩ [u] [x] Q E0 hr.in1.in1 I.env0.in1.in1 (hb s [u] I.kIn rfl) (.cons r .nil) h) λr s' hq => ?_)
 cases r with
 | error e=>exact False.elim hq
 | ok fl =>
  cases fl with
  | ret u=>exact I.after hq
  | next=>exact False.elim hq
  | brk=>exact False.elim hq
  | cont=>exact False.elim hq
structure KForm (X : Cx) (kd : Int × List Int -> PyData) (okk : Int × List Int -> Prop) (KA : Hp -> Shared -> Value -> Int -> List Int -> Prop) : Prop where
 tup : ∀ a,∃ ds,kd a = .tuple ds
 at_ : ∀ {pins : List (Addr × Obj)} {σ : St} {H : Hp} {s : Shared} {v : V} {u : Value} {n : Int} {ms : List Int},Inv X pins σ H s -> DV X.K H v (kd (n,ms)) -> RelV v u -> okk (n,ms) -> KA H s u n ms
 ex : ∀ {H : Hp} {s : Shared} {v : Value} {n : Int} {ms : List Int},KA H s v n ms -> ∃ (a b : Addr) (t : Tok) (o : Obj) (k : Nat),v = .ref a/\s.heap.get? a = some o/\o.cls = .type "tuple"/\o.data = .seq [.int n t,.ref b].toArray k
 cmp : ∀ {H : Hp} {s : Shared} {A : Around} {E : Value -> Shared -> Prop} {u v : Value} {n m : Int} {ms ks : List Int} {C : Bool -> Shared -> Prop},A.units + 10 < cLine -> KA H s u n ms -> KA H s v m ks -> C (zCK (n,ms) (m,ks)) s -> wpAny (model X.prog X.w) A (keyLt' (tuples' true) u v) C E s
structure KeysTo (kd : Int × List Int -> PyData) (K : PySem.W.Frag) (H : Hp) (kf : V -> Int × List Int) (xs : List V) (ks : List Value) (i : Nat) : Prop where
 len : ks.length = i
 at' : ∀ j,j < i -> ∃ a,ks[j]? = some (.ref a)/\DV K H (.ref a) (kd (kf (xs.getD j .non)))
theorem DV.tup_ref {K : PySem.W.Frag} {v : V} {ds : List PyData} (h : DV K H v (.tuple ds)) : ∃ a, v = .ref a := by
 generalize hd : PyData.tuple ds = d at h
 cases h with
 | tup _ _=>exact ⟨_,rfl⟩
 | _=>cases hd
noncomputable def zKP (X : Cx) (pins : List (Addr × Obj)) (σ : St) (H : Hp) (D : Addr) (kf : V -> Int × List Int) (xs : List V) (s' : Shared) : Prop :=
 ∃ H' ys,Inv X pins σ (upd H' D (.lst ys)) s'/\Same H H'/\H' D = none/\ys.Perm xs/\ys.Pairwise λa b=>zCK (kf b) (kf a) = false
theorem zE5 : ∀ {xs : List V} {us : List Value}, Vals xs us -> ∀ i, RelV (xs.getD i .non) (us.getD i .none)
 | _,_,.nil,i=>by simp [RelV]
 | _,_,.cons r t,0=>by simpa using r
 | _,_,.cons r t,i + 1=>by simpa using zE5 t i
theorem zGX {α : Type} (xs : List α) (d : α) : (List.range xs.length).map (fun i => xs.getD i d) = xs := by
 apply List.ext_getElem
 ·simp
 ·intro i h1 h2
  simp at h1
  simp [h1]
theorem zSN : ∀ {v v' : V} {u : Value}, RelV v u -> RelV v' u -> v = v' := fun {v v' u} h h' => by
 cases v <;> cases v' <;> simp only [RelV] at h h' <;> (try obtain ⟨t,rfl⟩:=h) <;> (try obtain ⟨t',h'⟩:=h') <;> (try subst h) <;> (try cases h') <;> first | rfl | simp_all
theorem zS4 (KF : KForm X kd okk KA) (hkf : ∀ x, okk (kf x)) {E : Value -> Shared -> Prop} {kS : Addr} {e e1 : Nat} {ks : List Value} {H' : Hp} (hr : Room (k + 2) X.A) (rv : Vals xs its) (h64 : xs.length <= 100000)
  (I : Inv X (pins++[(D,seqObj "list" #[] e1),(kS,seqObj "list" ks.toArray e)]) σ H' s) (fD : zGL X pins H D) (sD : X.s₀.heap.objs.size <= D) (fK : zGL X pins H kS) (hne : kS≠D) (g : Same H H') (kt : KeysTo kd X.K H' kf xs ks xs.length) :
  wpAny (model X.prog X.w) X.A.in1.in1 (ksk_end D false its.toArray e1 (.ref kS) ks.toArray) (λfin s'=>fin = .done (.ret .none)/\zKP X pins σ H D kf xs s') E s:=by
 have hlen:=rv.length;have hkl:=kt.len;have pD:=I.pin (D,seqObj "list" #[] e1) (yAP _ (yAP _ (yAR ..)));have pK:=I.pin (kS,seqObj "list" ks.toArray e) (yAP _ (yAP _ (yAO _ (yAR ..))));have I0 : Inv X pins σ H' s:=I.pins_of λp hp=>I.pin p (yAP _ (yBj _ hp));have sz : sizeLine = sizeLine:=rfl;have s64 : 100000 <= sizeLine:=by decide
 have fin : ∀ (st : SortSt) (us : List Value) (ys : List V), (arrOf st).map (·.2) = us.toArray -> failedOf st = none -> Vals ys us -> ys.Perm xs -> ys.Pairwise (fun a b => zCK (kf b) (kf a) = false) ->
   wpAny (model X.prog X.w) X.A.in1.in1 (ksk_tail D false e1 (.ref kS) st) (λfin s'=>fin = .done (.ret .none)/\zKP X pins σ H D kf xs s') E s:=λst us ys h1 h2 hv h3 h4=>by
  have hyl : ys.length = xs.length:=h3.length_eq;have hul:=hv.length;refine zWP pK.1 pD.1 hne h1 h2 (by lia) (by lia) ⟨rfl,H',ys,?_,g,pD.2.1,h3,h4⟩;have I1 : Inv X pins σ H' { s with heap:=s.heap.update kS (Obj.mapSeq λ_ => #[]) }:=I0.turned (t':=s.toks) (λb o hb e=>by rw [yBY _ _ _ _ hb]; exact e) pK.2.1 fK.2.1 fK.2.2.2.1 fK.2.2.2.2.1 fK.2.2.2.2.2;have hD1 : (s.heap.update kS (Obj.mapSeq λ_=>(#[] : Array Value))).get? D = some (seqObj "list" #[] e1):=by rw [yBY _ _ _ _ hne.symm]; exact pD.1
  have I2 : Inv X pins σ H' { s with heap:=(s.heap.update kS (Obj.mapSeq λ_ => #[])).update D (Obj.mapSeq λ_=>us.toArray) }:=I1.turned (t':=s.toks) (λb o hb e=>by rw [yBY _ _ _ _ hb]; exact e) pD.2.1 fD.2.1 fD.2.2.2.1 fD.2.2.2.2.1 fD.2.2.2.2.2;exact I2.take ⟨pD.2.1,fD.2⟩ sD ⟨by lia,_,_,hv,yDm hD1 λ_=>us.toArray⟩
 unfold ksk_end
 try dsimp only
 rw [yAN (by simp)]
 by_cases h2 : its.toArray.size < 2
 ·have h2' : xs.length < 2 := by rw [yAH] at h2; lia
  rw [yAQ h2,yAQ h2];refine yAD (yAW ?_);rw [StateT.run_pure];refine yAD (yAW ?_);simp only [yBG,yCc];refine fin (SortSt.mk' general' (ks.toArray.zip its.toArray) #[] 7 none) its xs ?_ rfl rv (List.Perm.refl _) ?_
  ·show (ks.toArray.zip its.toArray).map (·.2) = its.toArray
   apply yBx.mp;rw [Array.toList_map,ksk_zip];show (ks.zip its).map (·.2) = its
   have hz : ∀ (a b : List Value), a.length = b.length -> (a.zip b).map (·.2) = b := fun a => by
    induction a with
    | nil=>intro b hb; cases b with
     | nil=>rfl
     | cons _ _=>simp at hb
    | cons x r ih=>intro b hb; cases b with
     | nil=>simp at hb
     | cons y t=>simp at hb; simp [ih t hb]
   exact hz ks its (by lia)
  ·match xs, h2' with
   | [],_=>exact .nil
   | [_],_=>exact yCP _ _
 ·have h2' : 2 <= xs.length := by rw [yAH] at h2; lia
  rw [yAN h2,yAN h2]
  have kat : ∀ j, j < xs.length -> KA H' s (ks.getD j .none) (kf (xs.getD j .non)).1 (kf (xs.getD j .non)).2 := fun j hj => by
   obtain ⟨a,e,d⟩:=kt.at' j hj;have eg : ks.getD j .none = .ref a:=by rw [yAo,e]; rfl
   rw [eg];exact KF.at_ I d rfl (hkf _)
  have tups : ∀ l : List Value, (∀ v ∈ l, ∃ n ms, KA H' s v n ms) -> ∃ fs, KatTups s.heap l fs /\ fs.length = l.length /\ ∀ v ∈ fs, ∃ n t, v = Value.int n t := fun l => by
   induction l with
   | nil=>exact λ_=>⟨[],KatTups.nil,rfl,λ_ h=>nomatch h⟩
   | cons v r ih =>
    intro h;obtain ⟨fs,t1,t2,t3⟩:=ih λu hu=>h u (yAO _ hu);obtain ⟨n,ms,q⟩:=h v (yAR ..);obtain ⟨a,b,t,o,kk,rfl,e,c,d⟩:=KF.ex q;refine ⟨.int n t::fs,KatTups.cons e c d rfl t1,by simp [t2],λu hu => ?_⟩
    rcases yAb.mp hu with rfl | hu
    ·exact ⟨n,t,rfl⟩
    ·exact t3 u hu
  obtain ⟨fs, t1, t2, t3⟩ := tups ks fun v hv => by
   obtain ⟨j,hj⟩:=yCf hv;have hjl : j < xs.length:=by rw [<- hkl]; exact (yAI.mp hj).1
   have q:=kat j hjl;rw [yAo,hj] at q;exact ⟨_,_,q⟩
  refine yAD (kat_kind (T := .type "int") t1 (by lia) (λv hv => ?_) rfl ?_)
  ·obtain ⟨n, t, rfl⟩ := t3 v hv
   exact Looks.of_pure rfl
  simp only [yBG,yCc]
  have hun : X.A.in1.in1.units + 10 < cLine := by
   have:=hr.un
   show X.A.units + 1 + 1 + 10 < cLine;lia
  have hz : (ks.toArray.zip its.toArray).size = xs.length:=by simp; lia
  have itemAt : ∀ j, j < xs.length -> (ks.toArray.zip its.toArray)[j]? = some (ks.getD j .none, its.getD j .none) := fun j hj => by
   have h1 : j < ks.length:=by lia
   have h2 : j < its.length:=by lia
   have e : (ks.zip its)[j]? = some (ks[j],its[j]):=by rw [List.getElem?_zip_eq_some]; exact ⟨yAA h1,yAA h2⟩
   rw [<- yBN,ksk_zip];show (ks.zip its)[j]? = _;rw [e]
   simp [h1,h2]
  have spec : ∀ x, x ∈ (ks.toArray.zip its.toArray).toList -> ∃ j, j < xs.length /\ x = (ks.getD j .none, its.getD j .none) := fun x hx => by
   obtain ⟨j,hj⟩:=yCf hx
   have hjl : j < xs.length := by
    have:=(yAI.mp hj).1
    rw [yBI] at this;lia
   refine ⟨j,hjl,?_⟩;rw [yBN,itemAt j hjl] at hj;exact (Option.some.inj hj).symm
  let idx : Keyed -> Nat:=λx=>by classical exact if h : ∃ j,j < xs.length/\x = (ks.getD j .none,its.getD j .none) then Classical.choose h else 0
  have idxOk : ∀ x, x ∈ (ks.toArray.zip its.toArray).toList -> idx x < xs.length /\ x = (ks.getD (idx x) .none, its.getD (idx x) .none) := fun x hx => by
   have h:=spec x hx;have e : idx x = Classical.choose h:=by show (if h : _ then Classical.choose h else 0) = _; rw [dif_pos h]
   rw [e];exact Classical.choose_spec h
  generalize idx = idx at idxOk
  refine yAD (yBO (L2T.wpS_runs (κ := tuples' true) (R := fun x y => zCK (kf (xs.getD (idx x) .non)) (kf (xs.getD (idx y) .non))) (a₀ := ks.toArray.zip its.toArray) (st := SortSt.mk' (tuples' true) (ks.toArray.zip its.toArray) #[] 7 none)
   (Q:=λ_ st'=>L2T.Bs (tuples' true) (ks.toArray.zip its.toArray) st'/\L2T.SegSrt (λx y=>zCK (kf (xs.getD (idx x) .non)) (kf (xs.getD (idx y) .non))) (arrOf st') 0 (ks.toArray.zip its.toArray).size)
   ⟨λx y h=>keyLin.asym _ _ h,λx y z h h'=>keyLin.trans _ _ _ h h'⟩ ⟨λx y hx hy C' E' hC => ?_⟩ ⟨rfl,rfl,Array.Perm.refl _⟩ rfl (by lia) λst' b seg=>⟨b,seg⟩) ?_ λ_ _ x=>x)
  ·obtain ⟨l1, e1⟩ := idxOk x hx
   obtain ⟨l2,e2⟩:=idxOk y hy;have a1:=kat _ l1;have a2:=kat _ l2;rw [show ks.getD (idx x) .none = x.1 by rw [e1]; exact congrArg (λj=>ks.getD (idx j) Value.none) e1.symm] at a1;rw [show ks.getD (idx y) .none = y.1 by rw [e2]; exact congrArg (λj=>ks.getD (idx j) Value.none) e2.symm] at a2;exact KF.cmp hun a1 a2 hC
  ·rintro ⟨⟨⟩, st'⟩ s' ⟨rfl, hb', seg⟩
   try dsimp only
   have hperm:=yDN.mp hb'.perm;have ok' : ∀ x∈(arrOf st').toList,idx x < xs.length/\x = (ks.getD (idx x) .none,its.getD (idx x) .none):=λx hx=>idxOk x (hperm.mem_iff.mp hx);refine fin st' ((arrOf st').toList.map (·.2)) ((arrOf st').toList.map λx=>xs.getD (idx x) .non) (by apply yBx.mp; simp) hb'.failed ?_ ?_ ?_
   ·have go : ∀ l : List Keyed, (∀ x ∈ l, idx x < xs.length /\ x = (ks.getD (idx x) .none, its.getD (idx x) .none)) -> Vals (l.map fun x => xs.getD (idx x) .non) (l.map (·.2)) := fun l => by
     induction l with
     | nil=>exact λ_ => .nil
     | cons x r ih =>
      intro hl;obtain ⟨_,e⟩:=hl x (yAR ..);have q:=zE5 rv (idx x);have e2 : its.getD (idx x) .none = x.2:=(congrArg Prod.snd e).symm;rw [e2] at q;exact .cons q (ih λy hy=>hl y (yAO _ hy))
    exact go _ ok'
   ·refine (hperm.map _).trans (List.Perm.of_eq ?_)
    apply yDd;intro j;rw [yAe,yBN]
    by_cases hj : j < xs.length
    ·rw [itemAt j hj, yAA hj]
     have m : (ks.getD j Value.none,its.getD j Value.none)∈(ks.toArray.zip its.toArray).toList:=yAm (i:=j) (by rw [yBN,itemAt j hj]);obtain ⟨l1,e1⟩:=idxOk _ m;have q1:=zE5 rv (idx (ks.getD j Value.none,its.getD j Value.none));have q2:=zE5 rv j;have e3 : its.getD (idx (ks.getD j Value.none,its.getD j Value.none)) Value.none = its.getD j Value.none:=(congrArg Prod.snd e1).symm;rw [e3] at q1;have e:=zSN q1 q2;show some (xs.getD (idx (ks.getD j Value.none,its.getD j Value.none)) .non) = some xs[j];rw [e]
     simp [hj]
    ·rw [yBr (by lia), Array.getElem?_eq_none (by lia)]
     rfl
   ·rw [yBm, List.pairwise_iff_getElem]
    intro i j hi hj hij;have hs' : (arrOf st').size = xs.length:=hb'.size.trans hz;have q:=seg i j (yBL _) (yDq hij) (by rw [hz]; rw [yBI] at hj; lia);have ei:=L2T.at_toList (xs:=arrOf st') (i:=i) (by simpa using hi);have ej:=L2T.at_toList (xs:=arrOf st') (i:=j) (by simpa using hj);rw [yAA hi] at ei;rw [yAA hj] at ej;rw [Option.some.inj ei,Option.some.inj ej];exact q
theorem zP0 (KF : KForm X kd okk KA) (hkf : ∀ x, okk (kf x)) {E : Value -> Shared -> Prop} (F : FnOk X.prog X.w X.K X.mg X.base CX0 k f fd [pn] sp) (hr : Room (k + 2) X.A) (hb : Binds X.K fd [pn] []) (I : Inv X pins σ H s) (hD : s.heap.get? D = some (seqObj "list" its.toArray 0)) (fD : zGL X pins H D)
  (sD : X.s₀.heap.objs.size <= D) (rv : Vals xs its) (h64 : xs.length <= 100000) (hk : ∀ y∈xs,∀ H2,Same H H2 -> sp [y] H2 (λv H3=>Same H2 H3/\DV X.K H3 v (kd (kf y))) E0) :
  wpAny (model X.prog X.w) X.A.in1.in1 (ksk_tree D (.ref f) false) (λfin s'=>fin = .done (.ret .none)/\zKP X pins σ H D kf xs s') E s:=by
 have hlen:=rv.length;have s64 : 100000 <= sizeLine:=by decide
 unfold ksk_tree;refine yAD (listItems_at hD rfl ?_);refine yAD (yDf hD rfl ?_ (by rw [yAH]; lia) (yBL _));obtain ⟨e1,hD1⟩ : ∃ e1,(s.heap.update D (Obj.mapSeq λ_=>(#[] : Array Value))).get? D = some (seqObj "list" #[] e1):=⟨_,yDm hD λ_ => #[]⟩;have I1 : Inv X pins σ H { s with heap:=s.heap.update D (Obj.mapSeq λ_ => #[]) }:=I.turned (t':=s.toks) (λb o hb e=>by rw [yBY _ _ _ _ hb]; exact e) fD.1 fD.2.1 fD.2.2.2.1 fD.2.2.2.2.1 fD.2.2.2.2.2;generalize hs1 : ({ s with heap:=s.heap.update D (Obj.mapSeq λ_ => #[]) } : Shared) = s1 at I1;have hD1' : s1.heap.get? D = some (seqObj "list" #[] e1):=by rw [<- hs1]; exact hD1
 refine yAD (seqEpoch_at hD1' rfl ?_);refine yAD (wpAny_newTuple ?_ (by show its.length <= _; lia));have I2 : Inv X pins σ H { s1 with heap:=s1.heap.push { cls := .type "tuple",data := .seq its.toArray } }:=I1.kept (t':=s1.toks) λb o e=>yAC _ e;have hD2:=yAC ({ cls := .type "tuple",data := .seq its.toArray } : Obj) hD1';generalize hs2 : ({ s1 with heap:=s1.heap.push { cls := .type "tuple",data := .seq its.toArray } } : Shared) = s2 at I2;have hD2' : s2.heap.get? D = some (seqObj "list" #[] e1):=by rw [<- hs2]; exact hD2
 refine yAD (wpAny_newList ?_ (yBL _));have fK : zGL X pins H s2.heap.objs.size:=I2.fpOk (yAE _) I2.fresh;have hne : s2.heap.objs.size≠D:=yBW (yAJ hD2');generalize hkS : s2.heap.objs.size = kS at fK hne;have I3 : Inv X pins σ H { s2 with heap:=s2.heap.push { cls := .type "list",data := .seq ([] : List Value).toArray } }:=I2.kept (t':=s2.toks) λb o e=>yAC _ e;have hD3 : (s2.heap.push { cls := .type "list",data := .seq ([] : List Value).toArray }).get? D = some (seqObj "list" #[] e1):=yAC _ hD2';have hK3 : (s2.heap.push { cls := .type "list",data := .seq ([] : List Value).toArray }).get? kS = some (seqObj "list" ([] : List Value).toArray 0):=by rw [<- hkS]; exact yAS _ rfl
 generalize hs3 : ({ s2 with heap:=s2.heap.push { cls := .type "list",data := .seq ([] : List Value).toArray } } : Shared) = s3 at I3;have hD3' : s3.heap.get? D = some (seqObj "list" #[] e1):=by rw [<- hs3]; exact hD3
 have hK3' : s3.heap.get? kS = some (seqObj "list" ([] : List Value).toArray 0):=by rw [<- hs3]; exact hK3
 refine yBa ?_
 have pin2 : ∀ {H' : Hp} {ks : List Value} {e : Nat} {s' : Shared} {pl : List (Addr × Obj)}, Inv X (pins ++ pl) σ H' s' -> s'.heap.get? D = some (seqObj "list" #[] e1) -> H' D = none -> s'.heap.get? kS = some (seqObj "list" ks.toArray e) -> H' kS = none ->
   Inv X (pins++[(D,seqObj "list" #[] e1),(kS,seqObj "list" ks.toArray e)]) σ H' s':=λ{H' ks e s' pl} I' h1 h2 h3 h4=>I'.pins_of λp hp=>by
  rcases yAa.mp hp with z | z
  ·exact I'.pin p (yAP _ (yBj _ z))
  ·rcases yAb.mp z with rfl | z
   ·exact ⟨h1,h2,fD.2.1,fD.2.2.1,λv q=>by cases q⟩
   ·rcases yAb.mp z with rfl | z
    ·exact ⟨h3,h4,fK.2.1,fK.2.2.1,λv q=>by cases q⟩
    ·cases z
 have I4 : Inv X (pins++[(D,seqObj "list" #[] e1),(kS,seqObj "list" ([] : List Value).toArray 0)]) σ H s3:=pin2 (pl:=[]) (by simpa using I3) hD3' fD.1 hK3' fK.1
 (try rw [hs3]); (try rw [hkS])
 unfold ksk_rest;refine yAD (yDI ?_)
 first
  | rw [List.forIn_toArray]
  | (rw [<- Array.forIn_toList]; simp only [List.toList_toArray])
 refine yAD (ksk_fold (λi s'=>∃ H' ks e,Inv X (pins++[(D,seqObj "list" #[] e1),(kS,seqObj "list" (List.toArray ks) e)]) σ H' s'/\Same H H'/\KeysTo kd X.K H' kf xs ks i) its 0 s3 ⟨H,[],0,I4,Same.refl _,rfl,λj hj=>absurd hj (Nat.not_lt_zero j)⟩ (λj u s' hu hJ => ?_) λs' hd => ?_)
 ·obtain ⟨H', ks, e, I', g, kt⟩ := hJ
  rw [yDQ] at kt ⊢;have hjl : j < xs.length:=by rw [hlen]; exact (yAI.mp hu).1
  have hx : xs[j]? = some xs[j]:=yAA hjl;obtain ⟨u',hu',ru⟩:=rv.get hx;rw [hu] at hu'
  cases hu'
  have hg : xs.getD j .non = xs[j]:=by simp [hjl]
  have hkl:=kt.len;refine yAD (wpAny_attempt (yBO (zSA (E:=λ_ _=>False) F hr hb I' ru (hk xs[j] (yAn hjl) H' g)) (λr s'' q => ?_) λ_ _ z=>z.elim));obtain ⟨v,H3,I3',rv3,g3,dv⟩:=q;obtain ⟨ds,eds⟩:=KF.tup (kf xs[j]);obtain ⟨a,rfl⟩:=DV.tup_ref (eds ▸ dv)
  cases rv3
  have pD:=I3'.pin (D,seqObj "list" #[] e1) (yAP _ (yAP _ (yAR ..)));have pK:=I3'.pin (kS,seqObj "list" ks.toArray e) (yAP _ (yAP _ (yAO _ (yAR ..))));refine yAD (yDf pK.1 rfl ?_ (by rw [yAH]; lia) (by rw [Array.size_push,yAH]; lia))
  have I5 : Inv X (pins ++ [(D, seqObj "list" #[] e1)]) σ H3 s'' := I3'.pins_of fun p hp => I3'.pin p (yAP _ (by
   rcases yAa.mp hp with z | z
   ·exact yBj _ z
   ·exact yAP _ (by
     rcases yAb.mp z with rfl | z
     ·exact yAR ..
     ·cases z)))
  have I6 : Inv X (pins ++ [(D, seqObj "list" #[] e1)]) σ H3 { s'' with heap := s''.heap.update kS (Obj.mapSeq (·.push (.ref a))) } := I5.turned (t' := s''.toks) (fun b o hb' e' => by rw [yBY _ _ _ _ hb']; exact e') pK.2.1 fK.2.1 fK.2.2.2.1 fK.2.2.2.2.1 (fun p hp => by
   rcases yAa.mp hp with z | z
   ·exact fK.2.2.2.2.2 p (yBj _ z)
   ·rcases yAa.mp z with z | z
    ·exact fK.2.2.2.2.2 p (yAP _ z)
    ·rcases yAb.mp z with rfl | z
     ·exact hne.symm
     ·cases z)
  have ea : ks.toArray.push (.ref a) = (ks++[Value.ref a]).toArray:=by simp
  have hK7:=yDm pK.1 (·.push (Value.ref a));rw [ea] at hK7;refine yAW ⟨rfl,H3,ks++[.ref a],_,pin2 (pl:=[(D,seqObj "list" #[] e1)]) I6 (by rw [yBY _ _ _ _ hne.symm]; exact pD.1) pD.2.1 hK7 pK.2.1,g.trans g3,by rw [yAX,hkl]; rfl,λi hi => ?_⟩
  by_cases hij : i < j
  ·obtain ⟨b, hb1, hb2⟩ := kt.at' i hij
   exact ⟨b,by rw [yBR (by lia)]; exact hb1,hb2.mono g3⟩
  ·have ei : i = j := by lia
   subst ei;exact ⟨a,by rw [yBP (by lia),hkl]; simp,by rw [hg]; exact dv⟩
 ·rw [yDQ] at hd
  obtain ⟨H',ks,e,I',g,kt⟩:=hd;rw [<- hlen] at kt;have pK:=I'.pin (kS,seqObj "list" ks.toArray e) (yAP _ (yAP _ (yAO _ (yAR ..))));refine yAD (listItems_at pK.1 rfl ?_);exact zS4 KF hkf hr rv h64 I' fD sD fK hne g kt
noncomputable def zUW (kd : Int × List Int -> PyData) (K : PySem.W.Frag) (kf : V -> Int × List Int) (sp : Sp) (te : TE) : TE := fun σ H Q => te σ H fun x H1 => ∃ a xs, x = .ref a /\ (SqL K H1 a xs \/ SqT K H1 a xs) /\ xs.length <= 100000 /\
 (∀ y∈xs,∀ H2,Same H1 H2 -> sp [y] H2 (λv H3=>Same H2 H3/\DV K H3 v (kd (kf y))) E0) /\
 ∀ D H2 ys,H1 D = none -> Same H1 H2 -> H2 D = some (.lst ys) -> ys.Perm xs -> ys.Pairwise (λa b=>zCK (kf b) (kf a) = false) -> Q (.ref D) H2
theorem zU0 (KF : KForm X kd okk KA) (hkf : ∀ x, okk (kf x)) {e : Expr} {te : TE} {fn : Str} {p kp1 kp2 pos : Pos} (F : FnOk X.prog X.w X.K X.mg X.base CX0 k f fd [pn] sp) (hr : Room (k + 2) X.A) (hb : Binds X.K fd [pn] []) (hgs : Gl X "sorted") (hms : X.mg "sorted" = none) (hg : Gl X fn) (hm : X.mg fn = some (.ref f)) (he : PE X e te)
  (hdb : (fn == ("__debug__" : Str)) = false:=by decide) (hs : starEach [e] X.env = [(false,eval e X.env)]:=by rfl) :
  PE X (.Call (.Name "sorted" p) [e] [⟨some "key",.Name fn kp1,kp2⟩] pos) (zUW kd X.K kf sp te):=by
 intro pins s σ H Q I h;refine yBs (zE2 I hgs hms boot_sorted ?_)
 refine callWith_kw (thn (zA0 (e := e) (es := []) he zA1 hs pos pins s σ H (fun vs H1 => match vs with
  | [x] => ∃ a xs, x = .ref a /\ (SqL X.K H1 a xs \/ SqT X.K H1 a xs) /\ xs.length <= 100000 /\ (∀ y ∈ xs, ∀ H2, Same H1 H2 -> sp [y] H2 (fun v H3 => Same H2 H3 /\ DV X.K H3 v (kd (kf y))) E0) /\
    ∀ D H2 ys,H1 D = none -> Same H1 H2 -> H2 D = some (.lst ys) -> ys.Perm xs -> ys.Pairwise (λa b=>zCK (kf b) (kf a) = false) -> Q (.ref D) H2
  | _=>False) I h) λus s1 ⟨vs,H1,I1,r1,q1⟩ => ?_) (by rw [hs]; rfl) (by rw [hs]; rfl)
 match vs,q1,r1 with
 | [x],q1,r1 =>
  obtain ⟨a,xs,rfl,hq,h64,hkey,q⟩:=q1;obtain ⟨u,rfl,ru⟩:=zDN r1
  cases ru
  refine kws_cons (zCY I1 hg hm (kws_nil ?_) hdb);show wpAny _ _ (call (.builtin "sorted") [.ref a] [(Str.ofString "key",.ref f)]) _ _ s1;have s64 : 100000 <= sizeLine:=by decide
  obtain ⟨T, o, its, n, hT, ho, hc, hd, rv⟩ : ∃ T o its n, (T = "list" \/ T = "tuple") /\ s1.heap.get? a = some o /\ o.cls = .type T /\ o.data = .seq (List.toArray its) n /\ Vals xs its := by
   rcases hq with hq | hq
   ·obtain ⟨its, r', pl, hz⟩ := I1.list hq
    obtain ⟨o,ho,hc,n,hd⟩:=pl.isList;exact ⟨_,o,its,n,.inl rfl,ho,hc,hd,r'⟩
   ·obtain ⟨its, r', pl, hz⟩ := I1.tuple hq
    obtain ⟨o,ho,hc,n,hd⟩:=pl;exact ⟨_,o,its,n,.inr rfl,ho,hc,hd,r'⟩
  have hlen:=rv.length;refine call_function_entry_kw kind_sorted plain_sorted entry_sorted (ksk_s1 _ _) ?_;unfold Builtin.«sorted»;refine yAD (m:=checkCount "sorted" 1 1 _) (yAW ?_);refine yAD (zKT hT ho hc hd (λh2 hk2 => ?_) (by lia));have I2 : Inv X pins σ H1 { s1 with heap:=h2 }:=I1.kept (t':=s1.toks) hk2;refine yAD (wpAny_newList ?_ (by lia));have I3 : Inv X pins σ H1 { s1 with heap:=h2.push { cls := .type "list",data := .seq its.toArray } }:=I2.kept (h':=h2.push { cls := .type "list",data := .seq its.toArray }) (t':=s1.toks) λb u e=>yAC _ e;have fD : zGL X pins H1 h2.objs.size:=I2.fpOk (yAE _) I2.fresh;have hD3 : (h2.push { cls := .type "list",data := .seq its.toArray }).get? h2.objs.size = some (seqObj "list" its.toArray 0):=yAS _ rfl;refine yAD (yBa (wpAny_call_entry_kw slot_list_sort ⟨_,hD3,rfl⟩ entry_list_sort ?_ (ksk_l1 _ _)));rw [ksk_t1];refine yBO (zP0 KF hkf (E:=X.xe) F hr hb I3 hD3 fD I2.sz rv h64 hkey) (λfin s' hfin => ?_) λ_ _ z=>z;obtain ⟨rfl,H',ys,I',g,hD',hp,hs'⟩:=hfin;refine ⟨_,rfl,yAW ⟨_,rfl,.ref h2.objs.size,_,I',rfl,q _ _ ys I2.fresh (g.trans λb u e => ?_) zA2 hp hs'⟩⟩;rw [zA6 (zA5 e hD')];exact e
noncomputable def za4 (K : PySem.W.Frag) (kf : V -> Int × List Int) (sp : Sp) (te : TE) : TE:=zUW za8 K kf sp te
theorem zSV {e : Expr} {te : TE} {fn : Str} {p kp1 kp2 pos : Pos} (F : FnOk X.prog X.w X.K X.mg X.base CX0 k f fd [pn] sp) (hr : Room (k + 2) X.A) (hb : Binds X.K fd [pn] []) (hgs : Gl X "sorted") (hms : X.mg "sorted" = none) (hg : Gl X fn) (hm : X.mg fn = some (.ref f)) (he : PE X e te)
  (hdb : (fn == ("__debug__" : Str)) = false:=by decide) (hs : starEach [e] X.env = [(false,eval e X.env)]:=by rfl) :
  PE X (.Call (.Name "sorted" p) [e] [⟨some "key",.Name fn kp1,kp2⟩] pos) (za4 X.K kf sp te) :=
 zU0 (KA:=KeyAt X) (okk:=λ_=>True) ⟨λ_=>⟨_,rfl⟩,λI d r _=>zY3 I d r,λq=>let ⟨a,b,t,o,k,_,_,h1,h2,h3,h4,_⟩:=q.ex; ⟨a,b,t,o,k,h1,h2,h3,h4⟩,λh a b c=>zWX h a b c⟩ (λ_=>trivial) F hr hb hgs hms hg hm he hdb hs
end
noncomputable def Its (z : Str) : It:=⟨λi _=>i < z.cps.size,λi H x H'=>H' = H/\∃ c,z.cps[i]? = some c/\x = .str ⟨#[c]⟩,λi _=>z.cps.size <= i⟩
theorem zTN {P : Program} {w : World} {K : PySem.W.Frag} {y : Str} {py : Pos} (z : Str) (it : Addr) (tn : Nat -> Heap -> Prop) (ob : ∀ i h, tn i h -> ∃ o, h.get? it = some o /\ ∀ v, o.data ≠ .cell v)
  (W : ∀ A' : Around,A'.handled = none -> Walks P w A' it [it] [it] z.cps.size (SignAt z) tn) (sf : ∀ (A : Around) (i : Nat) (s : Shared) (Q : Value -> Shared -> Prop) (E : Value -> Shared -> Prop),tn i s.heap -> Q (.ref it) s -> wpAny (model P w) A (pyIter (.ref it)) Q E s)
  (le : ∀ i h,tn i h -> True) : Turn P w K (.Name y py) (Its z) [it] it (λi h=>tn i h/\i <= z.cps.size) where
 mem:=by simp
 obj := fun i h st b hb => by
  have e : b = it:=by simpa using hb
  subst e;exact ob i h st.1
 keep:=λi h h' st k=>⟨(W {} rfl).frame i h h' st.1 λb hb o e=>k b hb o e,st.2⟩
 item := by
  intro X hP hw hK hc i pins s σ H E I hf st hg;subst hP hw hK;obtain ⟨f0,f1,f2,f3,f4,f5⟩:=hf it (by simp);refine (W X.A (I.ok.hd hc)).item i s _ E hg st.1 λv h' tk hv st' hk => ?_;obtain ⟨c,u,hc',rfl⟩:=hv;have I1 : Inv X pins σ H { s with heap:=h',toks:=tk }:=I.turned (t':=tk) (λb o hb e=>hk b o (by simpa using hb) e) f0 f1 f3 f4 f5;exact ⟨_,rfl,yAW ⟨.str ⟨#[c]⟩,H,I1,⟨_,rfl⟩,⟨rfl,c,hc',rfl⟩,⟨st',hg⟩,λb hb=>(hf b hb).1⟩⟩
 done := by
  intro X hP hw hK hc i pins s σ H E I hf st hg;subst hP hw hK;obtain ⟨f0,f1,f2,f3,f4,f5⟩:=hf it (by simp);have e : i = z.cps.size:=Nat.le_antisymm st.2 hg;have st1:=st.1;rw [e] at st1;exact (W X.A (I.ok.hd hc)).done s _ E st1 λh' tk hk=>⟨rfl,I.turned (t':=tk) (λb o hb e=>hk b o (by simpa using hb) e) f0 f1 f3 f4 f5⟩
 self:=λA i s Q E st h=>sf A i s Q E st.1 h
section
variable {X : Cx}
noncomputable def zd1 (tl : TE) : TI:=λσ H R=>tl σ H λx H1=>∃ z,x = .str z/\R (Its z) H1
theorem zV1 {l : Expr} {tl : TE} {y : Str} {py : Pos} (hl : PE X l tl) : PI X (.Name y py) l (zd1 tl) := by
 intro pins s σ H R I h;refine thn (hl pins s σ H _ I h) λv s1 ⟨x,H1,I1,r1,q1⟩ => ?_;obtain ⟨z,e,q⟩:=q1;subst e;obtain ⟨t,rfl⟩:=r1
 have fin : ∀ (ty : String) (o : Obj), o = { cls := .type ty, data := .fields #[.str z t, rawInt 0] } -> (∀ A' : Around, A'.handled = none -> Walks X.prog X.w A' s1.heap.objs.size [s1.heap.objs.size] [s1.heap.objs.size] z.cps.size (SignAt z) (fun i h => h.IsStrIter s1.heap.objs.size ty z t i)) ->
   (∀ (A : Around) (i : Nat) (s : Shared) (Q : Value -> Shared -> Prop) (E : Value -> Shared -> Prop),s.heap.IsStrIter s1.heap.objs.size ty z t i -> Q (.ref s1.heap.objs.size) s -> wpAny (model X.prog X.w) A (pyIter (.ref s1.heap.objs.size)) Q E s) -> (s1.heap.push o).IsStrIter s1.heap.objs.size ty z t 0 ->
   PIE X pins σ (.Name y py) R (.ref s1.heap.objs.size) { s1 with heap:=s1.heap.push o }:=λty o ho W sf st=>by
  refine ⟨s1.heap.objs.size,[s1.heap.objs.size],_,_,H1,rfl,I1.kept (t':=s1.toks) λb o e=>yAC _ e,zTN z _ _ (λi h hst => ?_) W sf (λ_ _ _=>trivial),⟨st,yBL _⟩,λb hb => ?_,q⟩
  ·obtain ⟨o, e, c, d⟩ := hst
   exact ⟨o,e,λv zz=>by rw [d] at zz; cases zz⟩
  ·have e : b = s1.heap.objs.size := by simpa using hb
   subst e;exact I1.fpOk (yAE _) (I1.hok.fresh (yAE _))
 cases ha : z.cps.all (· < 128)
 ·exact wpAny_pyIter_wide ha (fin "str_iterator" _ rfl (λA' hA=>Walks.strWide hA _ z t) (λA i s Q E st h=>wpAny_pyIter_striter_wide st h) ⟨_,yAS _ rfl,rfl,rfl⟩)
 ·exact wpAny_pyIter_ascii ha (fin "str_ascii_iterator" _ rfl (λA' hA=>Walks.strAscii hA _ z t) (λA i s Q E st h=>wpAny_pyIter_striter_ascii st h) ⟨_,yAS _ rfl,rfl,rfl⟩)
theorem zMT {bs : List Bool} {us : List Value} (r : Vals (bs.map V.bl) us) (i : Nat) (v : Value) (h : us[i]? = some v) : v = .bool (bs.getD i true) := by
 have hl:=r.length;rw [yAB] at hl;have hi : i < bs.length:=by rw [hl]; exact (yAI.mp h).1
 obtain ⟨u,hu,ru⟩:=r.get (i:=i) (x := .bl bs[i]) (by rw [yAe,yAA hi]; rfl);rw [h] at hu
 cases hu
 have : v = .bool bs[i]:=ru;rw [this]
 simp [hi]
theorem zR8 (bs : List Bool) : ((List.range bs.length).all fun i => bs.getD i true) = bs.all id := by
 have:=zGX bs true
 conv=>rhs; rw [<- this]
 rw [List.all_map]; rfl
noncomputable def zcA (K : PySem.W.Frag) : List V -> Hp -> VK -> Prop:=λxs H Q=>∃ (p : Addr) (bs : List Bool),xs = [.ref p]/\SqL K H p (bs.map V.bl)/\Q (.bl (bs.all id)) H
theorem zI2 (hc : X.calm = true) : zCW X (.builtin "all") (zcA X.K) := by
 intro pins s σ H xs us Q I r h;obtain ⟨p,bs,rfl,hq,q⟩:=h;obtain ⟨u,rfl,ru⟩:=zDN r
 cases ru
 obtain ⟨its,rv,pl,hz⟩:=I.list hq;have hl:=rv.length;rw [yAB] at hl;have hh : X.A.in1.handled = none:=I.ok.hd hc;have hlt : p < s.heap.objs.size:=by obtain ⟨o,n,e,_⟩:=pl; exact yAJ e
 refine call_all_walk (yCH pl.isList ?_);refine ⟨s.heap.objs.size,_,_,_,_,_,λi=>bs.getD i true,rfl,Walks.list hh s.heap.objs.size p (yAi hlt) its.toArray,⟨⟨_,yAS _ rfl,rfl,rfl⟩,pl.isList.push _⟩,λi v s' Q' E' hP hq' => ?_,λh' tk hk => ?_⟩
 ·have : v = .bool (bs.getD i true) := zMT rv i v (by simpa using hP)
  subst this;exact yBZ hq'
 ·rw [yAH, <- hl, zR8]
  refine ⟨.bl (bs.all id),H,I.kept (t':=tk) λb o e => ?_,rfl,q⟩;exact hk b o (λzz=>by have e2:=yAJ e; rw [yAF.mp zz] at e2; exact yBV _ e2) (yAC _ e)
theorem zIL : ∀ {ys : List Str} {us : List Value}, Vals (ys.map V.str) us -> StrsAre us ys
 | [],_,.nil => .nil
 | y::r,_,.cons h t=>by
  obtain ⟨tk,rfl⟩:=h;exact .cons y tk (zIL t)
theorem zQP (z : Str) (l u : Option Int) : (Txt.slice z l u).length <= z.length := by
 unfold Txt.slice
 split
 ·exact yAE _
 ·show (((Builtin.Str.strSliceIndices l u 1 z.length).filterMap (z.cps[·]?)).toArray).size <= _
  rw [yAH];exact yAk (List.length_filterMap_le _ _) (sliceIndices_le l u z.length)
noncomputable def zcE : V -> Option Int -> Option Int -> Hp -> VK -> Prop:=λx lo hi H Q=>∃ z,x = .str z/\z.length <= sizeLine/\Q (.str (Txt.slice z lo hi)) H
theorem zUX : SlR X zcE := by
 intro pins s σ H x v vl vu lo hi sl Q I rx hs pl pu h;obtain ⟨z,rfl,hz,q⟩:=h;obtain ⟨t,rfl⟩:=rx;refine ⟨"str",_,F.slot_str_getitem.lookup,typeIs_str _ _ _,?_⟩;obtain ⟨o,ho,hc,hd⟩:=hs
 have fin : ∀ (l u : Option (Int × Tok)), l.map (·.1) = lo -> u.map (·.1) = hi -> vl = partValue l -> vu = partValue u -> wpAny (model X.prog X.w) X.A (getItem (.str z t) (.ref sl)) (EP X pins σ Q) X.xe s := fun l u h1 h2 e1 e2 => by
  subst h1 h2 e1 e2;refine wpAny_getItem_str_slice (l:=l) (u:=u) (st:=none) ⟨o,ho,hc,hd⟩ rfl ?_;have hl:=zQP z (l.map (·.1)) (u.map (·.1));unfold sliceMade;unfold Txt.slice at q hl;have e0 : slicePicked z l u none = Builtin.Str.strSliceIndices (l.map (·.1)) (u.map (·.1)) 1 z.length:=rfl;rw [e0]
  by_cases c : ((1 : Int) == 1&&(Builtin.Str.strSliceIndices (l.map (·.1)) (u.map (·.1)) 1 z.length).length == z.length) = true
  ·have c' : (((Option.none : Option (Int × Tok)).map (·.1)).getD 1 == 1 && (Builtin.Str.strSliceIndices (l.map (·.1)) (u.map (·.1)) 1 z.length).length == z.length) = true := c
   rw [yAQ c] at q;rw [yAQ c'];exact ⟨.str z,H,I,⟨_,rfl⟩,q⟩
  ·have c' : ¬ (((Option.none : Option (Int × Tok)).map (·.1)).getD 1 == 1 && (Builtin.Str.strSliceIndices (l.map (·.1)) (u.map (·.1)) 1 z.length).length == z.length) = true := c
   rw [yAN c] at q hl;rw [yAN c'];exact ⟨yAk hl hz,.str _,H,I.tok _,⟨_,rfl⟩,q⟩
 cases pl with
 | none=>cases pu with
  | none=>exact fin none none rfl rfl rfl rfl
  | int j tj=>exact fin none (some (j,tj)) rfl rfl rfl rfl
 | int i ti=>cases pu with
  | none=>exact fin (some (i,ti)) none rfl rfl rfl rfl
  | int j tj=>exact fin (some (i,ti)) (some (j,tj)) rfl rfl rfl rfl
end
theorem zY7 {P : Program} {w : World} {k : Key} {u : Value} (h : (zAI P w).is k u = true) : RelV (kV k) u := by
 rcases k with i | x
 ·cases u <;> first | (cases h; done) | skip
  rename_i j t
  have : j = i:=by simpa [zAI,zHZ,Value.isInt] using h
  subst this;exact ⟨_,rfl⟩
 ·cases u <;> first | (cases h; done) | skip
  rename_i j t
  have : j = x:=by simpa [zAI,zHZ,Value.isStrOf] using h
  subst this;exact ⟨_,rfl⟩
theorem zIT {P : Program} {w : World} : ∀ {kvs : List (Key × V)} {vs : List (Key × Value)} {us : List Value}, KV kvs vs -> us.length = vs.length -> (∀ (i : Nat) v, us[i]? = some v -> ∃ k x, vs[i]? = some (k, x) /\ (zAI P w).is k v = true) -> Vals (kvs.map fun kv => kV kv.1) us
 | _,_,[],.nil,_,_ => .nil
 | _,_,_::_,.nil,h,_=>by cases h
 | _,_,[],.cons _ _,h,_=>by cases h
 | _,_,u::us,.cons r t,h,f=>by
  obtain ⟨k,x,e,hk⟩:=f 0 u rfl
  cases e
  refine .cons ?_ (zIT t (by simpa using h) λi v hv=>f (i + 1) v hv);show RelV (kV _) u;rw [r.1];exact zY7 hk
theorem zNR {X : Cx} (hc : X.calm = true) : zCW X (.type "list") (fun xs H Q => ∃ p kvs, xs = [.ref p] /\ H p = some (.dK kvs) /\ ∀ l, H l = none -> Q (.ref l) (upd H l (.lst (kvs.map fun kv => kV kv.1)))) := by
 intro pins s σ H xs us Q I r h;obtain ⟨p,kvs,rfl,hp,q⟩:=h;obtain ⟨u,rfl,rx⟩:=zDN r
 cases rx
 obtain ⟨z,hd,vs,rel,dd⟩:=zWH I.hok hp;obtain ⟨ep,da⟩:=dd.dictAt;have hl:=rel.length;refine PySem.W.kdl_call (PySem.W.kdl_dict (knd:=zAI X.prog X.w) (kvs:=vs) (ep:=ep) hd) (I.ok.hd hc) da (by lia) λh' tk acc c hk hS hacc => ?_;have hv : Vals (kvs.map λkv=>kV kv.1) acc.toList:=zIT rel (by rw [yBI]; exact hacc.1) λi v e=>hacc.2 i v (by rw [<- yBN]; exact e);refine ⟨.ref s.heap.objs.size,_,I.laid (a:=s.heap.objs.size) (o := .lst (kvs.map λkv=>kV kv.1)) (t':=tk) hk (yAE _) ⟨by rw [yAB]; exact z,acc.toList,c,hv,by rw [Array.toArray_toList]; exact hS⟩,rfl,q _ (I.hok.fresh (yAE _))⟩
noncomputable def At1 (a : Addr) (H H' : Hp) : Prop:=∀ o,H a = some o -> H' a = some o
theorem Same.at1 {H H' : Hp} (g : Same H H') (a : Addr) : At1 a H H':=λo h=>g a o h
theorem SqL.at1 {K : PySem.W.Frag} {H H' : Hp} {a : Addr} {xs : List V} (e : At1 a H H') (h : SqL K H a xs) : SqL K H' a xs := by
 rcases h with (h | ⟨o,h⟩) | h
 ·exact .inl (.inl (e _ h))
 ·exact .inl (.inr ⟨o,e _ h⟩)
 ·exact .inr h
theorem SqT.at1 {K : PySem.W.Frag} {H H' : Hp} {a : Addr} {xs : List V} (e : At1 a H H') (h : SqT K H a xs) : SqT K H' a xs := by
 rcases h with (h | ⟨o,h⟩) | h
 ·exact .inl (.inl (e _ h))
 ·exact .inl (.inr ⟨o,e _ h⟩)
 ·exact .inr h
noncomputable abbrev Sq (K : PySem.W.Frag) (H : Hp) (a : Addr) (xs : List V) : Prop:=SqL K H a xs \/ SqT K H a xs
theorem Sq.at1 {K : PySem.W.Frag} {H H' : Hp} {a : Addr} {xs : List V} (e : At1 a H H') (h : Sq K H a xs) : Sq K H' a xs:=h.imp (SqL.at1 e) (SqT.at1 e)
theorem zEQ {K : PySem.W.Frag} {g : TG} {tb : TS} {D : Ends} {σ : St} {H1 : Hp} {a : Addr} {ys : List V} (sq : Sq K H1 a ys) (Pv : Nat -> St -> Hp -> Prop) (h0 : Pv 0 σ H1) (hk : ∀ i σ H', Pv i σ H' -> At1 a H1 H')
  (hs : ∀ i σ H' x,i < ys.length -> ys[i]? = some x -> Pv i σ H' -> g x σ H' λσ2 H2=>tb { D with nx:=Pv (i + 1),ct:=Pv (i + 1),bk:=D.nx } σ2 H2) (hd : ∀ σ H',Pv ys.length σ H' -> D.nx σ H') :
  (∃ xs, SqL K H1 a xs) /\ (∃ W : Nat -> Nat -> St -> Hp -> Prop, (∃ m, W 0 m σ H1) /\ ∀ i m σ H, W i m σ H ->
   ((Itl K a).stop i H/\D.nx σ H) \/ ((Itl K a).go i H/\∃ N : St -> Hp -> Prop,(∀ σ' H',N σ' H' -> ∃ m',m' < m/\W (i + 1) m' σ' H')/\∀ x H',(Itl K a).yld i H x H' -> g x σ H' λσ2 H2=>tb { D with nx:=N,ct:=N,bk:=D.nx } σ2 H2)) \/
  (∃ xs, SqT K H1 a xs) /\ (∃ W : Nat -> Nat -> St -> Hp -> Prop, (∃ m, W 0 m σ H1) /\ ∀ i m σ H, W i m σ H ->
   ((Itt K a).stop i H/\D.nx σ H) \/ ((Itt K a).go i H/\∃ N : St -> Hp -> Prop,(∀ σ' H',N σ' H' -> ∃ m',m' < m/\W (i + 1) m' σ' H')/\∀ x H',(Itt K a).yld i H x H' -> g x σ H' λσ2 H2=>tb { D with nx:=N,ct:=N,bk:=D.nx } σ2 H2)):=by
 rcases sq with sq | sq
 ·refine .inl ⟨⟨_, sq⟩, zGY ys.length Pv h0 (fun i σ H' hi hP => ⟨ys, ys[i], SqL.at1 (hk _ _ _ hP) sq, by simp [hi]⟩) (fun σ H' hP => ⟨ys, SqL.at1 (hk _ _ _ hP) sq, yAE _⟩) (fun i σ H' x H2 hi hP y => ?_) hd⟩
  obtain ⟨rfl,hx⟩:=y;exact hs i σ _ x hi (hx ys (SqL.at1 (hk _ _ _ hP) sq)) hP
 ·refine .inr ⟨⟨_, sq⟩, zGY ys.length Pv h0 (fun i σ H' hi hP => ⟨ys, ys[i], SqT.at1 (hk _ _ _ hP) sq, by simp [hi]⟩) (fun σ H' hP => ⟨ys, SqT.at1 (hk _ _ _ hP) sq, yAE _⟩) (fun i σ H' x H2 hi hP y => ?_) hd⟩
  obtain ⟨rfl,hx⟩:=y;exact hs i σ _ x hi (hx ys (SqT.at1 (hk _ _ _ hP) sq)) hP
theorem zCR {K : PySem.W.Frag} {o0 : HO} {xs : List Str} {fv : List (Str × Nat)} {g : TG} {tt : TT} {tb : TB} {σ : St} {H1 : Hp} {Q : VK} {a : Addr} {ys : List V} (sq : Sq K H1 a ys) (Pv : Nat -> Addr -> Hp -> Prop) (h0 : ∀ D, H1 D = none -> Pv 0 D (upd H1 D o0))
  (hk : ∀ i D H',H1 D = none -> Pv i D H' -> At1 a H1 H')
  (hs : ∀ i D H' x,H1 D = none -> i < ys.length -> ys[i]? = some x -> Pv i D H' -> g x (ρT xs fv σ) H' λσ2 H2=>zI5 xs (ρT xs fv σ) σ2/\tt σ2 H2 λb H3=>if b = true then tb D σ2 H3 (Pv (i + 1) D) else Pv (i + 1) D H3)
  (hd : ∀ D H',H1 D = none -> Pv ys.length D H' -> Q (.ref D) H') :
  (∃ xs,SqL K H1 a xs)/\zCG o0 xs fv g tt tb σ (Itl K a) H1 Q \/ (∃ xs,SqT K H1 a xs)/\zCG o0 xs fv g tt tb σ (Itt K a) H1 Q:=by
 rcases sq with sq | sq
 ·refine .inl ⟨⟨_, sq⟩, zBW ys.length Pv h0 (fun i D H' hD hi hP => ⟨ys, ys[i], SqL.at1 (hk _ _ _ hD hP) sq, by simp [hi]⟩) (fun D H' hD hP => ⟨ys, SqL.at1 (hk _ _ _ hD hP) sq, yAE _⟩) (fun i D H' x H2 hD hi hP y => ?_) hd⟩
  obtain ⟨rfl,hx⟩:=y;exact hs i D _ x hD hi (hx ys (SqL.at1 (hk _ _ _ hD hP) sq)) hP
 ·refine .inr ⟨⟨_, sq⟩, zBW ys.length Pv h0 (fun i D H' hD hi hP => ⟨ys, ys[i], SqT.at1 (hk _ _ _ hD hP) sq, by simp [hi]⟩) (fun D H' hD hP => ⟨ys, SqT.at1 (hk _ _ _ hD hP) sq, yAE _⟩) (fun i D H' x H2 hD hi hP y => ?_) hd⟩
  obtain ⟨rfl,hx⟩:=y;exact hs i D _ x hD hi (hx ys (SqT.at1 (hk _ _ _ hD hP) sq)) hP
theorem zRD {K : PySem.W.Frag} {o0 : HO} {xs : List Str} {fv : List (Str × Nat)} {g : TG} {tt : TT} {tb : TB} {σ : St} {H1 : Hp} {Q : VK} {a : Addr} {ys : List V} (sq : Sq K H1 a ys) (Pv : Nat -> Addr -> Hp -> Prop) (h0 : ∀ D, H1 D = none -> Pv 0 D (upd H1 D o0))
  (hk : ∀ i D H',H1 D = none -> Pv i D H' -> At1 a H1 H')
  (hs : ∀ i D H' x r,H1 D = none -> i < ys.length -> ys[i]? = some x -> Pv i D H' -> H' r = none -> g (.ref r) (ρT xs fv σ) (upd H' r (.tup [.int (i : Nat),x])) λσ2 H2=>zI5 xs (ρT xs fv σ) σ2/\tt σ2 H2 λb H3=>if b = true then tb D σ2 H3 (Pv (i + 1) D) else Pv (i + 1) D H3)
  (hd : ∀ D H',H1 D = none -> Pv ys.length D H' -> Q (.ref D) H') :
  (∃ xs,SqL K H1 a xs)/\zCG o0 xs fv g tt tb σ (Ite K a) H1 Q \/ (∃ xs,SqT K H1 a xs)/\zCG o0 xs fv g tt tb σ (zVO K a) H1 Q:=by
 rcases sq with sq | sq
 ·refine .inl ⟨⟨_, sq⟩, zBW ys.length Pv h0 (fun i D H' hD hi hP => ⟨ys, ys[i], SqL.at1 (hk _ _ _ hD hP) sq, by simp [hi]⟩) (fun D H' hD hP => ⟨ys, SqL.at1 (hk _ _ _ hD hP) sq, rfl⟩) (fun i D H' x H2 hD hi hP y => ?_) hd⟩
  obtain ⟨r,x,hr,rfl,hx,rfl⟩:=y;exact hs i D _ x r hD hi (hx ys (SqL.at1 (hk _ _ _ hD hP) sq)) hP hr
 ·refine .inr ⟨⟨_, sq⟩, zBW ys.length Pv h0 (fun i D H' hD hi hP => ⟨ys, ys[i], SqT.at1 (hk _ _ _ hD hP) sq, by simp [hi]⟩) (fun D H' hD hP => ⟨ys, SqT.at1 (hk _ _ _ hD hP) sq, rfl⟩) (fun i D H' x H2 hD hi hP y => ?_) hd⟩
  obtain ⟨r,x,hr,rfl,hx,rfl⟩:=y;exact hs i D _ x r hD hi (hx ys (SqT.at1 (hk _ _ _ hD hP) sq)) hP hr
theorem zNT {o0 : HO} {xs : List Str} {fv : List (Str × Nat)} {g : TG} {tt : TT} {tb : TB} {σ : St} {H1 : Hp} {Q : VK} {lo : Int} {n : Nat} (Pv : Nat -> Addr -> Hp -> Prop) (h0 : ∀ D, H1 D = none -> Pv 0 D (upd H1 D o0))
  (hs : ∀ i D H',H1 D = none -> i < n -> Pv i D H' -> g (.int (lo + i)) (ρT xs fv σ) H' λσ2 H2=>zI5 xs (ρT xs fv σ) σ2/\tt σ2 H2 λb H3=>if b = true then tb D σ2 H3 (Pv (i + 1) D) else Pv (i + 1) D H3)
  (hd : ∀ D H',H1 D = none -> Pv n D H' -> Q (.ref D) H') : zCG o0 xs fv g tt tb σ (Itr lo n) H1 Q:=by
 refine zBW n Pv h0 (λi D H' hD hi hP=>hi) (λD H' hD hP=>yAE _) (λi D H' x H2 hD hi hP y => ?_) hd;obtain ⟨rfl,rfl⟩:=y;exact hs i D _ hD hi hP
end L2
namespace L2E
open PySem
section
variable {h : Heap} {g : Array GenState} {d : Drawn} {t : Nat} {os : OsState} {prog : Program} {w : World} {A : Around} {E : Value -> Shared -> Prop}
variable {nm q : Str} {C N : Addr} {bs bm bmN : List Value} {hdct : Bool} {sn : List Str} {sub : List Value} {ab : Bool} {col : Option Bool} {dd : Option Addr} {k0 k1 k2 k3 k5 : Option Value} {Bn newId inN : String}
structure Tail (bm : List Value) (Bn : String) : Prop where
 base : bm.contains (.type Bn) = true
 attr : bm.contains (.type "AttributeError") = false
 name : bm.contains (.type "NameError") = false
theorem Tail.has {bm : List Value} {Bn : String} (T : Tail bm Bn) (C : Addr) : (Value.ref C::bm).contains (.type Bn) = true:=by rw [yBB,T.base,yDv]
theorem Tail.noA {bm : List Value} {Bn : String} (T : Tail bm Bn) (C : Addr) : (Value.ref C::bm).contains (.type "AttributeError") = false:=by rw [yBB,T.attr]; rfl
theorem Tail.noN {bm : List Value} {Bn : String} (T : Tail bm Bn) (C : Addr) : (Value.ref C::bm).contains (.type "NameError") = false:=by rw [yBB,T.name]; rfl
theorem zN4 (Fn : ExcBaseFacts Bn newId inN bmN) (T : Tail bm Bn) {M : Model} {us : List Value} {Q : Unit -> Shared -> Prop} (at_ : h.get? C = some (excClassObj nm q C N bs bm hdct sn sub ab col dd k0 k1 k2 k3 k5 newId))
  (z : Q () ⟨h,g,d,t,os⟩) : wpAny M A (checkBuiltinCall newId ⟨.ref C::us,[]⟩) Q E ⟨h,g,d,t,os⟩:=by
 have c1:=T.has C;have c2:=Fn.noStar;simp only [Fn.newKind,Fn.newSplit,Fn.newRow,checkBuiltinCall]
 repeat (first | refine yBE at_ ?_ | (refine yCN at_ ?_; rw [c1]) | refine wpAny_staticBase_exc at_ ?_ | refine wpAny_madeBy_exc at_ ?_ | simp only [bne_self_eq_false,yBG,yCc] | wp_step)
 exact z
theorem zY5 (Fn : ExcBaseFacts Bn newId inN bmN) (T : Tail bm Bn) {R : Result -> Shared -> Prop} {us : List Value} (at_ : h.get? C = some (excClassObj nm q C N bs bm hdct sn sub ab col dd k0 k1 k2 k3 k5 newId))
  (z : R (.ok (.ret (.ref (h.objs.size + 1)))) ⟨(h.push { cls := .type "tuple",data := .seq us.toArray }).push { cls := .ref C,data := .fields #[.ref h.objs.size,.none,.none,.none,.bool false,.none] },g,d,t,os⟩) (few : us.length <= sizeLine) :
  codeAny (model prog w) A (.builtin newId ⟨.ref C::us,[]⟩) R ⟨h,g,d,t,os⟩:=by
 have c0:=Fn.ends;have c1:=T.has C;have c2:=T.noA C;have c3:=T.noN C;refine codeAny_builtinAt Fn.entry ?_; unfold Builtin.«BaseException.__new__»;refine wpAt_bind ?_; show wpAt _ _ _ (stack >>= _) _ _ _;refine wpAt_bind (wpAt_stack λ_ _=>wpAt_of_wpAny ?_)
 wp_walk
 refine wpAt_of_wpAny ?_;rw [Fn.owner]
 repeat (first | with_reducible refine wpAny_madeHere_exc Fn.canon at_ ?_ | with_reducible refine yBE at_ ?_ | (with_reducible refine yCN at_ ?_; first | rw [c1] | rw [c2] | rw [c3]) | wp_step)
 show R _ _;rw [yCS];exact z
noncomputable def Finds (h : Heap) (C : Addr) (x : Str) (v : Option Value) : Prop:=∀ (M : Model) (A : Around) (E : Value -> Shared -> Prop) (Q : Option Value -> Shared -> Prop) (g : Array GenState) (d : Drawn) (t : Nat) (os : OsState),Q v ⟨h,g,d,t,os⟩ -> wpAny M A (typeLookup (.ref C) x) Q E ⟨h,g,d,t,os⟩
noncomputable def laid (h : Heap) (C : Addr) (us : List Value) : Heap:=(h.push { cls := .type "tuple",data := .seq us.toArray }).push { cls := .ref C,data := .fields #[.ref h.objs.size,.none,.none,.none,.bool false,.none] }
theorem laid_old {h : Heap} {C : Addr} {us : List Value} {b : Addr} {o : Obj} (e : h.get? b = some o) : (laid h C us).get? b = some o:=yAC _ (yAC _ e)
theorem laid_new {h : Heap} {C : Addr} {us : List Value} : (laid h C us).get? (h.objs.size + 1) = some { cls := .ref C,data := .fields #[.ref h.objs.size,.none,.none,.none,.bool false,.none] }:=by unfold laid; heap_get
theorem zS5 (Fn : ExcBaseFacts Bn newId inN bmN) (T : Tail bm Bn) {us : List Value} {f : Addr} {of : Obj} {Q : Fin -> Shared -> Prop} (at_ : h.get? C = some (excClassObj nm q C N bs bm hdct sn sub ab col dd k0 k1 k2 k3 k5 newId))
  (hi : Finds (laid h C us) C "__init__" (some (.ref f))) (hf : h.get? f = some of) (hc : of.cls = .type "function") (few : us.length <= sizeLine)
  (z : wpAny (model prog w) A (call (.ref f) (.ref (h.objs.size + 1)::us)) (λr s'=>r = .none/\Q (.done (.ret (.ref (h.objs.size + 1)))) s') E ⟨laid h C us,g,d,t,os⟩) :
  wpAny (model prog w) A (Builtin.«type.__call__» ⟨.ref C::us,[]⟩) Q E ⟨h,g,d,t,os⟩:=by
 repeat (first | with_reducible refine yBE at_ ?_ | with_reducible refine wpAny_madeBy_exc at_ ?_ | wp_step)
 refine codeAny_call_builtin_code (yCv _ Fn.quiet) (zN4 Fn T at_ ?_);refine zY5 Fn T at_ ?_ few;show wpAny _ _ _ _ _ ⟨laid h C us,g,d,t,os⟩;have a1:=laid_old (C:=C) (us:=us) at_;have a2:=laid_new (h:=h) (C:=C) (us:=us);have self : (Value.ref C::bm).contains (.ref C) = true:=by simp
 unfold isInstance
 repeat (first | with_reducible refine yBE a2 ?_ | (with_reducible refine yCN a1 ?_; rw [self]) | wp_step)
 refine (show wpAny _ _ (typeLookup (.ref C) _) _ _ _ from hi _ _ _ _ _ _ _ _ ?_);refine yBa (yAD ?_); unfold bindSpecial;refine yAD (wpAny_typeOf (T:="function") ⟨_,laid_old hf,hc⟩ ?_);rw [yAQ (by decide)];refine yAW (yAD (yBO z (λr s' hr => ?_) λ_ _ x=>x));obtain ⟨rfl,y⟩:=hr
 wp_walk
 exact y
theorem callErr (Fn : ExcBaseFacts Bn newId inN bmN) (T : Tail bm Bn) {us : List Value} {f : Addr} {of : Obj} {Q : Value -> Shared -> Prop} (at_ : h.get? C = some (excClassObj nm q C N bs bm hdct sn sub ab col dd k0 k1 k2 k3 k5 newId))
  (hi : Finds (laid h C us) C "__init__" (some (.ref f))) (hf : h.get? f = some of) (hc : of.cls = .type "function") (few : us.length <= sizeLine)
  (z : wpAny (model prog w) (A.under (.builtin "type.__call__" ⟨.ref C::us,[]⟩)) (call (.ref f) (.ref (h.objs.size + 1)::us)) (λr s'=>r = .none/\Q (.ref (h.objs.size + 1)) s') E ⟨laid h C us,g,d,t,os⟩) :
  wpAny (model prog w) A (call (.ref C) us) Q E ⟨h,g,d,t,os⟩:=by
 have b1:=tc_lookup;have b2:=tc_bind (.ref C);have b3 : (⟨h,g,d,t,os⟩ : Shared).TypeIs (.ref C) "type":=⟨_,at_,rfl⟩;refine yDJ (codeAny_of_tree ?_); show wpAny _ _ (callAny (.ref C) _) _ _ _
 repeat (any_goals (first | assumption | with_reducible refine yBE at_ ?_ | wp_step))
 refine ⟨rfl,?_⟩;exact codeAny_call_builtin_at (yCv _ (by decide +kernel)) entry_typeCall (wpAny_check_type_call_sub at_ (zS5 Fn T at_ hi hf hc few z))
end
end L2E
namespace L2E
open PySem
section
variable {h : Heap} {g : Array GenState} {d : Drawn} {t : Nat} {os : OsState} {prog : Program} {w : World} {A : Around} {E : Value -> Shared -> Prop}
variable {nm q : Str} {C N : Addr} {bs bm bmB : List Value} {hdct : Bool} {sn : List Str} {sub : List Value} {ab : Bool} {col : Option Bool} {dd : Option Addr} {k0 k1 k2 k3 k5 : Option Value} {B nid newId initId : String}
theorem zK6 (F : ExcBaseFacts B nid initId bmB) (hB : bm.contains (.type B) = true) {M : Model} {e : Addr} {oe : Obj} {us : List Value} {Q : Unit -> Shared -> Prop}
  (at_ : h.get? C = some (excClassObj nm q C N bs bm hdct sn sub ab col dd k0 k1 k2 k3 k5 newId)) (he : h.get? e = some oe) (hc : oe.cls = .ref C) (z : Q () ⟨h,g,d,t,os⟩) :
  wpAny M A (checkBuiltinCall initId ⟨.ref e::us,[]⟩) Q E ⟨h,g,d,t,os⟩:=by
 have c1 : (Value.ref C::bm).contains (.type B) = true:=by rw [yBB,hB,yDv]
 have c2:=F.noStar;simp only [F.initKind,F.initSplit,F.initRow,checkBuiltinCall]
 repeat (first | (with_reducible refine yBE he ?_; rw [hc]) | with_reducible refine yBE at_ ?_ | (with_reducible refine yCN at_ ?_; rw [c1]) | wp_step)
 refine wpAny_onRaise ?_;have same : ∀ (a b : String) (n : Nat),Bind.check ⟨.positional,"*",B,.self,[⟨"args",.varPos,false⟩]⟩ a b n (List.map (λx=>x.fst) ({ pos:=Value.ref e::us } : Args).kw) = pure ():=λa b n=>check_star_args _ _ _ _ _ _;rw [same];exact yAW z
theorem initErr (F : ExcBaseFacts B nid initId bmB) (hB : bm.contains (.type B) = true) {e t0 : Addr} {de : Option Addr} {us : List Value} {Q : Value -> Shared -> Prop}
  (at_ : h.get? C = some (excClassObj nm q C N bs bm hdct sn sub ab col dd k0 k1 k2 k3 k5 newId)) (he : h.get? e = some { cls := .ref C,dict:=de,data := .fields #[.ref t0,.none,.none,.none,.bool false,.none] }) (few : us.length <= sizeLine)
  (z : ∀ h',(∀ b o,b≠e -> h.get? b = some o -> h'.get? b = some o) -> h'.get? e = some { cls := .ref C,dict:=de,data := .fields #[.ref h.objs.size,.none,.none,.none,.bool false,.none] } -> h'.get? h.objs.size = some { cls := .type "tuple",data := .seq us.toArray } -> Q .none ⟨h',g,d,t,os⟩) :
  wpAny (model prog w) A (call (.builtin initId) (.ref e::us)) Q E ⟨h,g,d,t,os⟩:=by
 refine yDJ (yDG F.init.plain F.initEntry (zK6 F hB at_ he rfl ?_))
 wp_walk
 have le : e < h.objs.size:=yAJ he;have he2:=yAC { cls := .type "tuple",data := .seq us.toArray } he;refine z _ (λb o n hb => ?_) ?_ ?_
 ·rw [yBK _ _ n.symm]
  exact yAC _ hb
 ·rw [yCF _ he2 rfl]
  rfl
 ·rw [yBK _ _ (yAi le)]
  exact Heap.get?_push_at rfl rfl
end
end L2E
namespace L2E
open PySem PySem.Builtin.ObjectAttr
section
variable {h : Heap} {g : Array GenState} {d : Drawn} {t : Nat} {os : OsState} {prog : Program} {w : World} {A : Around} {E : Value -> Shared -> Prop}
variable {nm q : Str} {C N x : Addr} {bs bm bmB : List Value} {sn : List Str} {sub : List Value} {ab : Bool} {col : Option Bool} {dd : Option Addr} {k0 k1 k2 k3 k5 : Option Value} {B newId sa owner : String} {name : Str} {v : Value}
theorem zQU {M : Model} {o : Obj} {nameV : Value} {Q : Unit -> Shared -> Prop} (SF : StoreFacts B bmB sa owner) (own : bm.contains (.type owner) = true)
  (at_ : h.get? C = some (excClassObj nm q C N bs bm true sn sub ab col dd k0 k1 k2 k3 k5 newId)) (hx : h.get? x = some o) (hc : o.cls = .ref C) (z : Q () ⟨h,g,d,t,os⟩) : wpAny M A (checkBuiltinCall sa ⟨[.ref x,nameV,v],[]⟩) Q E ⟨h,g,d,t,os⟩:=by
 have c1 : (Value.ref C::bm).contains (.type owner) = true:=by rw [yBB,own,yDv]
 have c2:=SF.args (.ref x) nameV v;simp only [SF.kind,SF.split,checkBuiltinCall];refine yAD ?_;unfold isInstance
 repeat (first | (with_reducible refine yBE hx ?_; rw [hc]) | (with_reducible refine yCN at_ ?_; rw [c1]) | wp_step)
 cases sg : Manifest.signature? sa with
 | none=>exact yAW z
 | some s0 =>
  simp only [argsOk,sg] at c2;have c3 : Bind.checkArgs sa s0 ⟨[.ref x,nameV,v],[]⟩ = pure ():=c2;refine (show wpAny M A (Bind.checkArgs sa s0 ⟨[.ref x,nameV,v],[]⟩) Q E _ from ?_);rw [c3]; exact yAW z
noncomputable def zIM (o : Obj) (a : Addr) : Obj:={ cls:=o.cls,dict:=some a,data:=o.data,slots:=o.slots }
theorem zT8 {tk : Tok} {Q : Fin -> Shared -> Prop} {o : Obj} (at_ : h.get? C = some (excClassObj nm q C N bs bm true sn sub ab col dd k0 k1 k2 k3 k5 newId)) (pass : refuseLoop (.ref x) "__setattr__" bm = pure ()) (fn : Finds h C name none)
  (hx : h.get? x = some o) (hc : o.cls = .ref C) (hd : o.dict = none) (hnc : ∀ c,o.data ≠ .cls c)
  (z : ∀ h' tk',h'.get? x = some (zIM o h.objs.size) -> h'.Ns1 h.objs.size (λy=>if y = name then some v else none) -> (∀ b o,b≠x -> h.get? b = some o -> h'.get? b = some o) -> Q (.done (.ret .none)) ⟨h',g,d,tk',os⟩) :
  wpAny (model prog w) A (Builtin.«object.__setattr__» ⟨[.ref x,.str name tk,v],[]⟩) Q E ⟨h,g,d,t,os⟩:=by
 unfold Builtin.«object.__setattr__»
 repeat (first | rw [refuse_eq] | (rw [refuseLoop_ref,pass]) | (with_reducible refine yBE hx ?_; rw [hc]) | with_reducible refine wpAny_mroOf_exc at_ ?_ | wp_step)
 refine fn _ _ _ _ _ _ _ _ ?_
 repeat (first | (with_reducible refine yBE hx ?_; rw [hc]) | with_reducible refine yBE hx ?_ | wp_step)
 rw [hd,yAN (by simp [typeHasDict])]
 split
 ·rename_i y; cases y
 split
 ·rename_i c y; exact absurd y (hnc c)
 have x1 : (h.push { cls := .type "dict",data := .dict #[] }).get? x = some o:=yAC _ hx;have ne : x≠h.objs.size:=yAi (yAJ hx);refine yAD (wpAny_alloc' (yAD (wpAny_update' x1 (yAW ?_))));have y1 : ((h.push { cls := .type "dict",data := .dict #[] }).update x λo=>zIM o h.objs.size).get? h.objs.size = some { cls := .type "dict",data := .dict #[] }:=(yBY _ _ _ _ ne.symm).trans (Heap.get?_push_at rfl rfl);have y2 : ((h.push { cls := .type "dict",data := .dict #[] }).update x λo=>zIM o h.objs.size).Ns h.objs.size (λ_=>none):=⟨_,#[],_,y1,rfl,λe he=>absurd he (by simp),λ_=>rfl⟩;refine (show wpAny _ _ (storeInDict h.objs.size (.str name tk) name v) _ _ ⟨(h.push { cls := .type "dict",data := .dict #[] }).update x λo=>zIM o h.objs.size,_,_,_,_⟩ from ?_);unfold storeInDict newKeyGuard;refine yAD (yAW (yAD (wpAny_nsSet1 (Heap.Ns1.of_empty y2) λh2 n2 s2 => ?_)));obtain ⟨o3,e3,p3,a3,b3,c3⟩:=n2.count (Within.cons name v Within.nil);refine yAD (wpAny_lookBehind a3 (by rw [b3]; exact pastItsLine_dict (yAk c3 (by rw [yBA,yCs,sizeLine_eq]; lia))) ?_)
 wp_walk
 refine z h2 _ ?_ n2 λb ob n hb => ?_
 ·refine (s2.2 x ne).trans (yCF _ x1 ?_)
  have fr:=(Heap.get?_some_iff.mp hx).2;obtain ⟨oc,od,odt,osl⟩:=o
  cases odt <;> first | rfl | exact fr
 ·exact (s2.2 b (yAi (yAJ hb))).trans ((yBY _ _ _ _ n).trans (yAC _ hb))
theorem setErr {Q : Unit -> Shared -> Prop} {o : Obj} (SF : StoreFacts B bmB sa owner) (own : bm.contains (.type owner) = true) (at_ : h.get? C = some (excClassObj nm q C N bs bm true sn sub ab col dd k0 k1 k2 k3 k5 newId)) (pass : refuseLoop (.ref x) "__setattr__" bm = pure ())
  (fs : Finds h C "__setattr__" (some (.builtin sa))) (fn : Finds h C name none) (hx : h.get? x = some o) (hc : o.cls = .ref C) (hd : o.dict = none) (hnc : ∀ c,o.data ≠ .cls c)
  (z : ∀ h' tk',h'.get? x = some (zIM o h.objs.size) -> h'.Ns1 h.objs.size (λy=>if y = name then some v else none) -> (∀ b o,b≠x -> h.get? b = some o -> h'.get? b = some o) -> Q () ⟨h',g,d,tk',os⟩) :
  wpAny (model prog w) A (setAttr (.ref x) name v) Q E ⟨h,g,d,t,os⟩:=by
 have b1:=SF.slot.bind (.ref x);unfold setAttr callSpecial? specialOf
 repeat (any_goals (first | assumption | (with_reducible refine yBE hx ?_; rw [hc]) | wp_step))
 refine fs _ _ _ _ _ _ _ _ ?_
 repeat (any_goals (first | assumption | (with_reducible refine yBE hx ?_; rw [hc]) | wp_step))
 refine yDG SF.slot.plain SF.entry (zQU SF own at_ hx hc (zT8 at_ pass fn hx hc hd hnc λh' tk' y1 y2 y3 => ?_))
 repeat (any_goals (first | assumption | wp_step))
 exact z h' tk' y1 y2 y3
end
end L2E
namespace L2E
open PySem
section
variable {A : Around} {E : Value -> Shared -> Prop} {env : Env} {M : Model}
variable {nm q : Str} {C N : Addr} {bs bm : List Value} {hdct : Bool} {sn : List Str} {sub : List Value} {ab : Bool} {col : Option Bool} {dd : Option Addr} {k0 k1 k2 k3 k5 : Option Value} {newId : String}
theorem raiseErr {s : Shared} {x : Sem Value} {Q : Flow -> Shared -> Prop} (base : bm.contains (.type "BaseException") = true) (calm : A.handled = none)
  (h : wpAny M A x (λv s1=>∃ e dx ta sl,v = .ref e/\s1.heap.get? C = some (excClassObj nm q C N bs bm hdct sn sub ab col dd k0 k1 k2 k3 k5 newId)/\s1.heap.get? e = some { cls := .ref C,dict:=dx,data := .fields #[.ref ta,.none,.none,.none,.bool false,.none],slots:=sl }/\E (.ref e) s1) E s) :
  wpAny M A (raiseStmt env (some x) none) Q E s:=by
 have c1 : (Value.ref C::bm).contains (.type "BaseException") = true:=by rw [yBB,base,yDv]
 unfold raiseStmt;refine yAD (yBO h (λv s1 h1 => ?_) λ_ _ y=>y);obtain ⟨e,dx,ta,sl,rfl,at_,he,z⟩:=h1;obtain ⟨hp,g,d,tk,os⟩:=s1
 repeat (first | with_reducible refine yBE he ?_ | with_reducible refine yBE at_ ?_ | (with_reducible refine yCN at_ ?_; rw [c1]) | wp_step)
 exact wpAny_raiseNew_none calm z
end
end L2E
namespace L2E
open PySem
section
variable {M : Model} {A : Around} {E : Value -> Shared -> Prop} {s : Shared}
structure Off (h h' : Heap) (e : Addr) (oe : Obj) (vs : Array Value) (l : List Env) (T : Addr) : Prop where
 fresh : h.objs.size <= T
 err : h'.get? e = some { oe with data := .fields (vs.setIfInBounds 1 (.ref T)) }
 tb : ∃ oT ts,h'.get? T = some oT/\oT.data = .fields ts/\ts[3]? = some .none
 keep : ∀ b o,b≠e -> vs[1]? ≠ some (.ref b) -> b∉L2.frs l -> h.get? b = some o -> h'.get? b = some o
 slot : ∀ b o,b∈L2.frs l -> h.get? b = some o -> ∃ sl,h'.get? b = some { o with slots:=sl }
theorem zIA {o : Obj} {vs : Array Value} (hd : o.data = .fields vs) (f : Array Value -> Array Value) : o.mapFields f = { o with data := .fields (f vs) } := by
 obtain ⟨c,d,dt,sl⟩:=o;simp only at hd;subst hd;rfl
theorem zMU {base : Heap} {env : Env} {outer : List Env} {L e : Addr} {oe : Obj} {vs : Array Value} {head : Value} {hadNext : Bool} {Q : Unit -> Shared -> Prop}
  (hfr : A.frames = some (env::outer)) (hl : s.heap.FunFrames base (env::outer)) (hf : env.frame = some L)
  (he : s.heap.get? e = some oe) (hd : oe.data = .fields vs) (hsz : 1 < vs.size)
  (h : ∀ h' T, s.heap.objs.size <= T -> h'.get? e = some { oe with data := .fields (vs.setIfInBounds 1 (.ref T)) } -> (∃ oT ts, h'.get? T = some oT /\ oT.data = .fields ts /\ ts[3]? = some .none) ->
   (∀ b o,b≠e -> b∉L2.frs (env::outer) -> s.heap.get? b = some o -> h'.get? b = some o) -> (∀ b o,b∈L2.frs (env::outer) -> s.heap.get? b = some o -> ∃ sl,h'.get? b = some { o with slots:=sl }) -> Q () { s with heap:=h' }) :
  wpAny M A (do let a <- frameOf env; let pl <- entryPlaceOf L hadNext; let b <- EntryCells.newEntry head a .none (rawInt L) .none pl; setField (.ref e) 1 b) (λ_ s'=>wpAny M A (setFlight (.ref e) none) Q E s') E s:=by
 have hene : e ∉ (env :: outer).filterMap (·.frame) := fun hm => by
  obtain ⟨_,o,ho,hnf⟩:=hl.mem hm;rw [he] at ho; injection ho with ho; subst ho; exact hnf vs hd
 refine yAD (wpAny_frameOf_fun hfr hl hf λh₁ hs₁ => ?_);refine yAD (wpAny_entryPlaceOf λpl hpl => ?_);unfold EntryCells.newEntry newFields;refine yAD (yCb ?_ (hpl.sizeOk5 _ _ _ _ _));have he₁ : h₁.get? e = some oe:=(hs₁.2.1 e hene).trans he;have he₂ := yAC (h:=h₁) { cls := .type "traceback",dict:=none,data := .fields ([head,.ref L,.none,rawInt L,.none]++(if pl.isEmpty then List.replicate 6 Value.none else pl)).toArray } he₁;refine yDT he₂ hd hsz ?_;have hTe : h₁.objs.size≠e:=yBW (yAJ he₁);have hd₃ := yCq hd (·.setIfInBounds 1 (Value.ref h₁.objs.size));have he₃ := yCF (Obj.mapFields (·.setIfInBounds 1 (Value.ref h₁.objs.size))) he₂ (yDo hd₃)
 have hT₃ := (yBK (h₁.push { cls := .type "traceback", dict := none, data := .fields ([head, .ref L, .none, rawInt L, .none] ++ (if pl.isEmpty then List.replicate 6 Value.none else pl)).toArray })
  (Obj.mapFields (·.setIfInBounds 1 (Value.ref h₁.objs.size))) (Ne.symm hTe)).trans (yAS h₁ rfl)
 unfold setFlight;refine yAD (yCy he₃ hd₃ (x := .ref h₁.objs.size) (by simp [hsz]) ?_);rw [yAQ (show (Value.ref h₁.objs.size != Value.none) = true from by simp)];have hsz1 : s.heap.objs.size <= h₁.objs.size:=Nat.le_of_eq hs₁.1.symm
 have keep : ∀ b o, b ≠ e -> h₁.get? b = some o ->
   (((h₁.push { cls := .type "traceback", dict := none, data := .fields ([head, .ref L, .none, rawInt L, .none] ++ (if pl.isEmpty then List.replicate 6 Value.none else pl)).toArray }).update e (Obj.mapFields (·.setIfInBounds 1 (Value.ref h₁.objs.size)))).update h₁.objs.size
    (Obj.mapFields (·.setIfInBounds 3 ((none : Option Addr).elim Value.none λf=>rawInt f)))).get? b = some o:=λb o hbe hb=>by
  have hbT : h₁.objs.size≠b:=yBW (yAJ hb);rw [yBK _ _ hbT,yBK _ _ (Ne.symm hbe)];exact yAC _ hb
 refine yDT hT₃ rfl (by simp only [yAH,yAX,yBA,yCs] <;> lia) (h _ h₁.objs.size hsz1 ?_ ?_ (λb o hb hn q => ?_) λb o hb q => ?_)
 ·rw [yBK _ _ hTe,he₃,zIA hd]
 ·exact ⟨_,_,yCF _ hT₃ (yDo (yCq rfl _)),yCq rfl _,by first | (simp; done) | (rcases hpl with rfl | ⟨_,_,_,_,_,_,_,rfl⟩ <;> simp)⟩
 ·exact keep b o hb ((hs₁.2.1 b hn).trans q)
 ·obtain ⟨sl, hs⟩ := hs₁.2.2 b o q
  exact ⟨sl,keep b _ (λz=>hene (z ▸ hb)) hs⟩
theorem noteOff {base : Heap} {env : Env} {outer : List Env} {L e : Addr} {oe : Obj} {vs : Array Value} {Q : Unit -> Shared -> Prop}
  (hfr : A.frames = some (env::outer)) (hl : s.heap.FunFrames base (env::outer)) (hf : env.frame = some L)
  (he : s.heap.get? e = some oe) (hd : oe.data = .fields vs)
  (hv : vs[1]? = some .none \/ ∃ T oT ts,vs[1]? = some (.ref T)/\T≠e/\s.heap.get? T = some oT/\oT.data = .fields ts/\ts[3]? = some .none)
  (h : ∀ h' T,Off s.heap h' e oe vs (env::outer) T -> Q () { s with heap:=h' }) :
  wpAny M A (noteFrame (.ref e) env) (λ_ s'=>wpAny M A (setFlight (.ref e) none) Q E s') E s:=by
 unfold noteFrame;simp only [hf]
 rcases hv with h1 | ⟨T,oT,ts,h1,hTe,hT,hdT,h3⟩
 ·refine yAD (yCy he hd h1 ?_)
  rw [yAN (by decide)];exact zMU hfr hl hf he hd (yBD.mp h1).1 λh' T a1 a2 a3 a4 a5=>h h' T ⟨a1,a2,a3,λb o hb _ hn q=>a4 b o hb hn q,a5⟩
 ·refine yAD (yCy he hd h1 ?_)
  rw [yAQ (show (Value.ref T != Value.none) = true from by simp)];refine yAD (yCy hT hdT h3 ?_);rw [yAN (show ¬ ((Value.none == rawInt L) = true) from by simp [rawInt])];refine yAD (yDT hT hdT (yBD.mp h3).1 ?_);have other : ∀ b,b≠T -> (s.heap.update T (Obj.mapFields (·.setIfInBounds 3 Value.none))).get? b = s.heap.get? b:=λb hb=>yBK _ _ (Ne.symm hb)
  have noRecord : ∀ b o, s.heap.get? b = some o -> (∀ vs, o.data ≠ .fields vs) -> b ≠ T := fun b o hb hnf q => by
   rw [q,hT] at hb; injection hb with hb; subst hb; exact hnf ts hdT
  have frT : ∀ b, b ∈ L2.frs (env :: outer) -> b ≠ T := fun b hb => by
   obtain ⟨_,o,ho,hnf⟩:=hl.mem hb;exact noRecord b o ho hnf
  refine zMU (s := { s with heap := s.heap.update T (Obj.mapFields (·.setIfInBounds 3 Value.none)) }) hfr (hl.of_keeps fun b o hb hnf => ⟨o, (other b (noRecord b o hb hnf)).trans hb, rfl⟩) hf ((other e (Ne.symm hTe)).trans he) hd (yBD.mp h1).1
   λh' T' a1 a2 a3 a4 a5=>h h' T' ⟨by rw [Heap.size_update] at a1; exact a1,a2,a3,λb o hb hbT hn q=>a4 b o hb hn ((other b λz=>hbT (by rw [h1,z])).trans q),λb o hb q=>a5 b o hb ((other b (frT b hb)).trans q)⟩
theorem leaveOff {base : Heap} {env : Env} {outer : List Env} {L e : Addr} {oe : Obj} {vs : Array Value} {Q : Unit -> Shared -> Prop}
  (hfr : A.frames = some (env::outer)) (hl : s.heap.FunFrames base (env::outer)) (hf : env.frame = some L)
  (he : s.heap.get? e = some oe) (hd : oe.data = .fields vs)
  (hv : vs[1]? = some .none \/ ∃ T oT ts,vs[1]? = some (.ref T)/\T≠e/\s.heap.get? T = some oT/\oT.data = .fields ts/\ts[3]? = some .none)
  (h : ∀ h' T,Off s.heap h' e oe vs (env::outer) T -> Q () { s with heap:=h' }) : wpAny M A (leaving env (.ref e)) Q E s:=by
 unfold leaving;exact yAD (noteOff hfr hl hf he hd hv h)
end
end L2E
namespace L2
open PySem PySem.Spec PyProof.Rows
structure Fly (h : Heap) (e C dx T : Addr) : Prop where
 ex : ∃ vs sl,h.get? e = some { cls := .ref C,dict:=some dx,data := .fields vs,slots:=sl }/\vs[1]? = some (.ref T)
 ne : T≠e
 tb : ∃ oT ts,h.get? T = some oT/\oT.data = .fields ts/\ts[3]? = some .none
noncomputable def CXE (P : Program) (w : World) : CXT := fun outer H s E ev s' => ∃ (e C dx T : Addr) (H' : Hp), ev = .ref e /\ s'.os = s.os /\ AllBare s'.gens /\ Un (frs outer) [] H H' s.heap s'.heap /\ HOk P w H' s'.heap /\
 Fly s'.heap e C dx T/\s.heap.objs.size <= e/\s.heap.objs.size <= T/\H' e = none/\H' T = none/\E (.ref C) (some dx) H'
section
variable {X : Cx} {pins : List (Addr × Obj)} {σ : St} {H : Hp} {s : Shared} {h' : Heap}
structure Own (X : Cx) (pins : List (Addr × Obj)) (H : Hp) (h : Heap) (b : Addr) : Prop where
 new : X.s₀.heap.objs.size <= b
 free : H b = none
 recd : ∃ o vs,h.get? b = some o/\o.data = .fields vs
 pin : ∀ p∈X.pn++pins,p.1≠b
theorem Inv.off {e T' : Addr} {oe : Obj} {vs : Array Value} (I : Inv X pins σ H s) (hst : X.stack = X.env :: X.outer) (hfr : X.env.frame = some X.env.locals)
  (O : L2E.Off s.heap h' e oe vs X.stack T') (oe' : Own X pins H s.heap e) (oT : ∀ T,vs[1]? = some (.ref T) -> Own X pins H s.heap T) : Inv X pins σ H { s with heap:=h' }:=by
 let ch : List Addr:=e::(match (vs[1]? : Option Value) with | some (Value.ref T)=>[T] | _=>[])
 have hch : ∀ b ∈ ch, Own X pins H s.heap b := fun b hb => by
  rcases yAb.mp hb with rfl | hb
  ·exact oe'
  ·split at hb
   ·rename_i T hT
    rw [yAF.mp hb];exact oT T hT
   ·cases hb
 have nch : ∀ b, b ∉ ch -> b ≠ e /\ vs[1]? ≠ some (.ref b) := fun b hb => ⟨fun z => hb (z ▸ yAR ..), fun z => hb (by
  refine yAO _ ?_;rw [z]; exact yAF.mpr rfl)⟩
 have frL : frs X.stack = X.env.locals :: X.fs := by
  rw [hst];unfold frs;rw [yDL,hfr]; rfl
 have neL : ∀ b, Own X pins H s.heap b -> b ≠ X.env.locals := fun b ob z => by
  obtain ⟨m,⟨o,es,ep,ho,hd,_⟩,_⟩:=I.loc;obtain ⟨o',vs',ho',hd'⟩:=ob.recd;rw [z,ho] at ho'; cases ho'; rw [hd] at hd'; cases hd'
 have neC : ∀ b, Own X pins H s.heap b -> ∀ x c, X.env.cells.lookup x = some c -> c ≠ b := fun b ob x c hc z => by
  obtain ⟨v,o,ho,hd⟩:=I.cell x c hc;obtain ⟨o',vs',ho',hd'⟩:=ob.recd;rw [z,ho'] at ho; cases ho; rw [hd'] at hd; cases hd
 refine I.step (g' := s.gens) (d' := s.drawn) (t' := s.toks) (ch := ch) (fun b hb => ⟨.inr (hch b hb).new, neL b (hch b hb), neC b (hch b hb), (hch b hb).pin⟩)
  (λb o hL hb hc q _=>O.keep b o (nch b hc).1 (nch b hc).2 (by rw [frL]; exact λz=>(yAb.mp z).elim hL hb) q)
  (λb o hL hb hc q _=>O.slot b o (by rw [frL]; exact yAO _ hb) q) (λ_ _ _ _ n=>n) (λb o hc q => ?_) (λ_ _ q=>q) (λ_ _ _ q=>q) (λb ps q=>⟨#[],by rw [q]; simp⟩) (λm hm => ?_) (λb u q => ?_) I.bare
 ·by_cases hb : b ∈ frs X.stack
  ·obtain ⟨sl, z⟩ := O.slot b o hb q
   exact ⟨_,z⟩
  ·exact ⟨o,O.keep b o (nch b hc).1 (nch b hc).2 hb q⟩
 ·obtain ⟨o, es, ep, ho, r⟩ := hm
  obtain ⟨sl,z⟩:=O.slot _ o (by rw [frL]; exact yAR ..) ho;exact ⟨_,es,ep,z,r⟩
 ·refine (I.hok b u q).stay (fun c v hc z => ?_) (fun _ z => z) fun _ _ z => z
  have hcn : H c ≠ none := by
   rcases hc with rfl | hc
   ·rw [q]; simp
   ·rw [hc]; simp
  refine O.keep c v (λy=>hcn (y ▸ oe'.free)) (λy=>hcn (oT c y).free) (λy=>hcn (I.stkFree c y)) z
end
theorem zbK {P : Program} {w : World} {K : PySem.W.Frag} {mg : Str -> Option Value} {base : Heap} {N : List Str} {qual : Str} {scope : Scope} {f : Addr} {cd : Value} {A : Around} {outer : List Env} {s0 : Shared} {H0 : Hp} {E : XK} :
  zCV (CXE P w) (zQ2 (CXE P w) P w K mg base N qual scope f cd A outer s0 H0 E) E:=by
 intro pins σ H s ev s' I hc;obtain ⟨e,C,dx,T,H',rfl,os,bare,un,hok,fly,e1,t1,he,hT,hE⟩:=hc;obtain ⟨hh,g,d,t,os'⟩:=s';obtain rfl : os' = s.os:=os;have I':=I.call (h':=hh) (g':=g) (d':=d) (t':=t) (ch:=[]) un hok bare (λb z=>absurd z (by simp));obtain ⟨vs,sl,hx,h1⟩:=fly.ex;obtain ⟨oT,ts,hT1,hT2,hT3⟩:=fly.tb;have sz:=I.sz
 have pl : ∀ b, s.heap.objs.size <= b -> ∀ p ∈ (zQ2 (CXE P w) P w K mg base N qual scope f cd A outer s0 H0 E).pn ++ pins, p.1 ≠ b := fun b hb p hp z => by
  have:=yAJ (I.pin p hp).1
  rw [z] at this;exact absurd (yAh this hb) (yBV _)
 have le:=yAJ hx;show wpAny _ _ (leaving _ (.ref e)) _ _ _;refine L2E.leaveOff (base:=base) I'.ok.frames I'.stack rfl hx rfl (.inr ⟨T,oT,ts,h1,fly.ne,hT1,hT2,hT3⟩) λh' T' O => ?_
 have J := I'.off (h' := h') rfl rfl O ⟨yAk sz e1, he, ⟨_, vs, hx, rfl⟩, pl e e1⟩ fun T2 hT2' => by
  rw [h1] at hT2'; cases hT2';exact ⟨yAk sz t1,hT,⟨oT,ts,hT1,hT2⟩,pl T t1⟩
 have hv1 : 1 < vs.size:=(yBD.mp h1).1;refine ⟨e,C,dx,T',H',rfl,J.os,J.bare,J.base,J.hok,⟨⟨_,sl,O.err,by simp [hv1]⟩,yBW (yAh le O.fresh),O.tb⟩,yAk sz e1,yAk I'.sz O.fresh,he,hok.fresh O.fresh,hE⟩
end L2
namespace L2E
open PySem PySem.Builtin.ObjectAttr
section
variable {prog : Program} {w : World} {A : Around} {E : Value -> Shared -> Prop} {h : Heap} {g : Array GenState} {d : Drawn} {t : Nat} {os : OsState} {a dx : Addr} {o : Obj} {name : Str} {v : Value} {m : Str -> Option Value}
 {nm q : Str} {C N : Addr} {bs bm : List Value} {hdct : Bool} {sn : List Str} {sub : List Value} {ab : Bool} {col : Option Bool} {dd : Option Addr} {k0 k1 k2 k3 k5 : Option Value} {newId : String}
end
end L2E
namespace L2
open PySem PySem.Spec PyProof.Rows
structure ErrC (K : PySem.W.Frag) (C f : Addr) (bm : List Value) : Prop where
 obj : ∃ nm q N bs sn sub ab col dd k0 k1 k2 k3 k5,K.lookup C = some (excClassObj nm q C N bs bm true sn sub ab col dd k0 k1 k2 k3 k5 "ValueError.__new__")
 init : PySem.W.findIn K (.ref C) "__init__" = some (some (.ref f))
 fn : PySem.W.isFn K (.ref f) = true
 kp : PySem.W.keepIn K (.ref C) = true
 sa : PySem.W.findIn K (.ref C) "__setattr__" = some (some (.builtin "object.__setattr__"))
 ga : PySem.W.findIn K (.ref C) "__getattribute__" = some (some (.builtin "BaseException.__getattribute__"))
 gh : PySem.W.findIn K (.ref C) "__getattr__" = some none
 tail : L2E.Tail bm "ValueError"
 base : bm.contains (.type "BaseException") = true
 own : bm.contains (.type "object") = true
 pass : ∀ x,refuseLoop x "__setattr__" bm = pure ()
theorem zL2 {K : PySem.W.Frag} {h : Heap} {C : Addr} {x : Str} {v : Option Value} (X : K.In h) (e : PySem.W.findIn K (.ref C) x = some v) : L2E.Finds h C x v:=λ_ _ _ _ _ _ _ _ z=>(PySem.W.looks_findIn X e).here z
theorem zWO {K : PySem.W.Frag} {h : Heap} {f : Addr} (X : K.In h) (e : PySem.W.isFn K (.ref f) = true) : ∃ o, h.get? f = some o /\ o.cls = .type "function" := by
 have e : (K.lookup f).map (·.cls) = some (.type "function"):=yAc.mp e
 cases q : K.lookup f with
 | none=>rw [q] at e; cases e
 | some o=>rw [q] at e; exact ⟨o,X _ _ q,by injection e⟩
noncomputable def zI6 (e C : Addr) (dx : Option Addr) : HO := .ext λh=>∃ t0,h.get? e = some { cls := .ref C,dict:=dx,data := .fields #[.ref t0,.none,.none,.none,.bool false,.none] }
theorem zJW {P : Program} {w : World} {H : Hp} {h : Heap} {e C t0 : Addr} {dx : Option Addr} (he : h.get? e = some { cls := .ref C, dict := dx, data := .fields #[.ref t0, .none, .none, .none, .bool false, .none] }) : ObjOk P w H h e (zI6 e C dx) :=
 ⟨⟨t0,he⟩,⟨_,he⟩,λ_ _ ⟨t,q⟩ k=>⟨t,k _ q⟩⟩
theorem zJS {P : Program} {w : World} {H : Hp} {h : Heap} {e C : Addr} {dx : Option Addr} (ok : HOk P w H h) (he : H e = some (zI6 e C dx)) : ∃ t0,h.get? e = some { cls := .ref C,dict:=dx,data := .fields #[.ref t0,.none,.none,.none,.bool false,.none] }:=(ok e _ he).1
theorem zUA {H : Hp} {a : Addr} {o : HO} (h : H a = some o) : upd H a o = H := funext fun b => by
 by_cases e : b = a
 ·subst e; rw [zA2,h]
 ·rw [zA6 e]
section
variable {X : Cx} {p ap pos : Pos} {a b : Expr} {ta : TA}
theorem zVM {K : PySem.W.Frag} : PySem.W.findCls K (.type "ValueError") (.type "type") "__init__" = some (.val (.builtin "ValueError.__init__")) := by
 kernel_rfl
noncomputable def zY1 (K : PySem.W.Frag) (ta : TA) : TE:=λσ H Q=>ta σ H λvs H1=>∃ e C u f bm,vs = [.ref e,u]/\ErrC K C f bm/\H1 e = some (zI6 e C none)/\Q .non H1
theorem zST {pl : Sem Bool} (hg : Gl X "ValueError") (hm : X.mg "ValueError" = none) (ha : PA X [a, b] ta)
  (ht : eval (.Call (.Attribute (.Name "ValueError" p) "__init__" ap) [a, b] [] pos) X.env = (do
   let ov <- eval (.Name "ValueError" p) X.env
   standAt ap.atName
   let (f,first) <- holding [ov] (getMethod ov "__init__" pl)
   callWith pos f first (backTo pos (starEach [a,b] X.env)) (backToKw pos (keywordEach [] X.env))):=by rfl)
  (he : starEach [a,b] X.env = (false,eval a X.env)::starEach [b] X.env:=by rfl) (hpl : (backTo pos (starEach [b] X.env)).any (·.1) = false:=by rfl) :
  PE X (.Call (.Attribute (.Name "ValueError" p) "__init__" ap) [a,b] [] pos) (zY1 X.K ta):=by
 intro pins s σ H Q I h;refine yDC (pl:=pl) (zE2 I hg hm (by decide +kernel : bootBuiltins "ValueError" = some (.type "ValueError")) ?_) ht;have L0 : ∀ {M : Model} {h : Heap},PySem.W.Looks M h (typeOf (.type "ValueError")) (.type "type"):=PySem.W.Looks.of_pure (PySem.W.kitMeta_of (by decide +kernel));have hg0 : PySem.W.findIn X.K (.type "type") "__getattribute__" = some (some (.builtin "type.__getattribute__")):=PySem.W.type_tga;have L1 : PySem.W.Looks (model X.prog X.w) s.heap (specialOf (.type "ValueError") "__getattribute__") (some (.builtin "type.__getattribute__")):=L0.andThen (PySem.W.looks_findIn I.kIn hg0);unfold getMethod;refine yAD (L1.here ?_);dsimp only;rw [yAQ PySem.W.canon_tga];refine yAD (PySem.W.cls_open I.kIn (PySem.W.Looks.of_pure (by kernel_rfl)) L0 hg0 (PySem.W.looks_hook I.kIn (r:=none) (by rfl)) (by show PySem.W.subIn X.K _ _ = _; rfl) zVM (yAW ?_));show wpAny _ _ (handedOut _) _ _ _;rw [PySem.W.handedOut_of (by decide +kernel)];refine yAW (yAW ?_);have I0:=I.tok (s.toks + 1);refine yDD (thn (ha pos pins _ σ H _ I0 h) λus s1 ⟨vs,H1,I1,r1,q1⟩ => ?_) he hpl;obtain ⟨e,C,u,f,bm,rfl,ec,hH,q⟩:=q1
 cases r1 with
 | cons ra rb =>
  cases rb with
  | cons rc rd =>
   cases rd
   cases ra
   rename_i u'
   obtain ⟨nm,q0,N,bs,sn,sub,ab,col,dd,k0,k1,k2,k3,k5,lk⟩:=ec.obj;have at_:=I1.kIn _ _ lk;obtain ⟨t0,hx⟩:=zJS I1.hok hH;obtain ⟨hh,g,d,t,os⟩:=s1;refine L2E.initErr PySem.F.excBase_ValueError ec.tail.base at_ hx (by show 1 <= sizeLine; decide) λh' z1 z2 z3 => ?_;have J:=I1.write (h':=h') (x:=e) (e:=e) (o:=zI6 e C none) (t':=t) (by rw [hH]; exact True.intro) (.inl rfl) z1 ⟨_,z2⟩ (zJW z2);rw [zUA hH] at J;exact ⟨.non,H1,J,rfl,q⟩
structure ClsFn (K : PySem.W.Frag) (C f : Addr) : Prop where
 sp : PySem.W.specialIn K (.ref C) "__getattribute__" = some (some (.builtin "type.__getattribute__"))
 rd : PySem.W.readsIn K C (.type "type") = true
 fc : PySem.W.findCls K (.ref C) (.type "type") "__init__" = some (.val (.ref f))
 kp : PySem.W.keepIn K (.ref f) = true
theorem zHT {pl : Sem Bool} {CX : CXT} {E : XK} {k : Nat} {C f : Addr} {fd : FuncData} {ps : List Str} {sp : Sp} {x : Str} {es : List Expr} (cf : ClsFn X.K C f) (F : FnOk X.prog X.w X.K X.mg X.base CX k f fd ps sp) (hr : Room k X.A) (hb : Binds X.K fd ps []) (hx : zCV CX X E)
  (hg : Gl X x) (hm : X.mg x = some (.ref C)) (ha : PA X (a::es) ta)
  (ht : eval (.Call (.Attribute (.Name x p) "__init__" ap) (a :: es) [] pos) X.env = (do
   let ov <- eval (.Name x p) X.env
   standAt ap.atName
   let (f,first) <- holding [ov] (getMethod ov "__init__" pl)
   callWith pos f first (backTo pos (starEach (a::es) X.env)) (backToKw pos (keywordEach [] X.env))):=by rfl)
  (hdb : (x == ("__debug__" : Str)) = false:=by decide) (he : starEach (a::es) X.env = (false,eval a X.env)::starEach es X.env:=by rfl) (hpl : (backTo pos (starEach es X.env)).any (·.1) = false:=by rfl) :
  PE X (.Call (.Attribute (.Name x p) "__init__" ap) (a::es) [] pos) (zH8 sp [] E ta):=by
 intro pins s σ H Q I h;refine yDC (pl:=pl) (zCY I hg hm ?_ hdb) ht;refine PySem.W.method_cls I.kIn cf.sp (PySem.W.cls_value I.kIn cf.rd cf.fc rfl ?_);have I0:=I.tok (s.toks + 1);refine yCp (h₀ := X.base) I.ok.mod.kin cf.kp (thn (ha pos pins _ σ H _ I0 h) λus s1 ⟨vs,H1,I1,r,q⟩=>⟨I1.kIn,?_⟩) he hpl;exact zM1 F hr hb .nil hx I1 r q
end
section
variable {X : Cx} {pins : List (Addr × Obj)} {σ : St} {H : Hp} {s : Shared} {pos pos' : Pos} {o value : Expr} {fld : Str} {ta tv : TE}
noncomputable def zaV (K : PySem.W.Frag) (ta tv : TE) (fld : Str) : TS := fun D σ H => tv σ H fun y H1 => ta σ H1 fun x H2 => ∃ e C f bm, x = .ref e /\ ErrC K C f bm /\ PySem.W.findIn K (.ref C) fld = some none /\ H2 e = some (zI6 e C none) /\
 ∀ dx,H2 dx = none -> dx≠e -> D.nx σ (upd (upd H2 e (zI6 e C (some dx))) dx (.xd [(fld,y)]))
theorem zKS (ha : PE X o ta) (hv : PE X value tv) (hs : swapsWith value (some (.Attribute o fld pos')) pos.line X.env = pure false) : PS X (.Assign [.Attribute o fld pos'] value pos) (zaV X.K ta tv fld) := by
 intro pins s σ H D I h;refine plainObj_wpAny_Assign_Attribute (thn (hv pins s σ H _ I h) λu s1 ⟨y,H1,I1,ry,q⟩=>thn (ha pins s1 σ H1 _ I1 q) λov s2 ⟨x,H2,I2,rx,e,C,f,bm,ex,ec,nf,hH,q2⟩ => ?_) hs;subst ex;obtain rfl : ov = Value.ref e:=rx;obtain ⟨nm,q0,N,bs,sn,sub,ab,col,dd,k0,k1,k2,k3,k5,lk⟩:=ec.obj;have at_:=I2.kIn _ _ lk;obtain ⟨t0,hx⟩:=zJS I2.hok hH;obtain ⟨hh,g,d,t,os⟩:=s2;refine L2E.setErr PySem.F.store_ValueError ec.own at_ (ec.pass _) (zL2 I2.kIn ec.sa) (zL2 I2.kIn nf) hx rfl rfl (λc z=>nomatch z) λh' tk' z1 z2 z3 => ?_;have lt:=yAJ hx;have hn : H2 hh.objs.size = none:=I2.hok.fresh (yAE _);have J:=I2.write (h':=h') (x:=e) (e:=e) (o:=zI6 e C (some hh.objs.size)) (t':=tk') (by rw [hH]; exact True.intro) (.inl rfl) z3 ⟨_,z1⟩ (zJW z1);have ne : hh.objs.size≠e:=yBW lt;have hn' : upd H2 e (zI6 e C (some hh.objs.size)) hh.objs.size = none:=by rw [zA6 ne]; exact hn
 have J2:=J.take (D:=hh.objs.size) (o := .xd [(fld,y)]) (I2.fpOk (yAE _) hn') I2.sz ⟨_,z2,λn => ?_⟩
 ·exact ⟨σ,_,J2,q2 _ hn ne⟩
 ·show RelO (List.lookup n [(fld, y)]) _
  rw [yBw]
  by_cases c : n = fld
  ·subst c
   simp only [beq_self_eq_true,if_true];exact ry
  ·have : (n == fld) = false := by simpa using c
   rw [this,yAN c];exact True.intro
noncomputable def del (H : Hp) (e : Addr) : Hp:=λb=>if b = e then none else H b
theorem zCO {H : Hp} {e : Addr} : del H e e = none:=yAQ rfl
theorem zEV {H : Hp} {e b : Addr} (n : b≠e) : del H e b = H b:=yAN n
theorem zOU {H : Hp} {e : Addr} {o : HO} : del (upd H e o) e = del H e := funext fun b => by
 by_cases c : b = e
 ·subst c; rw [zCO,zCO]
 ·rw [zEV c,zEV c,zA6 c]
theorem zTB {H : Hp} {e a : Addr} {o : HO} (n : a ≠ e) : del (upd H a o) e = upd (del H e) a o := funext fun b => by
 by_cases c : b = e
 ·subst c; rw [zCO,zA6 n.symm,zCO]
 ·rw [zEV c]
  by_cases d : b = a
  ·subst d; rw [zA2,zA2]
  ·rw [zA6 d,zA6 d,zEV c]
theorem zSG {H : Hp} {e : Addr} (h : H e = none) : del H e = H := funext fun b => by
 by_cases c : b = e
 ·subst c; rw [zCO,h]
 ·rw [zEV c]
theorem Inv.drop {e C : Addr} {dx : Option Addr} (I : Inv X pins σ H s) (he : H e = some (zI6 e C dx)) : Inv X pins σ (del H e) s := by
 have nt : ∀ b u, H b = some u -> (∀ φ, u ≠ .ext φ) -> del H e b = some u := fun b u q n => by
  rw [zEV]
  ·exact q
  ·rintro rfl
   rw [he] at q; cases q;exact n _ rfl
 have nn : ∀ b, H b = none -> del H e b = none := fun b q => by
  by_cases c : b = e
  ·subst c; exact zCO
  ·rw [zEV c]; exact q
 refine ⟨I.ok,I.os,I.bare,⟨I.base.keep,I.base.slot,λb o q n hx=>nn b (I.base.free b o q n hx),I.base.there,λb xs q=>nt b _ (I.base.tups b xs q) (λ_ z=>nomatch z),λb o u q=>nt b _ (I.base.frzs b o u q) (λ_ z=>nomatch z),λb ps q => ?_⟩,I.loc,I.cell,nn _ I.free,λx c q=>nn c (I.freeC x c q),λp hp => ?_,λb u q => ?_,I.len⟩
 ·obtain ⟨m, z⟩ := I.base.tbls b ps q
  exact ⟨m,nt b _ z (λ_ y=>nomatch y)⟩
 ·obtain ⟨z1, z2, z3⟩ := I.pin p hp
  exact ⟨z1,nn _ z2,z3⟩
 ·have c : b ≠ e := by rintro rfl; rw [zCO] at q; cases q
  rw [zEV c] at q;exact (I.hok b u q).stay (λ_ _ _ z=>z) (λa z=>nt a _ z (λ_ y=>nomatch y)) λa xs z=>nt a _ z (λ_ y=>nomatch y)
theorem zWD {CX : CXT} {E : XK} {k : Nat} {C f : Addr} {bm : List Value} {fd : FuncData} {ps : List Str} {sp : Sp} {Q : Value -> Shared -> Prop} {us : List Value} {vs : List V} (M : ErrC X.K C f bm) (F : FnOk X.prog X.w X.K X.mg X.base CX k f fd ps sp) (hr : Room (k + 1) X.A) (hb : Binds X.K fd ps [])
  (hx : zCV CX X E) (I : Inv X pins σ H s) (r : Vals vs us) (few : us.length <= sizeLine)
  (h : ∀ e,s.heap.objs.size <= e -> H e = none -> sp (.ref e::vs) (upd H e (zI6 e C none)) (λv H2=>v = .non/\∀ s',Inv X pins σ H2 s' -> Q (.ref e) s') E) :
  wpAny (model X.prog X.w) X.A (call (.ref C) us) Q X.xe s:=by
 obtain ⟨nm,q0,N,bs,sn,sub,ab,col,dd,k0,k1,k2,k3,k5,lk⟩:=M.obj;have at_:=I.kIn _ _ lk;obtain ⟨of,hf,hc⟩:=zWO I.kIn M.fn;obtain ⟨hh,g,d,t,os⟩:=s;have hq:=h (hh.objs.size + 1) (yCl _) (I.hok.fresh (yCl _));have kl : PySem.W.Frag.In X.K (L2E.laid hh C us):=I.kIn.keeps λ_ _ z=>L2E.laid_old z;have I2 : Inv X pins σ (upd H (hh.objs.size + 1) (zI6 (hh.objs.size + 1) C none)) ⟨L2E.laid hh C us,g,d,t,os⟩:=I.laid (h':=L2E.laid hh C us) (a:=hh.objs.size + 1) (o:=zI6 (hh.objs.size + 1) C none) (t':=t) (λ_ _ z=>L2E.laid_old z) (yCl _) (zJW L2E.laid_new);have r2 : Vals (V.ref (hh.objs.size + 1)::vs) (Value.ref (hh.objs.size + 1)::us) := .cons rfl r
 have hl : (Value.ref (hh.objs.size + 1) :: us ++ []).length = ps.length := by
  rw [yBh,<- r2.length];exact F.len _ _ _ _ hq
 refine L2E.callErr PySem.F.excBase_ValueError M.tail at_ (zL2 kl M.init) hf hc few ?_;refine yDJ (yCM (F.run _ X.stack _ _ ⟨Value.ref (hh.objs.size + 1)::us,[]⟩ (Value.ref (hh.objs.size + 1)::us) _ _ E (hr.make C us []) (I2.env0.make C us []) (by have:=hb _ (Value.ref (hh.objs.size + 1)::us) I2.kIn hl; rw [yBh] at this; exact this) r2 hq) λr s' hq' => ?_)
 cases r with
 | error e=>exact hx pins σ _ _ e s' I2 hq'
 | ok fl =>
  cases fl with
  | ret u =>
   obtain ⟨v,H',I3,rv,ev,q3⟩:=I2.after hq';subst ev;exact ⟨rv,q3 _ I3⟩
  | next=>exact False.elim hq'
  | brk=>exact False.elim hq'
  | cont=>exact False.elim hq'
noncomputable def zUP (X : Cx) (E : XK) : Prop:=∀ (pins : List (Addr × Obj)) (σ : St) (H : Hp) (s : Shared) (e C dx : Addr) (vs : Array Value),Inv X pins σ H s -> s.heap.get? e = some { cls := .ref C,dict:=some dx,data := .fields vs } -> vs[1]? = some .none -> Own X pins H s.heap e -> E (.ref C) (some dx) H -> X.xe (.ref e) s
end
theorem zOC {P : Program} {w : World} {K : PySem.W.Frag} {mg : Str -> Option Value} {base : Heap} {N : List Str} {qual : Str} {scope : Scope} {f : Addr} {cd : Value} {A : Around} {outer : List Env} {s0 : Shared} {H0 : Hp} {E : XK} :
  zUP (zQ2 (CXE P w) P w K mg base N qual scope f cd A outer s0 H0 E) E:=by
 intro pins σ H s e C dx vs I hx h1 ow hE;have le:=yAJ hx;show wpAny _ _ (leaving _ (.ref e)) _ _ _;refine L2E.leaveOff (base:=base) I.ok.frames I.stack rfl hx rfl (.inl h1) λh' T' O => ?_;have J:=I.off (h':=h') rfl rfl O ow λT2 hT2'=>by rw [h1] at hT2'; cases hT2'
 have hv1 : 1 < vs.size:=(yBD.mp h1).1;exact ⟨e,C,dx,T',H,rfl,J.os,J.bare,J.base,J.hok,⟨⟨_,#[],O.err,by simp [hv1]⟩,yBW (yAh le O.fresh),O.tb⟩,ow.new,yAk I.sz O.fresh,ow.free,I.hok.fresh O.fresh,hE⟩
noncomputable def zLK (K : PySem.W.Frag) : Sp:=λvs H Q _=>∃ e C u f bm,vs = [.ref e,u]/\ErrC K C f bm/\H e = some (zI6 e C none)/\Q .non H
noncomputable def zJN (C : Addr) (fld : Str) : Sp:=λvs H Q _=>∃ e v,vs = [.ref e,v]/\H e = some (zI6 e C none)/\∀ dx,H dx = none -> dx≠e -> Q .non (upd (upd H e (zI6 e C (some dx))) dx (.xd [(fld,v)]))
section
variable {X : Cx} {a : Expr} {t : TA} {E : XK} {k : Nat} {C f : Addr} {bm : List Value} {fd : FuncData} {ps : List Str} {x fld : Str} {p cpos pos : Pos}
noncomputable def zYC (C : Addr) (fld : Str) (E : XK) (t : TA) : TS:=λ_ σ H=>t σ H λvs H1=>∃ v,vs = [v]/\∀ dx,H1 dx = none -> E (.ref C) (some dx) (upd H1 dx (.xd [(fld,v)]))
theorem zFM (hc : X.calm = true) (M : ErrC X.K C f bm) (F : FnOk X.prog X.w X.K X.mg X.base CX0 k f fd ps (zJN C fld)) (hr : Room (k + 1) X.A) (hb : Binds X.K fd ps []) (hg : Gl X x) (hm : X.mg x = some (.ref C)) (ht : zUP X E) (ha : PA X [a] t)
  (hdb : (x == ("__debug__" : Str)) = false:=by decide) (he : starEach [a] X.env = (false,eval a X.env)::starEach [] X.env:=by rfl) (hpl : (backTo cpos (starEach [] X.env)).any (·.1) = false:=by rfl) :
  PS X (.Raise (some (.Call (.Name x p) [a] [] cpos)) none pos) (zYC C fld E t):=by
 intro pins s σ H D I h;obtain ⟨nm,q0,N,bs,sn,sub,ab,col,dd,k0,k1,k2,k3,k5,lk⟩:=M.obj
 have go : wpAny (model X.prog X.w) X.A (eval (.Call (.Name x p) [a] [] cpos) X.env) (fun v s1 => ∃ e dx ta sl, v = .ref e /\ s1.heap.get? C = some (excClassObj nm q0 C N bs bm true sn sub ab col dd k0 k1 k2 k3 k5 "ValueError.__new__") /\ s1.heap.get? e = some { cls := .ref C, dict := dx, data := .fields #[.ref ta, .none, .none, .none, .bool false, .none], slots := sl } /\ X.xe (.ref e) s1) X.xe s := by
  refine yBs (zCY I hg hm ?_ hdb);refine yCp (h₀ := X.base) I.ok.mod.kin M.kp (thn (ha cpos pins s σ H _ I h) λus s1 ⟨vs,H1,I1,r,q⟩=>⟨I1.kIn,?_⟩) he hpl;obtain ⟨v,rfl,q⟩:=q;obtain ⟨u,rfl,ru⟩:=zDN r;refine zWD M F hr hb zAD I1 r (by show 1 <= sizeLine; decide) λe le hn=>⟨e,v,rfl,zA2,λdx hdx ne=>⟨rfl,λs' I' => ?_⟩⟩;rw [zA6 ne] at hdx;have hE:=q dx hdx;have heq : (upd (upd (upd H1 e (zI6 e C none)) e (zI6 e C (some dx))) dx (.xd [(fld,v)])) e = some (zI6 e C (some dx)):=by rw [zA6 ne.symm,zA2]
  obtain ⟨t0,hx⟩:=zJS I'.hok heq;have I'':=I'.drop heq;rw [zTB ne,zOU,zOU,zSG hn] at I'';refine ⟨e,some dx,t0,#[],rfl,I'.kIn _ _ lk,hx,ht pins σ _ s' e C dx _ I'' hx rfl ⟨yAk I1.sz le,by rw [zA6 ne.symm]; exact hn,⟨_,_,hx,rfl⟩,λp hp z => ?_⟩ hE⟩
  have:=yAJ (I1.pin p hp).1
  rw [z] at this;exact absurd (yAh this le) (yBV _)
 rw [arm_exec_Raise]
 first
  | exact yAD (yBy (L2E.raiseErr M.base (I.ok.hd hc) (yAD (yBO go (λv s₁ h₁ => yAD (yBy (yAW h₁))) λ_ _ x=>x))))
  | (simp only [evalOpt,Option.map]; exact yAD (yBy (L2E.raiseErr M.base (I.ok.hd hc) (yAD (yBO go (λv s₁ h₁ => yAD (yBy (yAW h₁))) λ_ _ x=>x)))))
  | (show wpAny _ _ (do standAt pos; raiseStmt X.env (some (do let v <- eval (.Call (.Name x p) [a] [] cpos) X.env; standAt pos; pure v)) none) _ _ s; exact yAD (yBy (L2E.raiseErr M.base (I.ok.hd hc) (yAD (yBO go (λv s₁ h₁ => yAD (yBy (yAW h₁))) λ_ _ x=>x)))))
end
theorem Fun.okE {P : Program} {w : World} {K : PySem.W.Frag} {mg : Str -> Option Value} {base : Heap} {x qual : Str} {st : Stmt} {f : Addr} {fd : FuncData} {N ps : List Str} {k : Nat} {sp : Sp} (F : Fun K x qual st f fd) (S : FnScope N ps (zA7 st)) (len : ∀ vs H Q E, sp vs H Q E -> vs.length = ps.length)
  (hbody : ∀ (cdv : Value) (A : Around) (outer : List Env) (s : Shared) (H : Hp) (vs : List V) (Q : VK) (E : XK), Room k (A.deeper (envOfC qual (zA7 st) s.heap.objs.size f cdv)) -> sp vs H Q E ->
   ∃ t,PSs (zQ2 (CXE P w) P w K mg base N qual (zA7 st) f cdv A outer s H E) (zCM st) t/\t { nx:=λ_ H'=>Q .non H',rt:=Q } (zGF N vs) H) : FnOk P w K mg base (CXE P w) (k + 1) f fd ps sp:=by
 obtain ⟨oc,od,kV,doc,pm,an,cdv,ct,osl,rfl,lk,hcd⟩:=F.ex;exact zZL lk hcd S len λA outer s H vs Q E hr hsp=>hbody cdv A outer s H vs Q E hr hsp
noncomputable abbrev Cx.pinned (X : Cx) (pn : List (Addr × Obj)) : Cx:={ X with pn:=pn }
noncomputable abbrev Cx.suite (X : Cx) (e : Value) : Cx:={ X with A:=X.A.mark (some e),calm:=false,xe:=λ_ _=>False }
section
variable {X : Cx} {pins : List (Addr × Obj)} {σ : St} {H : Hp} {s : Shared} {E : XK} {xe : Value -> Shared -> Prop} {ev : Value}
theorem Inv.pinT (I : Inv X pins σ H s) : Inv (X.pinned (X.pn ++ pins)) [] σ H s :=
 ⟨⟨I.ok.mod,I.ok.kind,I.ok.glob,I.ok.blt,I.ok.above,I.ok.inj,I.ok.has,I.ok.cab,I.ok.hd,I.ok.frames,I.ok.stk,I.ok.exf,I.ok.bs,I.ok.bsz,I.ok.noex,I.ok.exfs,I.ok.funs,I.ok.frf⟩,I.os,I.bare,I.base,I.loc,I.cell,I.free,I.freeC,λp hp=>I.pin p (by simpa using hp),I.hok,I.len⟩
theorem Inv.unpinT {ps : List (Addr × Obj)} (I : Inv (X.pinned (X.pn ++ pins)) ps σ H s) : Inv X pins σ H s :=
 ⟨⟨I.ok.mod,I.ok.kind,I.ok.glob,I.ok.blt,I.ok.above,I.ok.inj,I.ok.has,I.ok.cab,I.ok.hd,I.ok.frames,I.ok.stk,I.ok.exf,I.ok.bs,I.ok.bsz,I.ok.noex,I.ok.exfs,I.ok.funs,I.ok.frf⟩,I.os,I.bare,I.base,I.loc,I.cell,I.free,I.freeC,λp hp=>I.pin p (yBj _ hp),I.hok,I.len⟩
theorem Inv.suite (I : Inv X pins σ H s) (e : Value) : Inv (X.suite e) pins σ H s :=
 ⟨⟨I.ok.mod,I.ok.kind,I.ok.glob,I.ok.blt,I.ok.above,I.ok.inj,I.ok.has,I.ok.cab,(λz=>absurd z (by simp)),I.ok.frames,I.ok.stk,I.ok.exf,I.ok.bs,I.ok.bsz,I.ok.noex,I.ok.exfs,I.ok.funs,I.ok.frf⟩,I.os,I.bare,I.base,I.loc,I.cell,I.free,I.freeC,I.pin,I.hok,I.len⟩
theorem Inv.unsuite (ok : X.Ok) (I : Inv (X.suite ev) pins σ H s) : Inv X pins σ H s:=⟨ok,I.os,I.bare,I.base,I.loc,I.cell,I.free,I.freeC,I.pin,I.hok,I.len⟩
theorem SP.unpinned {D : Ends} {f : Flow} (h : SP ((X.pinned (X.pn ++ pins)).wish xe) [] D f s) : SP X pins D f s := by
 cases f with
 | next=>obtain ⟨σ',H',I,q⟩:=h; exact ⟨σ',H',I.unwish.unpinT,q⟩
 | brk=>obtain ⟨σ',H',I,q⟩:=h; exact ⟨σ',H',I.unwish.unpinT,q⟩
 | cont=>obtain ⟨σ',H',I,q⟩:=h; exact ⟨σ',H',I.unwish.unpinT,q⟩
 | ret u=>obtain ⟨v,σ',H',I,r,q⟩:=h; exact ⟨v,σ',H',I.unwish.unpinT,r,q⟩
end
noncomputable def XE (X : Cx) (E : XK) : Value -> Shared -> Prop := fun ev s' => ∃ (e C dx : Addr) (vs : Array Value) (sl : Array (Option Value)) (σ' : St) (H' : Hp), ev = .ref e /\ Inv X [] σ' H' s' /\ s'.heap.get? e = some { cls := .ref C, dict := some dx, data := .fields vs, slots := sl } /\ Own X [] H' s'.heap e /\
 (vs[1]? = some .none \/ ∃ T oT ts,vs[1]? = some (.ref T)/\T≠e/\s'.heap.get? T = some oT/\oT.data = .fields ts/\ts[3]? = some .none/\Own X [] H' s'.heap T)/\E (.ref C) (some dx) H'
theorem Inv.nopins {X : Cx} {pins : List (Addr × Obj)} {σ : St} {H : Hp} {s : Shared} (I : Inv X pins σ H s) : Inv X [] σ H s:=I.pins_of λp hp=>nomatch hp
theorem zb6 {Y : Cx} {E : XK} : zCV (CXE Y.prog Y.w) (Y.wish (XE Y E)) E := by
 intro pins σ H s ev s' I hc;obtain ⟨e,C,dx,T,H',rfl,os,bare,un,hok,fly,e1,t1,he,hT,hE⟩:=hc;obtain ⟨hh,g,d,t,os'⟩:=s';obtain rfl : os' = s.os:=os;have I':=I.call (h':=hh) (g':=g) (d':=d) (t':=t) (ch:=[]) un hok bare (λb z=>absurd z (by simp));obtain ⟨vs,sl,hx,h1⟩:=fly.ex;obtain ⟨oT,ts,hT1,hT2,hT3⟩:=fly.tb
 have pl : ∀ b, s.heap.objs.size <= b -> ∀ p ∈ (Y.wish (XE Y E)).pn ++ pins, p.1 ≠ b := fun b hb p hp z => by
  have:=yAJ (I.pin p hp).1
  rw [z] at this;exact absurd (yAh this hb) (yBV _)
 have own : ∀ b,s.heap.objs.size <= b -> H' b = none -> (∃ o vs,hh.get? b = some o/\o.data = .fields vs) -> Own Y [] H' hh b:=λb hb hn hr=>⟨yAk I.sz hb,hn,hr,λp hp=>pl b hb p (yBj _ (by simpa using hp))⟩;exact ⟨e,C,dx,vs,sl,σ,H',rfl,I'.unwish.nopins,hx,own e e1 he ⟨_,vs,hx,rfl⟩,.inr ⟨T,oT,ts,h1,fly.ne,hT1,hT2,hT3,own T t1 hT ⟨oT,ts,hT1,hT2⟩⟩,hE⟩
noncomputable def PH (X : Cx) (hs : List ExceptHandler) (t : Addr -> Addr -> TS) : Prop := ∀ (pins : List (Addr × Obj)) (s : Shared) (σ : St) (H : Hp) (D : Ends) (e C dx T : Addr), Inv X pins σ H s -> Fly s.heap e C dx T -> Own X pins H s.heap e -> Own X pins H s.heap T -> t C dx D σ H ->
 wpAny (model X.prog X.w) X.A (handleBy (.ref e) X.env hs) (SP X pins D) X.xe s
noncomputable def zcV (tb : XK -> TS) (th : Addr -> Addr -> TS) : TS:=λD σ H=>∃ E : XK,tb E D σ H/\∀ C dx σ' H',E (.ref C) (some dx) H' -> σ'.length = σ.length -> th C dx D σ' H'
theorem zYS {X : Cx} {body : List Stmt} {h₀ : ExceptHandler} {hs : List ExceptHandler} {pos : Pos} {tb : XK -> TS} {th : Addr -> Addr -> TS} (hst : X.stack = X.env :: X.outer) (hfr : X.env.frame = some X.env.locals)
  (hb : ∀ (pn : List (Addr × Obj)) (E : XK),PSs ((X.pinned pn).wish (XE (X.pinned pn) E)) body (tb E)) (hh : PH X (h₀ :: hs) th) : PS X (.Try body (h₀ :: hs) [] [] pos) (zcV tb th):=by
 intro pins s σ H D I ⟨E,ht,hx⟩;refine wpAny_Try_except (yBO (hb (X.pn++pins) E [] s σ H D (I.pinT.wish _) ht) (λf s1 hs => ?_) (λev s1 hx1 => ?_))
 ·have q := SP.unpinned hs
  cases f with
  | next=>exact yDK q
  | brk=>exact q
  | cont=>exact q
  | ret u=>exact q
 ·obtain ⟨e, C, dx, vs, sl, σ', H', rfl, I', hx', oe, fl, hE⟩ := hx1
  have le:=yAJ hx';refine L2E.noteOff (base:=X.base) (env:=X.env) (outer:=X.outer) (L:=X.env.locals) (by rw [<- hst]; exact I'.ok.frames) (by rw [<- hst]; exact I'.stack) hfr hx' rfl (fl.elim .inl λ⟨T,oT,ts,a1,a2,a3,a4,a5,_⟩ => .inr ⟨T,oT,ts,a1,a2,a3,a4,a5⟩) λh' T' O => ?_;rw [<- hst] at O
  have J := I'.off (h' := h') hst hfr O oe fun T hT => by
   rcases fl with fl | ⟨T2,oT,ts,a1,a2,a3,a4,a5,a6⟩
   ·rw [fl] at hT; cases hT
   ·rw [a1] at hT; cases hT; exact a6
  have hv1 : 1 < vs.size := by
   rcases fl with fl | ⟨T2,oT,ts,a1,_⟩
   ·exact (yBD.mp fl).1
   ·exact (yBD.mp a1).1
  have fly : Fly h' e C dx T':=⟨⟨_,sl,O.err,by simp [hv1]⟩,yBW (yAh le O.fresh),O.tb⟩;have oe2 : Own X pins H' h' e:=⟨oe.new,oe.free,⟨_,_,O.err,rfl⟩,λp hp=>oe.pin p (by simpa using hp)⟩;obtain ⟨oT,ts,t1,t2,t3⟩:=O.tb
  have oT2 : Own X pins H' h' T' := ⟨yAk I'.sz O.fresh, I'.hok.fresh O.fresh, ⟨oT, ts, t1, t2⟩, fun p hp z => by
   have:=yAJ (I'.pin p (by simpa using hp)).1
   rw [z] at this;exact absurd (yAh this O.fresh) (yBV _)⟩
  exact hh pins _ σ' H' D e C dx T' J.unpinT fly oe2 oT2 (hx C dx σ' H' hE (I'.len.trans I.len.symm))
section
variable {X : Cx} {pins : List (Addr × Obj)} {σ : St} {H : Hp} {s : Shared}
theorem Own.fp {b : Addr} (I : Inv X pins σ H s) (o : Own X pins H s.heap b) : zGL X pins H b := by
 obtain ⟨ob,vs,h1,h2⟩:=o.recd;refine ⟨o.free,?_,?_,.inr o.new,?_,o.pin⟩
 ·rintro rfl
  obtain ⟨m,⟨o',es,ep,ho,hd,_⟩,_⟩:=I.loc;rw [h1] at ho; cases ho; rw [h2] at hd; cases hd
 ·intro hb
  obtain ⟨_,o',ho,hd⟩:=I.funs.mem hb;rw [h1] at ho; cases ho; exact hd vs h2
 ·rintro x c hc rfl
  obtain ⟨v,o',ho,hd⟩:=I.cell x c hc;rw [h1] at ho; cases ho; rw [h2] at hd; cases hd
end
section
variable {X : Cx} {i : Nat} {n k fld : Str} {kp hp pos ap : Pos} {b₀ : Stmt} {suite : List Stmt} {rest : List ExceptHandler} {Ck : Addr} {ts : TS} {tr : Addr -> Addr -> TS}
theorem zZ4 : PH X [] (λ_ _ _ _ _=>False):=λ_ _ _ _ _ _ _ _ _ _ _ _ _ h=>False.elim h
end
noncomputable def zXT : Key -> PyData
 | .inl i => .int i
 | .inr x => .str x
mutual
inductive DW (K : PySem.W.Frag) (H : Hp) : V -> PyData -> Prop
 | non : DW K H .non .none
 | bl (b : Bool) : DW K H (.bl b) (.bool b)
 | int (i : Int) : DW K H (.int i) (.int i)
 | str (x : Str) : DW K H (.str x) (.str x)
 | lst {a : Addr} {xs : List V} {ds : List PyData} : SqL K H a xs -> a≠sysModules -> DWs K H xs ds -> DW K H (.ref a) (.list ds)
 | tup {a : Addr} {xs : List V} {ds : List PyData} : SqT K H a xs -> DWs K H xs ds -> DW K H (.ref a) (.tuple ds)
 | dct {a : Addr} {kvs : List (Key × V)} {ds : List PyData} : H a = some (.dK kvs) -> DWs K H (kvs.map (·.2)) ds -> DW K H (.ref a) (.dict ((kvs.map λp=>zXT p.1).zip ds))
inductive DWs (K : PySem.W.Frag) (H : Hp) : List V -> List PyData -> Prop
 | nil : DWs K H [] []
 | cons {x : V} {xs : List V} {d : PyData} {ds : List PyData} : DW K H x d -> DWs K H xs ds -> DWs K H (x::xs) (d::ds)
end
theorem DWs.len {K : PySem.W.Frag} {H : Hp} : ∀ {xs : List V} {ds : List PyData}, DWs K H xs ds -> xs.length = ds.length
 | _,_,.nil=>rfl
 | _,_,.cons _ t=>congrArg (· + 1) t.len
section
variable {X : Cx} {pins : List (Addr × Obj)} {σ : St} {H : Hp} {s : Shared}
theorem zOJ : ∀ {kvs : List (Key × V)} {vs : List (Key × Value)}, KV kvs vs -> Vals (kvs.map (·.2)) (vs.map (·.2))
 | _,_,.nil => .nil
 | _,_,.cons r t => .cons r.2 (zOJ t)
theorem zGQ {P : Program} {w : World} : ∀ {es : List DictEntry} {vs : List (Key × Value)}, Pairs (zAI P w) es vs -> es.map (·.val) = vs.map (·.2)
 | _,_,.nil=>rfl
 | _,_,.cons _ e t=>by rw [yAl,yAl,e,zGQ t]
theorem zQG {P : Program} {w : World} {h : Heap} {k : Key} {v : Value} (e : (zAI P w).is k v = true) : Reads h v (zXT k) [] := by
 rw [zNV] at e
 rcases zAW e with ⟨i,t,rfl,rfl⟩ | ⟨x,t,rfl,rfl⟩
 ·exact .int i t
 ·exact .str x t
theorem zGO {P : Program} {w : World} {h : Heap} : ∀ {es : List DictEntry} {kvs : List (Key × V)} {vs : List (Key × Value)}, Pairs (zAI P w) es vs -> KV kvs vs -> ReadsAll h (es.map (·.key)) (kvs.map fun p => zXT p.1) []
 | _,_,_,.nil,.nil => .nil
 | _,_,_,.cons a _ t,.cons r u=>by
  have q:=zQG (h:=h) a;rw [<- r.1] at q;exact .cons q (zGO t u)
mutual
theorem DW.reads (I : Inv X pins σ H s) : ∀ {v : V} {d : PyData} {u : Value}, DW X.K H v d -> RelV v u -> ∃ as, Reads s.heap u d as /\ sysModules ∉ as
 | _,_,_,.non,r=>by cases r; exact ⟨_,.none,by simp⟩
 | _,_,_,.bl b,r=>by cases r; exact ⟨_,.bool b,by simp⟩
 | _,_,_,.int i,r=>by obtain ⟨t,rfl⟩:=r; exact ⟨_,.int i t,by simp⟩
 | _,_,_,.str x,r=>by obtain ⟨t,rfl⟩:=r; exact ⟨_,.str x t,by simp⟩
 | _,_,_,.lst hq ne hs,r=>by
  cases r
  obtain ⟨its,rv,⟨o,n,e,c,_,d⟩,_⟩:=I.list hq;obtain ⟨as,q,z⟩:=DWs.reads I hs rv
  exact ⟨_, .list e c d (by simpa using q), fun m => by
   rcases yAb.mp m with m | m
   ·exact ne m.symm
   ·exact z m⟩
 | _,_,_,.tup hq hs,r=>by
  cases r
  obtain ⟨its,rv,p,_⟩:=I.tuple hq;obtain ⟨as,q,z⟩:=DWs.reads I hs rv;obtain ⟨o,e,c,n,d⟩:=p;exact ⟨_,.tuple e c d (by simpa using q),z⟩
 | _,_,_,@DW.dct _ _ a kvs ds hq hs,r=>by
  cases r
  obtain ⟨_,ne,vs,kv,o,es,ep,e,ex,dd,_,ps,_⟩:=I.hok _ _ hq;obtain ⟨as,q,z⟩:=DWs.reads I hs (zOJ kv);have hl : ds.length = kvs.length:=by have:=hs.len; rw [yAB] at this; exact this.symm
  rw [<- zGQ ps] at q;have e1 : ((kvs.map λp=>zXT p.1).zip ds).map (·.1) = kvs.map λp=>zXT p.1:=List.map_fst_zip (by rw [yAB]; lia);have e2 : ((kvs.map λp=>zXT p.1).zip ds).map (·.2) = ds:=List.map_snd_zip (by rw [yAB]; lia);refine ⟨_,.dict e ex.1 dd (by rw [e1]; exact zGO ps kv) (by rw [e2]; exact q),λm => ?_⟩
  rcases yAa.mp m with m | m
  ·rcases yAb.mp m with m | m
   ·rw [<- m] at ne; simp at ne
   ·cases m
  ·exact z m
theorem DWs.reads (I : Inv X pins σ H s) : ∀ {vs : List V} {ds : List PyData} {us : List Value}, DWs X.K H vs ds -> Vals vs us -> ∃ as, ReadsAll s.heap us ds as /\ sysModules ∉ as
 | _,_,_,.nil,.nil=>⟨_,.nil,by simp⟩
 | _,_,_,.cons h t,.cons r rs=>by
  obtain ⟨as,q,z⟩:=DW.reads I h r;obtain ⟨bs,q',z'⟩:=DWs.reads I t rs;exact ⟨_,.cons q q',λm=>(yAa.mp m).elim z z'⟩
end
end
section
variable {X : Cx} {k : Nat}
noncomputable def zV9 (K : PySem.W.Frag) : List V -> Hp -> VK -> Prop:=λxs H Q=>∃ x d,xs = [x]/\DW K H x d/\d.showable = true/\d.depth <= 100/\d.shown.length <= sizeLine/\Q (.str d.shown) H
theorem zNO (hr : Room k X.A) : zCW X (.builtin "repr") (zV9 X.K) := by
 intro pins s σ H xs us Q I r h;obtain ⟨x,d,rfl,hd,h1,h3,h4,q⟩:=h;obtain ⟨u,rfl,ru⟩:=zDN r;obtain ⟨as,rd,z⟩:=hd.reads I ru;have fin : ∀ t : Tok,∀ tk,EP X pins σ Q (.str d.shown t) { s with toks:=tk }:=λt tk=>⟨.str d.shown,H,I.tok _,⟨_,rfl⟩,q⟩
 cases hd with
 | non=>cases ru; exact PySem.P.repr_of_none (fin _ _)
 | bl b =>
  cases ru
  refine PySem.P.repr_of_bool ?_;have e : (PyData.bool b).shown = (if b then "True" else "False" : Str):=PyData.shown_bool b;rw [e] at fin
  cases b <;> exact fin _ _
 | int i=>obtain ⟨t,rfl⟩:=ru; exact PySem.P.repr_of_int (by simpa [PyData.showable] using h1) (by have:=fin s.toks (s.toks + 1); rw [PyData.shown_int] at this; exact this)
 | str y=>obtain ⟨t,rfl⟩:=ru; exact PySem.P.repr_of_str (by have:=fin s.toks (s.toks + 1); rw [yDj] at this; exact this) (by rw [yDj] at h4; exact h4)
 | @lst a xs ds hq _ hs =>
  cases ru
  exact yDU rd h1 (λ_=>z) hr.gd (by have:=hr.un; lia) (λ_ _ e=>e) (λh' u tk hk=>⟨.str _,H,I.kept (t':=tk) hk,⟨_,rfl⟩,q⟩) h4
 | @tup a xs ds hq hs =>
  cases ru
  exact yDU rd h1 (λ_=>z) hr.gd (by have:=hr.un; lia) (λ_ _ e=>e) (λh' u tk hk=>⟨.str _,H,I.kept (t':=tk) hk,⟨_,rfl⟩,q⟩) h4
 | @dct a kvs ds hq hs =>
  cases ru
  exact yDU rd h1 (λ_=>z) hr.gd (by have:=hr.un; lia) (λ_ _ e=>e) (λh' u tk hk=>⟨.str _,H,I.kept (t':=tk) hk,⟨_,rfl⟩,q⟩) h4
end
section
variable {X : Cx}
end
noncomputable def zYB : Expr -> Option V
 | .Constant (.int i) _ _=>some (.int i)
 | .Constant (.str x) _ _=>some (.str x)
 | .Constant (.bool b) _ _=>some (.bl b)
 | .Constant .none _ _=>some .non
 | _=>none
noncomputable def zZF (cs : List V) (t : TA) : TA:=λσ H Q=>t σ H λvs H1=>Q (cs++vs) H1
theorem zVE {X : Cx} {e : Expr} {es : List Expr} {c : V} {cs : List V} {t : TA} (h : zYB e = some c) (hr : PA X es (zZF cs t)) : PA X (e :: es) (zZF (c :: cs) t) := by
 have main : ∀ {te : TE}, PE X e te -> (∀ σ H Q, te σ H Q = Q c H) -> starEach (e :: es) X.env = (false, eval e X.env) :: starEach es X.env -> PA X (e :: es) (zZF (c :: cs) t) := fun {te} he hte hs => by
  have q:=zA0 he hr hs;intro pos pins s σ H Q I hw;refine q pos pins s σ H Q I ?_;show te σ H _;rw [hte];exact hw
 unfold zYB at h
 split at h
 ·cases h; exact main zA8 (λ_ _ _=>rfl) rfl
 ·cases h; exact main zBB (λ_ _ _=>rfl) rfl
 ·cases h; exact main zDJ (λ_ _ _=>rfl) rfl
 ·cases h; exact main zCA (λ_ _ _=>rfl) rfl
 ·cases h
theorem zOX {X : Cx} {t : TA} : ∀ (n : Nat) {es : List Expr} {cs : List V}, (es.take n).map zYB = cs.map some -> PA X (es.drop n) t -> PA X es (zZF cs t)
 | 0,es,cs,h,hr=>by
  cases cs with
  | nil=>exact hr
  | cons _ _=>simp at h
 | n + 1,[],cs,h,hr=>by
  cases cs with
  | nil=>exact hr
  | cons _ _=>simp at h
 | n + 1,e::es,cs,h,hr=>by
  cases cs with
  | nil=>simp at h
  | cons c cs =>
   simp only [List.take_succ_cons,yAl,List.cons.injEq] at h;exact zVE h.1 (zOX n h.2 hr)
noncomputable def zZZ (cs : List V) : TA:=λ_ H Q=>Q cs H
theorem zW4 {X : Cx} (cs : List V) {es : List Expr} (h : es.map zYB = cs.map some := by rfl) : PA X es (zZZ cs) := by
 have q : PA X es (zZF cs zFB):=zOX es.length (by rw [yAt (yAE _)]; exact h) (by rw [yCw (yAE _)]; exact zA1);intro pos pins s σ H Q I hw;refine q pos pins s σ H Q I ?_;show Q (cs++[]) H;rw [yBh];exact hw
structure PEH (X : Cx) (e : Expr) (t : TE) : Prop where
 out : PE X e t
structure PAH (X : Cx) (es : List Expr) (t : TA) : Prop where
 out : PA X es t
structure PSH (X : Cx) (st : List Stmt) (t : TS) : Prop where
 out : PSs X st t
section
variable {X : Cx}
theorem zW6 {i j pos} : PEH X (.Constant (.int i) j pos) (tC (.int i)):=PEH.mk zA8
theorem zKJ : PAH X [] zFB:=PAH.mk zA1
theorem zDY {e : Expr} {es : List Expr} {te : TE} {t : TA} (ha : PEH X e te) (hr : PAH X es t) (hs : starEach (e::es) X.env = (false,eval e X.env)::starEach es X.env:=by rfl) : PAH X (e::es) (zBO te t):=PAH.mk (zA0 ha.out hr.out hs)
theorem zQJ {es : List Expr} {t : TA} {pos} (h : PAH X es t) : PEH X (.List es pos) (zUM t):=PEH.mk (zAQ h.out)
theorem zYV {c : Expr} {a b : List Stmt} {tc : TT} {t u : TS} {pos} (hc : PT X c tc) (ha : PSH X a t) (hb : PSs X b u) : PS X (.If c a b pos) (zc5 tc t u):=zB7 hc ha.out hb
end
theorem zFC {X : Cx} (cs : List V) {es : List Expr} (h : es.map zYB = cs.map some:=by rfl) : PAH X es (zZZ cs):=PAH.mk (zW4 cs h)
theorem Fun.okH {P : Program} {w : World} {K : PySem.W.Frag} {mg : Str -> Option Value} {base : Heap} {x qual : Str} {st : Stmt} {f : Addr} {fd : FuncData} {N ps : List Str} {k : Nat} {sp : Sp} (F : Fun K x qual st f fd) (S : FnScope N ps (zA7 st)) (len : ∀ vs H Q E, sp vs H Q E -> vs.length = ps.length)
  (hbody : ∀ (cdv : Value) (A : Around) (outer : List Env) (s : Shared) (H : Hp) (vs : List V) (Q : VK) (E : XK), Room k (A.deeper (envOfC qual (zA7 st) s.heap.objs.size f cdv)) -> sp vs H Q E ->
   ∃ t,PSH (zQ2 CX0 P w K mg base N qual (zA7 st) f cdv A outer s H E).nox (zCM st) t/\t { nx:=λ_ H'=>Q .non H',rt:=Q } (zGF N vs) H) : FnOk P w K mg base CX0 (k + 1) f fd ps sp :=
 F.ok S len λcdv A outer s H vs Q E hr h=>let ⟨t,a,b⟩:=hbody cdv A outer s H vs Q E hr h; ⟨t,a.out,b⟩
theorem zM5 {X : Cx} {sts rest : List Stmt} {es : List Expr} {x : Str} {p p1 p2 : Pos} {i : Nat} {t : TA} {t2 : TS} (h : sts = .Assign [.Name x p] (.List es p1) p2 :: rest) (nd : X.N.Nodup) (hi : X.N[i]? = some x) (hx : X.env.scope.names.lookup x = some .local \/ X.env.scope.names.lookup x = some .cell) (ha : PAH X es t) (hr : PSs X rest t2)
  (hf : X.fn x = true \/ X.env.scope.names.lookup x = some .local:=by first | exact .inl rfl | exact .inr rfl | assumption) : PSH X sts (zaU (zUT (zUM t) (zEB i)) t2):=by
 rw [h];exact PSH.mk (zA3 (zAE (i:=i) nd hi hx (zAQ ha.out)) hr)
structure PS1 (X : Cx) (st : Stmt) (t : TS) : Prop where
 out : PS X st t
structure PIH (X : Cx) (tg e : Expr) (t : TI) : Prop where
 out : PI X tg e t
section
variable {X : Cx}
theorem zL4 {st : Stmt} {rest : List Stmt} {t u : TS} (h1 : PS1 X st t) (h2 : PSH X rest u) : PSH X (st::rest) (zaU t u):=PSH.mk (zA3 h1.out h2.out)
theorem zSX {st : Stmt} {t : TS} (h1 : PS1 X st t) : PSH X [st] t:=PSH.mk (zA4 h1.out)
theorem zXC {tg iter : Expr} {body : List Stmt} {wi : TI} {g : TG} {tb : TS} {pos : Pos} (hp : PassesOwn (model X.prog X.w) X.A X.env X.xe) (hc : X.calm = true) (hi : PIH X tg iter wi) (hg : PG X tg g) (hb : PSs X body tb)
  (hs : ∀ x,foldedSetIterable iter X.env x = pure x:=by intro _; rfl) : PS1 X (.For tg iter body [] pos) (zcB wi g tb):=PS1.mk (zC8 hp hc hi.out hg hb hs)
theorem zNL {tg a : Expr} {ta : TA} {p pos : Pos} (hg : Gl X "range") (hm : X.mg "range" = none) (ha : PAH X [a] ta) (hs : starEach [a] X.env = [(false,eval a X.env)]:=by rfl) : PIH X tg (.Call (.Name "range" p) [a] [] pos) (zZP ta):=PIH.mk (zC0 hg hm ha.out hs)
theorem zUR {r : R2} {a b : Expr} {ta tb : TE} {pos : Pos} (hr : IxR X r) (ha : PEH X a ta) (hb : PEH X b tb) (hs : zP5 b) : PEH X (.Subscript a b pos) (tOp r ta tb):=PEH.mk (zBQ hr ha.out hb.out hs)
end
noncomputable abbrev mkS (l : List Nat) : Str:=⟨l.toArray⟩
theorem zWF {l l' : List Nat} (h : mkS l = mkS l') : l = l' := by
 have : (mkS l).cps.toList = (mkS l').cps.toList:=by rw [h]
 simpa using this
theorem zCB (l : List Nat) : (mkS l).length = l.length:=yAH
theorem zYQ (z : Str) : mkS z.cps.toList = z := by
 cases z
 simp [mkS]
theorem zKF (l l' : List Nat) : mkS l ++ mkS l' = mkS (l ++ l') := by
 apply Str.ext';show l.toArray++l'.toArray = (l++l').toArray
 simp
theorem zT1 {l : List Nat} {j : Int} (h0 : 0 <= j) (h1 : j <= (l.length : Int)) : Txt.slice (mkS l) none (some j) = mkS (l.take j.toNat) := by
 have h : StrLaws.sliceText (mkS l) none (some j) = _:=StrLaws.sliceText_to ⟨h0,by simpa using h1⟩;have e : Txt.slice (mkS l) none (some j) = StrLaws.sliceText (mkS l) none (some j):=rfl;rw [e,h]
 simp [mkS]
theorem zNB {l : List Nat} {i : Int} (h0 : 0 <= i) (h1 : i <= (l.length : Int)) : Txt.slice (mkS l) (some i) none = mkS (l.drop i.toNat) := by
 have h : StrLaws.sliceText (mkS l) (some i) none = _:=StrLaws.sliceText_from ⟨h0,by simpa using h1⟩;have e : Txt.slice (mkS l) (some i) none = StrLaws.sliceText (mkS l) (some i) none:=rfl;rw [e,h];have e2 : (mkS l).cps.toList = l:=by simp
 rw [e2];apply Str.ext';show (List.take ((l.length : Int) - i).toNat (List.drop i.toNat l)).toArray = (List.drop i.toNat l).toArray;rw [yAt (by rw [yDk]; lia)]
theorem zGZ : ∀ (cs acc : List Nat), (cs.map fun c => (⟨#[c]⟩ : Str)).foldl (fun acc p => acc ++ (Str.empty : Str).cps ++ p.cps) acc.toArray = (acc ++ cs).toArray
 | [],acc=>by simp
 | c::cs,acc=>by
  rw [yAl,yDu]
  have e : acc.toArray ++ (Str.empty : Str).cps ++ (#[c] : Array Nat) = (acc ++ [c]).toArray := by
   show acc.toArray ++ #[] ++ #[c] = _
   simp
  rw [e,zGZ cs (acc++[c])]
  simp
theorem zKU (cs : List Nat) : Builtin.Str.glued Str.empty (cs.map fun c => ⟨#[c]⟩) = mkS cs := by
 apply Str.ext'
 cases cs with
 | nil=>rfl
 | cons c cs =>
  show ((cs.map λc=>(⟨#[c]⟩ : Str)).foldl (λacc p=>acc++(Str.empty : Str).cps++p.cps) [c].toArray) = _;rw [zGZ];rfl
section
variable {X : Cx}
noncomputable def za0 (K : PySem.W.Frag) : V -> List V -> Hp -> VK -> Prop:=λx vs H Q=>∃ (l : Addr) (cs : List Nat),x = .str Str.empty/\vs = [.ref l]/\SqL K H l (cs.map λc=>V.str ⟨#[c]⟩)/\cs.length <= 1000/\Q (.str (mkS cs)) H
theorem zSL : MtR X "str.join" (za0 X.K) := by
 intro pins s σ H x vs v us Q I rx rv h;obtain ⟨l,cs,rfl,rfl,hq,hb,q⟩:=h;obtain ⟨t,rfl⟩:=rx;obtain ⟨u,rfl,ru⟩:=rv.one
 cases ru
 have e : (cs.map λc=>V.str ⟨#[c]⟩) = (cs.map λc=>(⟨#[c]⟩ : Str)).map V.str:=by rw [yBp]; rfl
 rw [e] at hq;obtain ⟨its,r,p,hz⟩:=I.list hq
 have hs : ((cs.map fun c => (⟨#[c]⟩ : Str)).map (·.length)).sum <= 1000 := by
  have : ∀ cs : List Nat, ((cs.map fun c => (⟨#[c]⟩ : Str)).map (·.length)).sum = cs.length := fun cs => by
   induction cs with
   | nil=>rfl
   | cons c cs ih =>
    rw [yAl,yAl,yCr,ih,yBA];show 1 + cs.length = _;lia
  rw [this]; exact hb
 have h0 : (Str.empty : Str).length = 0:=rfl;refine join_list p.isList (zIL r) (by rw [h0]; lia) λt' k=>⟨.str _,H,I.tok _,⟨_,rfl⟩,?_⟩;show Q (V.str (Builtin.Str.glued Str.empty (cs.map λc=>(⟨#[c]⟩ : Str)))) H;rw [zKU];exact q
end
open PySem.SeqAt
open PySem.AutoSeq1 (wpAny_loadPart')
open PySem.MeetsSeq PySem.MeetsSeq2 PySem.MeetsSeq3
end L2
namespace L2
open PySem PySem.Spec PyProof.Rows PySem.W
section
variable {X : Cx} {pins : List (Addr × Obj)} {σ : St} {H : Hp} {s : Shared}
structure KeyAtL (X : Cx) (H : Hp) (s : Shared) (v : Value) (n : Int) (ms : List Int) : Prop where
 ex : ∃ (a b : Addr) (t : Tok) (o : Obj) (k : Nat) (its : List Value) (bs : List Addr),v = .ref a/\s.heap.get? a = some o/\o.cls = .type "tuple"/\o.data = .seq [.int n t,.ref b].toArray k/\PlainL s.heap b its.toArray/\IntsAre its ms/\Reads s.heap (.ref b) (.list (ms.map PyData.int)) bs/\n = (ms.length : Int)
end
section
variable {X : Cx} {k : Nat} {f : Addr} {fd : FuncData} {pn : Str} {sp : Sp} {kf : V -> Int × List Int}
end
section
variable {X : Cx} {scope : Scope} {xs : List Str} {fv : List (Str × Nat)} {elt tg iter : Expr} {ifs : List Expr} {pos spos py : Pos} {tt : TT} {te : TE} {g : TG} {y : Str} {i : Nat}
theorem zLX {wi : TI} (hN : X.N.Nodup) (hi' : X.N[i]? = some y) (hy : X.env.scope.names.lookup y = some .local) (hc : X.calm = true) (hs : zEM scope xs fv = true) (hv : FvOk X scope fv) (hi : PI X tg iter wi) (hg : ∀ C s₀ H₀ ex pn, PG (cxT X scope xs fv C s₀ H₀ ex pn) tg g)
  (ht : ∀ C s₀ H₀ ex pn,PTl (cxT X scope xs fv C s₀ H₀ ex pn) ifs tt) (he : ∀ C s₀ H₀ ex pn,PE (cxT X scope xs fv C s₀ H₀ ex pn) elt te)
  (hsw : swapsWith (.ListComp elt [⟨tg,iter,ifs,0⟩] scope pos) (some (.Name y py)) spos.line X.env = pure true:=by rfl) (hf : ∀ x,foldedSetIterable iter X.env x = pure x:=by intro _; rfl) :
  PS X (.Assign [.Name y py] (.ListComp elt [⟨tg,iter,ifs,0⟩] scope pos) spos) (zUT (zMI (.lst []) wi xs fv g tt (tbL te)) (zEB i)):=by
 intro pins s σ H D I h;have S:=zDE hs;rw [exec_Assign_Name_used _ _ _ _ hsw]; refine yAD (yBy (yAD ?_));show wpAny _ X.A (do let _ <- comprehension (.ListComp elt [⟨tg,iter,ifs,0⟩] scope pos) scope X.env _ (newList []) false (eval iter X.env) (some (assign (.Name y py) X.env))) _ _ s;refine yAD (yBO (yDZ (use:=some (assign (.Name y py) X.env)) (Q:=λ_ s'=>SP X pins D .next s') rfl hf (zbM I S hv) S.kind S.names (thn (hi pins s σ H _ I h) λv s1 h1=>thn h1 λitv s2 h2 => ?_)) (λ_ s' h'=>yAW (yAW h')) λ_ _ z=>z);obtain ⟨it,fp,tn,J,H2,e,I2,T,st2,f2,hw⟩:=h2;subst e;refine zDP (e := .ListComp elt [⟨tg,iter,ifs,0⟩] scope pos) (iter:=iter) (RR:=λacc C=>compPost (model X.prog X.w) X.A X.xe (some (assign (.Name y py) X.env)) (λ_ s'=>SP X pins D .next s') acc C) hc S hv ht hg (λC s₀ H₀ ex pn=>zRF (he C s₀ H₀ ex pn)) zLI (λ_ _ _=>rfl) (λ_ _ _=>rfl) (λit D env=>compTurn_list ..) (λ_ _ _ _ _ a b=>codeAny_compStart_list a b) I2 T st2 f2 hw ?_;intro L C s' H' m I' q hn fC;show wpAny _ X.A (assign (.Name y py) X.env (.ref L)) _ _ s';refine wpAny_assign_Name (zI9 I' hN hi' (.inl hy) (v := .ref L) rfl (λs'' I'' hb => ?_) (.inr hy));obtain ⟨a,sb,ha⟩:=hb
 have na : C ≠ a := by
  rcases ha with z | z
  ·rw [z]; exact fC.2.1
  ·exact λw=>fC.2.2.2.2.1 y a z w.symm
 have hn2 : s''.heap.Ns C m:=hn.sameBut sb na;refine ⟨m,hn2,λh' hs'=>⟨_,H',I''.turned (t':=s''.toks) (λb o hb e=>(hs'.2 b hb).trans e) fC.1 fC.2.1 fC.2.2.2.1 fC.2.2.2.2.1 fC.2.2.2.2.2,q⟩⟩
end
end L2
namespace HT
open PySem PySem.Spec PyProof.Rows
section
variable {prog : Program} {w : World} {A : Around} {E : Value -> Shared -> Prop} {s : Shared}
end
end HT
namespace L2
open PySem PySem.Spec PyProof.Rows
theorem zS6 {K : PySem.W.Frag} {g : TG} {tb : TS} {D : Ends} {σ : St} {H1 : Hp} {a : Addr} {ys : List V} (sq : Sq K H1 a ys) (Pv : Nat -> St -> Hp -> Prop) (h0 : Pv 0 σ H1) (hk : ∀ i σ H', Pv i σ H' -> At1 a H1 H')
  (hs : ∀ i σ H' x r,i < ys.length -> ys[i]? = some x -> Pv i σ H' -> H' r = none -> g (.ref r) σ (upd H' r (.tup [.int (i : Nat),x])) λσ2 H2=>tb { D with nx:=Pv (i + 1),ct:=Pv (i + 1),bk:=D.nx } σ2 H2) (hd : ∀ σ H',Pv ys.length σ H' -> D.nx σ H') :
  (∃ xs, SqL K H1 a xs) /\ (∃ W : Nat -> Nat -> St -> Hp -> Prop, (∃ m, W 0 m σ H1) /\ ∀ i m σ H, W i m σ H ->
   ((Ite K a).stop i H/\D.nx σ H) \/ ((Ite K a).go i H/\∃ N : St -> Hp -> Prop,(∀ σ' H',N σ' H' -> ∃ m',m' < m/\W (i + 1) m' σ' H')/\∀ x H',(Ite K a).yld i H x H' -> g x σ H' λσ2 H2=>tb { D with nx:=N,ct:=N,bk:=D.nx } σ2 H2)) \/
  (∃ xs, SqT K H1 a xs) /\ (∃ W : Nat -> Nat -> St -> Hp -> Prop, (∃ m, W 0 m σ H1) /\ ∀ i m σ H, W i m σ H ->
   ((zVO K a).stop i H/\D.nx σ H) \/ ((zVO K a).go i H/\∃ N : St -> Hp -> Prop,(∀ σ' H',N σ' H' -> ∃ m',m' < m/\W (i + 1) m' σ' H')/\∀ x H',(zVO K a).yld i H x H' -> g x σ H' λσ2 H2=>tb { D with nx:=N,ct:=N,bk:=D.nx } σ2 H2)):=by
 rcases sq with sq | sq
 ·refine .inl ⟨⟨_, sq⟩, zGY ys.length Pv h0 (fun i σ H' hi hP => ⟨ys, ys[i], SqL.at1 (hk _ _ _ hP) sq, by simp [hi]⟩) (fun σ H' hP => ⟨ys, SqL.at1 (hk _ _ _ hP) sq, rfl⟩) (fun i σ H' x H2 hi hP y => ?_) hd⟩
  obtain ⟨r,x,hr,rfl,hx,rfl⟩:=y;exact hs i σ _ x r hi (hx ys (SqL.at1 (hk _ _ _ hP) sq)) hP hr
 ·refine .inr ⟨⟨_, sq⟩, zGY ys.length Pv h0 (fun i σ H' hi hP => ⟨ys, ys[i], SqT.at1 (hk _ _ _ hP) sq, by simp [hi]⟩) (fun σ H' hP => ⟨ys, SqT.at1 (hk _ _ _ hP) sq, rfl⟩) (fun i σ H' x H2 hi hP y => ?_) hd⟩
  obtain ⟨r,x,hr,rfl,hx,rfl⟩:=y;exact hs i σ _ x r hi (hx ys (SqT.at1 (hk _ _ _ hP) sq)) hP hr
section
variable {X : Cx}
theorem zOO (bs : List Bool) : ((List.range bs.length).any fun i => bs.getD i true) = bs.any id := by
 have:=zGX bs true
 conv=>rhs; rw [<- this]
 rw [List.any_map]; rfl
noncomputable def zcX (K : PySem.W.Frag) : List V -> Hp -> VK -> Prop:=λxs H Q=>∃ (p : Addr) (bs : List Bool),xs = [.ref p]/\SqL K H p (bs.map V.bl)/\Q (.bl (bs.any id)) H
theorem zTF (hc : X.calm = true) : zCW X (.builtin "any") (zcX X.K) := by
 intro pins s σ H xs us Q I r h;obtain ⟨p,bs,rfl,hq,q⟩:=h;obtain ⟨u,rfl,ru⟩:=zDN r
 cases ru
 obtain ⟨its,rv,pl,hz⟩:=I.list hq;have hl:=rv.length;rw [yAB] at hl;have hh : X.A.in1.handled = none:=I.ok.hd hc;have hlt : p < s.heap.objs.size:=by obtain ⟨o,n,e,_⟩:=pl; exact yAJ e
 refine call_any_walk (yCH pl.isList ?_);refine ⟨s.heap.objs.size,_,_,_,_,_,λi=>bs.getD i true,rfl,Walks.list hh s.heap.objs.size p (yAi hlt) its.toArray,⟨⟨_,yAS _ rfl,rfl,rfl⟩,pl.isList.push _⟩,λi v s' Q' E' hP hq' => ?_,λh' tk hk => ?_⟩
 ·have : v = .bool (bs.getD i true) := zMT rv i v (by simpa using hP)
  subst this;exact yBZ hq'
 ·rw [yAH, <- hl, zOO]
  refine ⟨.bl (bs.any id),H,I.kept (t':=tk) λb o e => ?_,rfl,q⟩;exact hk b o (λzz=>by have e2:=yAJ e; rw [yAF.mp zz] at e2; exact yBV _ e2) (yAC _ e)
noncomputable def zWU (K : PySem.W.Frag) : V -> List V -> Hp -> VK -> Prop := fun x vs H Q => ∃ (l : Addr) (xs : List V) (v : V) (j : Nat), x = .ref l /\ vs = [v] /\ SqL K H l xs /\ xs.length <= 1000000 /\ xs.all zDW = true /\ zDW v = true /\
 (∃ y,xs[j]? = some y/\eqV y v = true)/\(∀ (i : Nat) y,i < j -> xs[i]? = some y -> eqV y v = false)/\Q (.int (j : Nat)) H
theorem zJF : MtM X "list.index" (zWU X.K) := by
 intro pins s σ H x vs v us Q I rx rv h;obtain ⟨l,xs,e,j,rfl,rfl,hq,h6,fs,fe,⟨y,hy,ey⟩,no,q⟩:=h
 cases rx
 obtain ⟨u,rfl,ru⟩:=rv.one;obtain ⟨its,r,p,hz⟩:=I.list hq;obtain ⟨⟨cls,dd,data,sl⟩,ho,hc,n,hd⟩:=id p.isList;simp only at hc hd;subst hc hd;have hlen:=r.length;have hj : j < xs.length:=(yAI.mp hy).1
 have at_ : ∀ (i : Nat) (hi : i < its.length) z, xs[i]? = some z -> eqU e its[i] = eqV z e := fun i hi z hz => by
  obtain ⟨w,hw,rw_⟩:=r.get hz;rw [yAA hi] at hw
  cases hw
  have fz : zDW z = true:=(yAu.mp fs) z (yAm hz);exact zO5 rw_ fz
 refine call_meets yDg ⟨_, ho, rfl⟩ PySem.F.entry_list_index (PySem.F.args_list_index_2 _ _)
  (SeqAt.list_indexAt l its.toArray n dd sl u (eqU e) j (by simpa using (by lia : j < its.length)) (by lia) ?_ ?_) ⟨ho,λw hw=>zDH ru fe r fs w (by simpa using hw),⟨.int (j : Nat),H,I.tok _,⟨_,rfl⟩,q⟩⟩
 ·show eqU e its[j] = true
  rw [at_ j (by lia) y hy]; exact ey
 ·intro i hi hlt
  have hi' : i < its.length:=by simpa using hi
  show eqU e its[i] = false;rw [at_ i hi' (xs[i]'(by lia)) (yAA _)];exact no i _ hlt (yAA _)
end
section
variable {X : Cx} {k1 k2 : Str} {p1 p2 tp hp : Pos} {kk : Nat} {b₀ : Stmt} {suite : List Stmt} {rest : List ExceptHandler} {C1 C2 : Addr} {ts : TS} {tr : Addr -> Addr -> TS}
theorem Fly.push {h : Heap} {e C dx T : Addr} (f : Fly h e C dx T) (o : Obj) : Fly (h.push o) e C dx T := by
 obtain ⟨⟨vs,sl,hx,h1⟩,ne,oT,tsv,t1,t2,t3⟩:=f;exact ⟨⟨vs,sl,yAC _ hx,h1⟩,ne,oT,tsv,yAC _ t1,t2,t3⟩
theorem Own.push {pins : List (Addr × Obj)} {H : Hp} {h : Heap} {b : Addr} (o : Own X pins H h b) (u : Obj) : Own X pins H (h.push u) b := by
 obtain ⟨n,f,⟨x,vs,hx,hd⟩,p⟩:=o;exact ⟨n,f,⟨x,vs,yAC _ hx,hd⟩,p⟩
noncomputable def zbC (K : PySem.W.Frag) (C1 C2 : Addr) (ts : TS) (tr : Addr -> Addr -> TS) : Addr -> Addr -> TS:=λC dx D σ H=>∃ b,PySem.W.exmAny K (.ref C) [.ref C1,.ref C2] = some b/\if b = true then ts D σ H else tr C dx D σ H
theorem zW9 (hg1 : Gl X k1) (hm1 : X.mg k1 = some (.ref C1)) (hg2 : Gl X k2) (hm2 : X.mg k2 = some (.ref C2)) (hs : ∀ e, PSs (X.suite (.ref e)) (b₀ :: suite) ts) (hr : PH X rest tr)
  (hd1 : (k1 == ("__debug__" : Str)) = false:=by decide) (hd2 : (k2 == ("__debug__" : Str)) = false:=by decide) :
  PH X (.ExceptHandler (some (.Tuple [.Name k1 p1,.Name k2 p2] kk tp)) none (b₀ :: suite) hp::rest) (zbC X.K C1 C2 ts tr):=by
 intro pins s σ H D e C dx T I fly oe oT ⟨b,hb,h⟩;refine wpAny_handleBy_cons (codeAny_handlers_test ?_) (by intro q; cases q);refine Tuple_ (spliced_more (zCY (X:=X.suite (.ref e)) (I.suite (.ref e)) hg1 hm1 (spliced_more (zCY (X:=X.suite (.ref e)) (I.suite (.ref e)) hg2 hm2 (spliced_none ?_) hd2)) hd1));refine yCb ?_
 let o : Obj:={ cls := .type "tuple",dict:=none,data := .seq [Value.ref C1,Value.ref C2].toArray }
 have I0 : Inv X pins σ H { s with heap:=s.heap.push o }:=I.kept (t':=s.toks) λb u h=>yAC _ h;have fly:=fly.push o;have oe:=oe.push o;have oT:=oT.push o;obtain ⟨vs,sl,hx',h1⟩:=fly.ex;have LT : PySem.W.Looks (model X.prog X.w) (s.heap.push o) (typeOf (.ref e)) (.ref C):=(PySem.W.Looks.ld hx').andThen .now;refine (PySem.W.exm_tup2 I0.kIn LT (yAS _ rfl) hb).here ?_
 cases b with
 | false=>exact hr pins _ σ H D e C dx T I0 fly oe oT h
 | true =>
  obtain ⟨oT',tsv,t1,t2,t3⟩:=fly.tb;refine codeAny_handlers_suite ?_;have fT:=oT.fp I0;refine wpAny_setFlight_none hx' rfl h1 t1 t2 (yBD.mp t3).1 ?_;have I1:=I0.turned (h':=(s.heap.push o).update T (Obj.mapFields (·.setIfInBounds 3 .none))) (t':=s.toks) (it:=T) (λb o hb q=>by rw [yBK _ _ hb.symm]; exact q) oT.free fT.2.1 (.inr oT.new) fT.2.2.2.2.1 oT.pin;refine yBO (hs e pins _ _ _ _ (I1.suite (.ref e)) h) (λf s4 h4 => ?_) λx s4 z=>False.elim z
  cases f with
  | next=>obtain ⟨σ',H',I4,q⟩:=h4; exact ⟨_,_,I4.unsuite I.ok,q⟩
  | brk=>obtain ⟨σ',H',I4,q⟩:=h4; exact ⟨_,_,I4.unsuite I.ok,q⟩
  | cont=>obtain ⟨σ',H',I4,q⟩:=h4; exact ⟨_,_,I4.unsuite I.ok,q⟩
  | ret u=>obtain ⟨v,σ',H',I4,r,q⟩:=h4; exact ⟨v,_,_,I4.unsuite I.ok,r,q⟩
end
theorem zEX : ∀ {ns : List Int} {us : List Value}, Vals (ns.map V.int) us -> IntsAre us ns
 | [],_,.nil => .nil
 | n::ns,_,.cons ⟨t,e⟩ r=>by subst e; exact .cons n t (zEX r)
theorem zES : ∀ {ns : List Int} {us : List Value}, IntsAre us ns -> Vals (ns.map V.int) us
 | _,_,.nil => .nil
 | _,_,.cons n t r => .cons ⟨t,rfl⟩ (zES r)
noncomputable def zZ9 (K : PySem.W.Frag) : List V -> Hp -> VK -> Prop:=λxs H Q=>∃ (p : Addr) (ns : List Int),xs = [.ref p]/\SqL K H p (ns.map V.int)/\ns.length < 64/\∀ (D : Addr) (ns' : List Int),H D = none -> ns'.Perm ns -> ns'.Pairwise (· <= ·) -> Q (.ref D) (upd H D (.lst (ns'.map V.int)))
theorem zNZ {X : Cx} : zCW X (.builtin "sorted") (zZ9 X.K) := by
 intro pins s σ H xs us Q I r h;obtain ⟨p,ns,rfl,hp,h64,q⟩:=h;obtain ⟨u,rfl,rx⟩:=zDN r
 cases rx
 obtain ⟨its,rv,pl,hz⟩:=I.list hp;have hl:=rv.length;rw [yAB] at hl;have s64 : 64 <= sizeLine:=by decide
 refine sorted_ints pl.isList (zEX rv) (by lia) λout ns' a1 a2 a3 => ?_;obtain ⟨e,he⟩:=sortedAll_at s.heap its out;have hn : ns'.length = ns.length:=a2.length_eq;refine ⟨.ref (s.heap.objs.size + 1),_,I.laid (a:=s.heap.objs.size + 1) (o := .lst (ns'.map V.int)) (t':=s.toks) (λ_ _=>sortedAll_old) (yCl _) ⟨by rw [yAB]; lia,out.toList,e,zES a1,he⟩,rfl,q _ _ (I.hok.fresh (yCl _)) a2 a3⟩
section
variable {X : Cx} {k : Nat}
theorem zG2 (ns : List Int) : ∀ k, k <= ns.length -> preSum (fun i => ns.getD i 0) k = (ns.take k).sum
 | 0,_=>rfl
 | k + 1,h=>by
  have e : preSum (λi=>ns.getD i 0) (k + 1) = preSum (λi=>ns.getD i 0) k + ns.getD k 0:=rfl;have hk : k < ns.length:=by lia
  rw [e,zG2 ns k (by lia),List.take_succ,yAA hk,List.sum_append,yAo,yAA hk]
  simp
noncomputable def zcT (K : PySem.W.Frag) : List V -> Hp -> VK -> Prop:=λxs H Q=>∃ (p : Addr) (ns : List Int),xs = [.ref p]/\SqL K H p (ns.map V.int)/\Q (.int ns.sum) H
theorem zLQ : ∀ {ns : List Int} {us : List Value}, Vals (ns.map V.int) us -> ∀ i v, us[i]? = some v -> ∃ t, v = Value.int (ns.getD i 0) t
 | [],_,.nil,i,v,h=>by simp at h
 | n::ns,_,.cons r t,0,v,h=>by
  obtain ⟨tk,rfl⟩:=r
  simp at h
  exact ⟨tk,h.symm⟩
 | n::ns,_,.cons r t,i + 1,v,h=>by
  simp at h
  obtain ⟨tk,e⟩:=zLQ t i v h;exact ⟨tk,by simpa using e⟩
theorem zP1 (hc : X.calm = true) : zCW X (.builtin "sum") (zcT X.K) := by
 intro pins s σ H xs us Q I r h;obtain ⟨p,ns,rfl,hq,q⟩:=h;obtain ⟨u,rfl,ru⟩:=zDN r
 cases ru
 obtain ⟨its,rv,pl,hz⟩:=I.list hq;have hl:=rv.length;rw [yAB] at hl;have hh : X.A.in1.handled = none:=I.ok.hd hc;have hlt : p < s.heap.objs.size:=by obtain ⟨o,n,e,_⟩:=pl; exact yAJ e
 refine call_sum_walkG (yCH pl.isList ?_);refine ⟨s.heap.objs.size,_,_,_,_,_,λi=>ns.getD i 0,rfl,Walks.list hh s.heap.objs.size p (yAi hlt) its.toArray,⟨⟨_,yAS _ rfl,rfl,rfl⟩,pl.isList.push _⟩,λb hb => ?_,λi v hP => ?_,λh' tk t' hk => ?_⟩
 ·have hb' : b = s.heap.objs.size \/ b = p := by simpa using hb
  have : ∀ (h : Heap) (o : Obj),(h.push o).objs.size = h.objs.size + 1:=λh o=>by simp [Heap.push]
  show b < (s.heap.push _).objs.size;rw [this]
  rcases hb' with e | e
  ·rw [e]; exact yCi _
  ·rw [e]; exact yCA hlt
 ·exact zLQ rv i v (by simpa using hP)
 ·rw [yAH, <- hl, zG2 ns _ (yAE _), yCj]
  refine ⟨.int ns.sum,H,I.kept (t':=tk) λb o e => ?_,⟨_,rfl⟩,q⟩;exact hk b o (λzz=>by have e2:=yAJ e; rw [yAF.mp zz] at e2; exact yBV _ e2) (yAC _ e)
inductive RX (K : PySem.W.Frag) (xs : List V) (H : Hp) (Q : VK) : Prop
 | mk (h : zZI K xs H Q \/ zV9 K xs H Q)
theorem zH1 (hr : Room k X.A) : zCW X (.builtin "repr") (RX X.K) := by
 intro pins s σ H xs us Q I r h
 cases h with
 | mk h =>
  rcases h with h | h
  ·exact zPU hr pins s σ H xs us Q I r h
  ·exact zNO hr pins s σ H xs us Q I r h
inductive RN (K : PySem.W.Frag) (x y : V) (H : Hp) (Q : VK) : Prop
 | flat (h : rIn K true x y H Q)
 | big (p : Addr) (zs : List Str) (d : PyData) (ey : y = .ref p) (hq : SqL K H p (zs.map V.str)) (hz : ∀ z∈zs,PyData.strOk z = true) (hd : DV K H x d \/ DW K H x d) (hl : d.canLay0 = true) (hn : ∀ z,PyData.eqv (.str z) d = false) (q : Q (.bl true) H)
 | dct (p a : Addr) (zs : List Str) (kvs : List (Key × V)) (ey : y = .ref p) (ex : x = .ref a) (hq : SqL K H p (zs.map V.str)) (hd : H a = some (.dK kvs)) (q : Q (.bl true) H)
end
structure CompOkC (scope : Scope) (xs : List Str) (fv : List (Str × Nat)) : Prop where
 kind : scope.kind = .function
 own : ∀ y∈scope.names,y.2 = .cell -> True/\scope.names.lookup y.1 = some .cell
 names : ∀ y∈scope.names,y.2 = .local -> scope.names.lookup y.1 = some .local
 fr : ∀ y∈scope.names,y.2 = .free -> y.1∈fv.map (·.1)
 nd : (xs++fv.map (·.1)).Nodup
noncomputable def clC (scope : Scope) (env : Env) (C : Addr) : List (Str × Addr):=cellsFrom (C + 1) scope.names (zXN scope env)
section
variable {X : Cx} {pins : List (Addr × Obj)} {σ : St} {scope : Scope} {xs : List Str} {fv : List (Str × Nat)} {e tg iter : Expr} {ifs : List Expr} {pos : Pos} {tt : TT} {tb : TB} {g : TG} {o0 : HO} {body : Addr -> Env -> Sem Unit} {newAcc : Sem Value}
end
section
variable {X : Cx} {pins : List (Addr × Obj)} {σ : St} {H : Hp} {s : Shared} {scope : Scope} {xs : List Str} {fv : List (Str × Nat)} {elt kx vx tg iter : Expr} {ifs : List Expr} {pos : Pos} {tt : TT} {te tk tv : TE} {g : TG}
end
section
variable {X : Cx} {scope : Scope} {xs : List Str} {fv : List (Str × Nat)} {elt tg iter : Expr} {ifs : List Expr} {pos spos py : Pos} {tt : TT} {te : TE} {g : TG} {y : Str} {i : Nat}
end
section
variable {prog : Program} {w : World} {A : Around} {E : Value -> Shared -> Prop} {s : Shared}
theorem zIO {it t : Addr} {items : Array Value} (hne : t ≠ it) : ∀ (n i : Nat) (s : Shared) (Q : List Value -> Shared -> Prop), s.heap.IsListIter it t i -> s.heap.IsList t items -> i + n <= items.size ->
  (∀ h',h'.IsListIter it t (i + n) -> Heap.SameBut it s.heap h' -> Q ((items.toList.drop i).take n) { s with heap:=h' }) -> wpAny (model prog w) A (draw (.ref it) n) Q E s
 | 0,i,s,Q,hit,_,_,hQ=>by
  show wpAny _ _ (pure []) Q E s;exact yAW (by simpa using hQ s.heap hit (Heap.SameBut.refl ..))
 | n + 1,i,s,Q,hit,ht,hle,hQ=>by
  have hlt : i < items.size:=by lia
  show wpAny _ _ (pyNext (.ref it) >>= _) Q E s;refine yAD (wpAny_pyNext_list_item hit ht (x:=items[i]) (by simp [hlt]) λh₁ hit₁ hs₁ => ?_);refine yAD (yBa (zIO hne n (i + 1) _ _ hit₁ (ht.extBut hs₁.extBut hne) (by lia) λh₂ hit₂ hs₂ => yAW ?_));have hd : items.toList.drop i = items[i]::items.toList.drop (i + 1):=by simp [yCG,hlt]
  have:=hQ h₂ (by rw [show i + (n + 1) = i + 1 + n by lia]; exact hit₂) (hs₁.trans hs₂)
  rw [hd,List.take_succ_cons] at this;exact this
theorem zF4 {t : Addr} {items : Array Value} {Q : List Value -> Shared -> Prop} (hh : A.handled = none) (ht : s.heap.IsList t items)
  (hQ : ∀ h',Heap.ExtBut s.heap.objs.size s.heap h' -> Q items.toList { s with heap:=h' }) : wpAny (model prog w) A (unpackItems (.ref t) items.size none) Q E s:=by
 have hlt : t≠s.heap.objs.size:=by obtain ⟨o,ho,_⟩:=ht; exact yAi (yAJ ho)
 unfold unpackItems;refine yAD ?_
 ·unfold notIterableAtAll
  refine yAD (wpAny_specialOf ht.typeIs slot_list_iter.lookup ?_);refine yAW ?_;simp only [yBG,yCc];refine yAD (yBa (yCH ht ?_));refine yAD (yBa (zIO hlt items.size 0 _ _ ⟨_,yAS _ rfl,rfl,rfl⟩ (ht.push _) (by lia) λh₁ hit₁ hs₁ => ?_))
  have hall : List.take items.size (List.drop 0 items.toList) = items.toList := by
   rw [List.drop_zero]; exact yAt (by simp)
  rw [hall];rw [yAN (by simp)];have ht₁ : h₁.IsList t items:=(ht.push _).extBut hs₁.extBut hlt;refine yAD (yBa (wpAny_pyNext_list_end hh hit₁ ht₁ (by simp) λh₂ he₂ => ?_));simp only [Option.isSome_none,yBG,yCc];refine yAW (hQ h₂ λb o hb e=>he₂ b o hb (hs₁.extBut b o hb (yAC _ e)))
theorem zJU {t : Addr} {items : Array Value} {targets : List (Bool × (Value -> Sem Unit))} {Q : Unit -> Shared -> Prop} (hh : A.handled = none) (ht : s.heap.IsList t items)
  (hn : targets.length = items.size) (hstar : targets.findIdx? (·.1) = none)
  (h : ∀ h',Heap.ExtBut s.heap.objs.size s.heap h' -> wpAny (model prog w) A (assignInOrder (targets.map (·.2)) items.toList) Q E { s with heap:=h' }) :
  wpAny (model prog w) A (unpack (.ref t) targets) Q E s:=by
 unfold unpack;rw [hn,hstar];exact yAD (yBa (zF4 hh ht h))
end
noncomputable def zbD (K : PySem.W.Frag) (n : Nat) (t : TGs) : TG:=λv σ H Q=>∃ a xs,v = .ref a/\SqL K H a xs/\xs.length = n/\t xs σ H Q
theorem zVK {X : Cx} {pos : Pos} {es : List Expr} {k : Nat} {t : TGs} {n : Nat} (hc : X.calm = true) (h : PGs X es t)
  (hn : (assignEach es X.env).length = n:=by rfl) (hst : (assignEach es X.env).findIdx? (·.1) = none:=by rfl) : PG X (.Tuple es k pos) (zbD X.K n t):=by
 intro pins s σ H v u Q I r hw;obtain ⟨a,xs,e1,hq,hl,hw⟩:=hw;subst e1
 cases r
 obtain ⟨its,rv,ht,hz⟩:=I.list hq;rw [assign_Tuple];refine yAD (yBy (zJU (I.ok.hd hc) ht.isList (by simp [hn,<- hl,rv.length]) hst λh' hx => ?_));have I1 : Inv X pins σ H { s with heap:=h' }:=I.kept (t':=s.toks) λb o e=>hx b o (yAi (yAJ e)) e;exact h pins _ σ H xs _ Q I1 (by simpa using rv) hw
section
variable {X : Cx}
end
end L2
namespace HT
open PySem PySem.W PySem.Calls PyProof.Rows
noncomputable def zEE (tb : String -> Option Builtin) (p : Program) (w : World) (m : Nat) (ann : Option Value) : Nat -> SharedT -> Thread -> Option SharedT
 | 0,_,_=>none
 | n + 1,s,t=>match through t with
  | true=>some s
  | false=>match stepOk m ann t with
   | false=>none
   | true=>match stepT (denote tb) p w s t with
    | some (s',t')=>zEE tb p w m ann n s' t'
    | none=>none
theorem zH0 {tb : String -> Option Builtin} {p : Program} {w : World} {m : Nat} {ann : Option Value} : ∀ {n : Nat} {s s' : SharedT} {t : Thread}, zEE tb p w m ann n s t = some s' -> topRun tb p w m ann n s.abs t = some s'.abs
 | 0,_,_,_,h=>by cases h
 | n + 1,s,s',t,h=>by
  unfold zEE at h;unfold topRun
  cases he : through t with
  | true=>rw [he] at h; cases h; rfl
  | false =>
   rw [he] at h
   cases hk : stepOk m ann t with
   | false=>rw [hk] at h; cases h
   | true =>
    rw [hk] at h
    cases hs : stepT (denote tb) p w s t with
    | none=>rw [hs] at h; cases h
    | some r=>obtain ⟨a,b⟩:=r; rw [hs] at h; rw [stepT_spec hs]; exact zH0 h
noncomputable def bt (l : List Obj) : Nat -> Nat -> Nat -> BT
 | 0,_,_ => .nil
 | n + 1,a,b=>match l[b]? with
  | some o => .node o (bt l n (2 * a) (a + b)) (bt l n (2 * a) (2 * a + b))
  | none => .nil
noncomputable def za3 (P : Params) : BT:=bt (boot_heap P).objs.toList 10 1 0
noncomputable def zNJ : Nat:=11
theorem zSR (P : Params) : absHeap (za3 P) zNJ (boot_heap P).life = boot_heap P := by
 kernel_rfl
theorem zTT (P : Params) : (boot_heap P).nsMap mainGlobals "__annotations__" = some (Value.ref 6):=by kernel_rfl
theorem zXL (P : Params) : (boot_heap P).isNs mainGlobals = true:=by kernel_rfl
theorem zQD (P : Params) : (boot_heap P).objs.size = zNJ:=by kernel_rfl
noncomputable def zJ1 (P : Params) (os : OsState) : SharedT:=⟨za3 P,zNJ,(boot_heap P).life,Array.mk [],boot_drawn,boot_toks,os⟩
theorem zN5 (P : Params) (os : OsState) : (zJ1 P os).abs = ⟨boot_heap P, Array.mk [], boot_drawn, boot_toks, os⟩ := by
 unfold zJ1 SharedT.abs;dsimp only;rw [zSR]
noncomputable def ran (p q : Program) (loose : List Str) (Xt : Shared -> Bool) {α : Type} (Yf : Shared -> α) (N : Nat) (w : World) (os : OsState) :=
 (zEE treeTable p w zNJ (some (Value.ref 6)) N (zJ1 w.params os) (topStub p)).map fun s =>
  (staticsOk (importedModules p.main.body) (boot_heap w.params) s.abs.heap && namesBound p s.abs.heap && gensDone s.abs && laidKept (boot_heap w.params) s.abs.heap,
   openSeen q loose (importedModules p.main.body) Xt true s.abs,Yf s.abs)
theorem zXA {p q : Program} {loose : List Str} {Xt : Shared -> Bool} {α : Type} {Yf : Shared -> α} {Ya : World -> α} {N : Nat}
  (e : opening p = plainProg p.main.scope.names) (hN : Nat.ble 600 N = true) (f : ∀ s,fenceModules? p s = some s)
  (h : ∀ w os,ran p q loose Xt Yf N w os = some (true,openGood q loose,Ya w)) : LeftO p q loose Xt Yf Ya N:=λw=>by
 obtain ⟨⟨hp,gs,d,k,os⟩,e1,e2⟩:=yCT.mp (boot_open e hN f w);obtain ⟨rfl,rfl,rfl,rfl⟩ : hp = boot_heap w.params/\gs = Array.mk []/\d = boot_drawn/\k = boot_toks:=by simpa using e2
 obtain ⟨s,r1,r2⟩:=yCT.mp (h w os);have r3:=zH0 r1;rw [zN5] at r3;obtain ⟨l1,l2,l3⟩ : _/\_/\_:=by simpa only [Prod.mk.injEq] using r2
 have t : topFrom treeTable p w N ⟨boot_heap w.params, Array.mk [], boot_drawn, boot_toks, os⟩ = some s.abs := by
  unfold topFrom;dsimp only;rw [zTT,zXL,zQD,r3];show (match staticsOk (importedModules p.main.body) (boot_heap w.params) s.abs.heap&&namesBound p s.abs.heap&&gensDone s.abs&&laidKept (boot_heap w.params) s.abs.heap with | true=>_ | false=>_) = _;rw [l1]
 unfold openEnds;rw [e1];show (topFrom treeTable p w N _).map _ = _;rw [t];exact congrArg some (Prod.ext l2 l3)
noncomputable def only (p : Program) (l : List Stmt) : Program:={ p with main:={ p.main with body:=l } }
end HT
namespace HT
open PySem PySem.W PySem.Calls PyProof.Rows
noncomputable def chk (p q : Program) (loose : List Str) (Xt : Shared -> Bool) (N : Nat) (w : World) (os : OsState) :=
 (zEE treeTable p w zNJ (some (Value.ref 6)) N (zJ1 w.params os) (topStub p)).map fun s =>
  (staticsOk (importedModules p.main.body) (boot_heap w.params) s.abs.heap && namesBound p s.abs.heap && gensDone s.abs && laidKept (boot_heap w.params) s.abs.heap,
   openSeen q loose (importedModules p.main.body) Xt true s.abs)
noncomputable def obs (p : Program) {α : Type} (Yf : Shared -> α) (N : Nat) (w : World) (os : OsState) :=
 (zEE treeTable p w zNJ (some (Value.ref 6)) N (zJ1 w.params os) (topStub p)).map λs=>Yf s.abs
theorem left_of2 {p q : Program} {loose : List Str} {Xt : Shared -> Bool} {α : Type} {Yf : Shared -> α} {Ya : World -> α} {N : Nat}
  (e : opening p = plainProg p.main.scope.names) (hN : Nat.ble 600 N = true) (f : ∀ s,fenceModules? p s = some s)
  (h1 : ∀ w os,chk p q loose Xt N w os = some (true,openGood q loose)) (h2 : ∀ w os,obs p Yf N w os = some (Ya w)) : LeftO p q loose Xt Yf Ya N:=zXA e hN f λw os=>by
 have a:=h1 w os;have b:=h2 w os;unfold chk at a;unfold obs at b;unfold ran;obtain ⟨s,h,ea⟩:=yCT.mp a;rw [h] at b ⊢;have eb : Yf s.abs = Ya w:=Option.some.inj b;rw [yCJ]
 congr 1
 injection ea with e1 e2
 rw [e1,e2,eb]
theorem obs_app {p : Program} {N : Nat} {w : World} {os : OsState} {as bs : List Addr} {r q : List (Option Obj)} (h1 : obs p (fun s => as.map s.heap.get?) N w os = some r) (h2 : obs p (fun s => bs.map s.heap.get?) N w os = some q) : obs p (fun s => (as ++ bs).map s.heap.get?) N w os = some (r ++ q) := by
 unfold obs at h1 h2 ⊢;obtain ⟨s,h,ea⟩:=yCT.mp h1;rw [h] at h2 ⊢;have eb : bs.map s.abs.heap.get? = q:=Option.some.inj h2;rw [yCJ]
 congr 1
 show (as++bs).map s.abs.heap.get? = r++q;rw [yAU,eb]
 congr 1
end HT
namespace S
open PySem L2
noncomputable def top (i : Nat) : Stmt:=PySem.Challenge.pw_alwaysmeet_k28_settled_forged.main.body.getD i (.Pass ⟨0,0,0,0⟩)
noncomputable def zJQ (c i : Nat) : Stmt := match top c with
 | .ClassDef _ _ _ b .. => b.getD i (.Pass ⟨0,0,0,0⟩)
 | _ => .Pass ⟨0,0,0,0⟩
noncomputable abbrev zOB : Stmt:=top 13
noncomputable abbrev zJT : Stmt:=top 14
noncomputable abbrev zW5 : Stmt:=top 15
noncomputable abbrev zVP : Stmt:=top 16
noncomputable abbrev zaD : Stmt:=top 19
noncomputable abbrev zRG : Stmt:=top 22
noncomputable abbrev zbF : Stmt:=top 24
noncomputable abbrev zb3 : Stmt:=top 25
noncomputable abbrev zaP : Stmt:=top 26
noncomputable abbrev zWT : Stmt:=top 29
noncomputable abbrev zHE : Stmt:=top 30
noncomputable abbrev zKY : Stmt:=top 31
noncomputable abbrev zHY : Stmt:=top 33
noncomputable abbrev zKL : Stmt:=top 35
noncomputable abbrev zPE : Stmt:=top 36
noncomputable abbrev zHX : Stmt:=top 37
noncomputable abbrev zJV : Stmt:=top 38
noncomputable abbrev zGA : Stmt:=top 23
noncomputable abbrev zWW : Stmt:=top 40
noncomputable abbrev zaO : Stmt:=top 41
noncomputable abbrev zXJ : Stmt:=top 42
noncomputable abbrev zK8 : Stmt:=top 44
noncomputable abbrev zQM : Stmt:=top 45
noncomputable abbrev zaN : Stmt:=top 47
noncomputable abbrev zKD : Stmt:=top 48
noncomputable abbrev zRZ : Stmt:=top 60
noncomputable abbrev zXR : Stmt:=zJQ 20 0
noncomputable abbrev zPV : Stmt:=zJQ 20 1
noncomputable abbrev zXH : Stmt:=zJQ 20 2
noncomputable abbrev zHA : Stmt:=zJQ 20 3
noncomputable abbrev zRX : Stmt:=zJQ 20 4
noncomputable abbrev zQ7 : Stmt:=zJQ 20 5
noncomputable abbrev zQY : Stmt:=zJQ 32 0
noncomputable abbrev zHU : Stmt:=zJQ 32 1
noncomputable abbrev zQ8 : Stmt:=zJQ 32 4
noncomputable abbrev zHP : Stmt:=zJQ 32 6
noncomputable abbrev zFZ : Stmt:=zJQ 32 11
noncomputable abbrev zPD : Stmt:=zJQ 32 13
noncomputable abbrev zCC : Stmt:=zJQ 2 0
noncomputable abbrev zD4 : Stmt:=zJQ 4 0
noncomputable abbrev zEN : Stmt:=zJQ 5 0
noncomputable abbrev zEG : Stmt:=zJQ 6 0
noncomputable abbrev zDT : Stmt:=top 43
noncomputable abbrev zEJ : Stmt:=top 46
noncomputable abbrev zDU : Stmt:=top 53
noncomputable abbrev zDX : Stmt:=top 56
noncomputable abbrev zEH : Stmt:=top 57
noncomputable abbrev zFO : Stmt:=top 58
noncomputable abbrev zD5 : Stmt:=top 59
end S
namespace L2
open PySem PySem.Spec PyProof.Rows
theorem zLC {o0 : HO} {xs : List Str} {fv : List (Str × Nat)} {g : TG} {tt : TT} {tb : TB} {σ : St} {H1 : Hp} {Q : VK} {z : Str} (Pv : Nat -> Addr -> Hp -> Prop) (h0 : ∀ D, H1 D = none -> Pv 0 D (upd H1 D o0))
  (hs : ∀ i D H' c,H1 D = none -> z.cps[i]? = some c -> Pv i D H' -> g (.str ⟨#[c]⟩) (ρT xs fv σ) H' λσ2 H2=>zI5 xs (ρT xs fv σ) σ2/\tt σ2 H2 λb H3=>if b = true then tb D σ2 H3 (Pv (i + 1) D) else Pv (i + 1) D H3)
  (hd : ∀ D H',H1 D = none -> Pv z.cps.size D H' -> Q (.ref D) H') : zCG o0 xs fv g tt tb σ (Its z) H1 Q:=by
 refine zBW z.cps.size Pv h0 (λi D H' hD hi hP=>hi) (λD H' hD hP=>yAE _) (λi D H' x H2 hD hi hP y => ?_) hd;obtain ⟨rfl,c,hc,rfl⟩:=y;exact hs i D _ c hD hc hP
theorem same_new {H : Hp} {p : Addr} (h : H p = none) (o : HO) : Same H (upd H p o):=λb u q=>by rw [zA6 (zA5 q h)]; exact q
theorem zKI {H : Hp} {p : Addr} (h : H p = none) (o : HO) : ∃ H2,Same H H2∧H2 p = some o∧upd H p o = H2:=⟨_,same_new h o,zA2,rfl⟩
end L2
namespace S
open PySem L2
noncomputable def LET : Str:="abcdefghijklmnopqrstuvwxyz"
noncomputable def OWN : List Str:=["lots","many","weights","grid","wall","tree","put","reads","writes","none","stands","falls","all"]
noncomputable def zHS (z signs : Str) : Bool:=z.cps.toList.all λc=>decide (c∈signs.cps.toList)
noncomputable def zD1 (z : Str) (most : Int) : Bool:=decide (1 <= (z.length : Int))&&decide ((z.length : Int) <= most)
noncomputable def zR5 (x : V) (signs : Str) (most : Int) : Bool := match x with
 | .str z=>zD1 z most&&zHS z signs
 | _=>false
noncomputable def zcK (x : V) : Bool := match x with
 | .int _=>true
 | .bl _=>true
 | _=>false
noncomputable def zYU (x : V) : Bool := match x with
 | .bl _=>true
 | _=>false
noncomputable def zUU (x : V) : Bool := match x with
 | .str _=>true
 | _=>false
noncomputable def zQB (x : V) : Bool := match x with
 | .int _=>true
 | _=>false
noncomputable def zK2 (x : V) (lo hi : Int) : Bool := match x with
 | .int i=>decide (lo <= i)&&decide (i <= hi)
 | _=>false
noncomputable def zcM (x : V) : Bool:=inV x (OWN.map V.str)
noncomputable def zBS (x : V) : Bool:=zR5 x LET 6 && !zcM x
noncomputable def Th (H : Hp) (x : V) : Prop := match x with
 | .non=>True
 | .bl _=>True
 | .int _=>True
 | .str z=>z.length <= 100000
 | .ref a=>(∃ xs,H a = some (.lst xs)) \/ (∃ xs,H a = some (.tup xs)) \/ ∃ kvs,H a = some (.dK kvs)
 | _=>False
theorem Th.mono {H H' : Hp} {x : V} (g : Same H H') (h : Th H x) : Th H' x := by
 cases x with
 | ref a =>
  rcases h with ⟨xs,h⟩ | ⟨xs,h⟩ | ⟨kvs,h⟩
  ·exact .inl ⟨xs,g _ _ h⟩
  ·exact .inr (.inl ⟨xs,g _ _ h⟩)
  ·exact .inr (.inr ⟨kvs,g _ _ h⟩)
 | _=>exact h
structure Kit (K : PySem.W.Frag) : Prop where
 i_non : PySem.W.kitOne K (.type "NoneType") (.type "int") = some false
 i_bool : PySem.W.kitOne K (.type "bool") (.type "int") = some true
 i_str : PySem.W.kitOne K (.type "str") (.type "int") = some false
 i_list : PySem.W.kitOne K (.type "list") (.type "int") = some false
 i_tup : PySem.W.kitOne K (.type "tuple") (.type "int") = some false
 i_dict : PySem.W.kitOne K (.type "dict") (.type "int") = some false
 b_non : PySem.W.kitOne K (.type "NoneType") (.type "bool") = some false
 b_int : PySem.W.kitOne K (.type "int") (.type "bool") = some false
 b_str : PySem.W.kitOne K (.type "str") (.type "bool") = some false
 b_list : PySem.W.kitOne K (.type "list") (.type "bool") = some false
 b_tup : PySem.W.kitOne K (.type "tuple") (.type "bool") = some false
 b_dict : PySem.W.kitOne K (.type "dict") (.type "bool") = some false
 s_non : PySem.W.kitOne K (.type "NoneType") (.type "str") = some false
 s_int : PySem.W.kitOne K (.type "int") (.type "str") = some false
 s_bool : PySem.W.kitOne K (.type "bool") (.type "str") = some false
 s_list : PySem.W.kitOne K (.type "list") (.type "str") = some false
 s_tup : PySem.W.kitOne K (.type "tuple") (.type "str") = some false
 s_dict : PySem.W.kitOne K (.type "dict") (.type "str") = some false
theorem zVN {K : PySem.W.Frag} (k : Kit K) {H : Hp} {x : V} (h : Th H x) : ∃ t, TyOf K H x t /\ PySem.W.kitOne K t (.type "int") = some (zcK x) := by
 cases x with
 | non=>exact ⟨_,.non,k.i_non⟩
 | bl b=>exact ⟨_,.bl b,k.i_bool⟩
 | int i=>exact ⟨_,.int i,rfl⟩
 | str z=>exact ⟨_,.str z,k.i_str⟩
 | ref a =>
  rcases h with ⟨xs,h⟩ | ⟨xs,h⟩ | ⟨kvs,h⟩
  ·exact ⟨_,.lst h,k.i_list⟩
  ·exact ⟨_,.tup h,k.i_tup⟩
  ·exact ⟨_,.dK h,k.i_dict⟩
 | _=>exact h.elim
theorem zTC {K : PySem.W.Frag} (k : Kit K) {H : Hp} {x : V} (h : Th H x) : ∃ t, TyOf K H x t /\ PySem.W.kitOne K t (.type "bool") = some (zYU x) := by
 cases x with
 | non=>exact ⟨_,.non,k.b_non⟩
 | bl b=>exact ⟨_,.bl b,rfl⟩
 | int i=>exact ⟨_,.int i,k.b_int⟩
 | str z=>exact ⟨_,.str z,k.b_str⟩
 | ref a =>
  rcases h with ⟨xs,h⟩ | ⟨xs,h⟩ | ⟨kvs,h⟩
  ·exact ⟨_,.lst h,k.b_list⟩
  ·exact ⟨_,.tup h,k.b_tup⟩
  ·exact ⟨_,.dK h,k.b_dict⟩
 | _=>exact h.elim
theorem zHI {K : PySem.W.Frag} (k : Kit K) {H : Hp} {x : V} (h : Th H x) : ∃ t, TyOf K H x t /\ PySem.W.kitOne K t (.type "str") = some (zUU x) := by
 cases x with
 | non=>exact ⟨_,.non,k.s_non⟩
 | bl b=>exact ⟨_,.bl b,k.s_bool⟩
 | int i=>exact ⟨_,.int i,k.s_int⟩
 | str z=>exact ⟨_,.str z,rfl⟩
 | ref a =>
  rcases h with ⟨xs,h⟩ | ⟨xs,h⟩ | ⟨kvs,h⟩
  ·exact ⟨_,.lst h,k.s_list⟩
  ·exact ⟨_,.tup h,k.s_tup⟩
  ·exact ⟨_,.dK h,k.s_dict⟩
 | _=>exact h.elim
noncomputable def zQK : Sp:=λvs H Q _=>∃ x,vs = [x]/\Th H x/\Q (.bl (zQB x)) H
noncomputable def zML : Sp:=λvs H Q _=>∃ x lo hi,vs = [x,.int lo,.int hi]/\Th H x/\Q (.bl (zK2 x lo hi)) H
noncomputable def zUI : Sp:=λvs H Q _=>∃ x signs most,vs = [x,.str signs,.int most]/\Th H x/\∀ H',Same H H' -> Q (.bl (zR5 x signs most)) H'
noncomputable def zP2 : Sp:=λvs H Q _=>∃ x,vs = [x]/\Th H x/\∀ H',Same H H' -> Q (.bl (zBS x)) H'
structure Txt (mg : Str -> Option Value) : Prop where
 inst : mg "isinstance" = none
 int : mg "int" = none
 bool : mg "bool" = none
 str : mg "str" = none
 len : mg "len" = none
 all : mg "all" = none
 list : mg "list" = none
 range : mg "range" = none
 repr : mg "repr" = none
structure Def (P : Program) (w : World) (K : PySem.W.Frag) (mg : Str -> Option Value) (base : Heap) (k : Nat) (x : Str) (ps : List Str) (sp : Sp) (g : Addr) (gd : FuncData) : Prop where
 ok : FnOk P w K mg base CX0 k g gd ps sp
 b : Binds K gd ps []
 k : PySem.W.keepIn K (.ref g) = true
 m : mg x = some (.ref g)
section
variable {P : Program} {w : World} {K : PySem.W.Frag} {mg : Str -> Option Value} {base : Heap}
theorem zX5 : FnScope ["thing"] ["thing"] (zA7 zOB):=by trivial
theorem zTD {f : Addr} {fd : FuncData} (F : Fun K "is_whole" "is_whole" zOB f fd) (T : Txt mg) (k : Kit K) : FnOk P w K mg base CX0 1 f fd ["thing"] zQK := by
 refine F.ok zX5 (λvs H Q E h => ?_) (λcdv A outer s H vs Q E hr h => ?_)
 ·obtain ⟨x, rfl, _⟩ := h
  rfl
 obtain ⟨x,rfl,hx,q⟩:=h;obtain ⟨t,ty,e⟩:=zVN k hx;obtain ⟨t2,ty2,e2⟩:=zTC k hx
 refine ⟨_, zA4 (zAB (zDL (zAA zB3 rfl T.inst yAZ (zA0 (pv 0) (zA0 (zAY (v := .ty "int") rfl T.int PyProof.Rows.boot_int rfl) zA1)))
  (zEW (zUS (zAA zB3 rfl T.inst yAZ (zA0 (pv 0) (zA0 (zAY (v := .ty "bool") rfl T.bool PyProof.Rows.boot_bool rfl) zA1))))))),?_⟩
 refine ⟨_,rfl,x,t,"int",_,rfl,ty,e,_,rfl,?_⟩;refine zGV (λc => ?_) (λc => ?_)
 ·refine ⟨_, rfl, x, t2, "bool", _, rfl, ty2, e2, _, rfl, ?_⟩
  have : (!zYU x) = zQB x:=by cases x <;> first | rfl | cases c
  rw [this];exact q
 ·have : false = zQB x := by cases x <;> first | rfl | exact absurd rfl c
  rw [<- this] at q;exact q
theorem zTQ : FnScope ["thing","low","high"] ["thing","low","high"] (zA7 zJT):=by trivial
theorem zQR {f a1 : Addr} {fd d1 : FuncData} (F : Fun K "is_within" "is_within" zJT f fd) (D1 : Def P w K mg base 1 "is_whole" ["thing"] zQK a1 d1) : FnOk P w K mg base CX0 2 f fd ["thing", "low", "high"] zML := by
 refine F.ok zTQ (λvs H Q E h => ?_) (λcdv A outer s H vs Q E hr h => ?_)
 ·obtain ⟨x, lo, hi, rfl, _⟩ := h
  rfl
 obtain ⟨x,lo,hi,rfl,hx,q⟩:=h;refine ⟨_,zA4 (zAB (zDL (zA9 D1.ok hr rfl D1.m D1.k D1.b .nil zAD (zA0 (pv 0) zA1)) (zEW (zSE zNG zNG (pv 1) (pv 0) (pv 2))))),?_⟩;refine ⟨_,rfl,x,rfl,hx,_,rfl,?_⟩;refine zGV (λc => ?_) (λc => ?_)
 ·cases x with
  | int i =>
   refine ⟨_,rfl,_,rfl,_,_,rfl,rfl,_,rfl,?_⟩;have e : zK2 (.int i) lo hi = (decide (lo <= i)&&decide (i <= hi)):=rfl;rw [e] at q
   by_cases h1 : lo <= i
   ·rw [yAM h1] at q ⊢
    exact zC7 ⟨_,rfl,_,_,rfl,rfl,q⟩
   ·rw [yAG h1] at q ⊢
    exact zBP q
  | _=>cases c
 ·cases x with
  | int i=>exact absurd rfl c
  | _=>exact q
theorem zZS : FnScope ["thing","signs","most"] ["thing","signs","most"] (zA7 zW5):=by trivial
noncomputable def zVD (z signs : Str) (i : Nat) : List Bool:=(z.cps.toList.take i).map λc=>decide (c∈signs.cps.toList)
theorem zQV {z signs : Str} {i c : Nat} (h : z.cps[i]? = some c) : zVD z signs (i + 1) = zVD z signs i ++ [decide (c ∈ signs.cps.toList)] := by
 unfold zVD;have h' : z.cps.toList[i]? = some c:=by rw [yBN]; exact h
 rw [yBF,h',yAU]; rfl
theorem zUD (z signs : Str) : (zVD z signs z.cps.size).all id = zHS z signs := by
 unfold zVD zHS;rw [yAt (by simp),List.all_map]; rfl
theorem zX2 {f : Addr} {fd : FuncData} (F : Fun K "is_made_of" "is_made_of" zW5 f fd) (T : Txt mg) (k : Kit K) : FnOk P w K mg base CX0 1 f fd ["thing", "signs", "most"] zUI := by
 refine F.ok zZS (λvs H Q E h => ?_) (λcdv A outer s H vs Q E hr h => ?_)
 ·obtain ⟨x, signs, most, rfl, _⟩ := h
  rfl
 obtain ⟨x,signs,most,rfl,hx,q⟩:=h;obtain ⟨t,ty,e⟩:=zHI k hx;have s1 : 100000 <= sizeLine:=by decide
 refine ⟨_, zA3 (zB7 (PW.pt (zEA (zBI (zBG (zAA zB3 rfl T.inst yAZ (zA0 (pv 0) (zA0 (zAY (v := .ty "str") rfl T.str yCa rfl) zA1)))))
   (zDK (zBI (zL6 zNG zNG zA8 (zAA zEU rfl T.len yBC (zA0 (pv 0) zA1)) (pv 2)))))) (zA4 (zAB zDJ)) zAG)
  (zA4 (zAB (zAA (zI2 rfl) rfl T.all yDn (zA0 (zBK (xs:=["sign"]) (fv:=[("signs",1)]) rfl (by decide +kernel) ⟨⟨rfl,Or.inl rfl,rfl⟩,trivial⟩ (zV1 (pv 0)) (λ_ _ _ _ _=>zAH (i:=0) (ndT (by decide +kernel)) rfl (Or.inl rfl)) (λ_ _ _ _ _=>zBU) (λ_ _ _ _ _=>zBN zQ9 (pv 0) (pv 1) (by with_unfolding_all rfl))) zA1)))),?_⟩
 refine ⟨_,rfl,x,t,"str",_,rfl,ty,e,_,rfl,?_⟩
 cases x with
 | str z =>
  have hz : z.length <= 100000:=hx;refine zBP ?_;have e0 : zR5 (.str z) signs most = (zD1 z most&&zHS z signs):=rfl;rw [e0] at q;unfold zD1 at q;refine ⟨_,rfl,z,rfl,by lia,_,_,rfl,rfl,_,rfl,?_⟩
  by_cases h1 : 1 <= (z.length : Int)
  ·rw [yAM h1, yBn] at q
   rw [yAM h1];refine zC7 ⟨_,rfl,_,_,rfl,rfl,_,rfl,?_⟩
   by_cases h2 : (z.length : Int) <= most
   ·rw [yAM h2, yBn] at q
    rw [yAM h2];refine zBP ?_;refine ⟨_,rfl,z,rfl,zLC (λi D H'=>Same H H'/\H' D = some (.lst ((zVD z signs i).map V.bl))) (λD hD=>⟨same_new hD _,zA2⟩) (λi D H' c hD hc hP => ?_) (λD H' hD hP => ?_)⟩
    ·obtain ⟨g, hl⟩ := hP
     have hi : i < z.cps.size:=(yBD.mp hc).1;have hzs : z.cps.size <= 100000:=hz;refine ⟨rfl,?_⟩;unfold zJP
     (try dsimp only)
     rw [yAQ rfl];refine ⟨_,rfl,_,rfl,_,_,rfl,rfl,_,hl,?_,λb o e => ?_,?_⟩
     ·rw [yAB]; unfold zVD; rw [yAB, yAp]
      have : 100000 < sizeLine:=by decide
      lia
     ·rw [zA6 (zA5 e hD)]; exact g _ _ e
     ·rw [zA2,zQV hc,yAU,StrLaws.found_one]; rfl
    ·refine ⟨D, _, rfl, SqL.of hP.2, ?_⟩
     rw [zUD];exact q H' hP.1
   ·rw [yAG h2, yBz] at q
    rw [yAG h2];exact zC7 (q H (Same.refl H))
  ·rw [yAG h1, yBz, yBz] at q
   rw [yAG h1];exact zBP ⟨_,rfl,zC7 (q H (Same.refl H))⟩
 | _=>exact zC7 (q H (Same.refl H))
structure Glb (K : PySem.W.Frag) (mg : Str -> Option Value) : Prop where
 lett : ∃ t,mg "LETTERS" = some (.str LET t)
 mostL : ∃ t,mg "MOST_LETTERS" = some (.int 6 t)
 own : ∃ a,mg "OWN_WORDS" = some (.ref a)/\∀ H : Hp,SqT K H a (OWN.map V.str)
theorem zYK : FnScope ["thing"] ["thing"] (zA7 zVP):=by trivial
theorem zXM {f a1 : Addr} {fd d1 : FuncData} (F : Fun K "is_name" "is_name" zVP f fd) (G : Glb K mg) (D1 : Def P w K mg base 1 "is_made_of" ["thing", "signs", "most"] zUI a1 d1) : FnOk P w K mg base CX0 2 f fd ["thing"] zP2 := by
 refine F.ok zYK (λvs H Q E h => ?_) (λcdv A outer s H vs Q E hr h => ?_)
 ·obtain ⟨x, rfl, _⟩ := h
  rfl
 obtain ⟨x,rfl,hx,q⟩:=h;obtain ⟨t1,g1⟩:=G.lett;obtain ⟨t2,g2⟩:=G.mostL;obtain ⟨a,g3,g4⟩:=G.own
 refine ⟨_, zA4 (zAB (zDL (zA9 D1.ok hr rfl D1.m D1.k D1.b .nil zAD (zA0 (pv 0) (zA0 (zFL (v := .str LET) rfl g1 ⟨_, rfl⟩) (zA0 (zFL (v := .int 6) rfl g2 ⟨_, rfl⟩) zA1))))
  (zEW (zBN zD0 (pv 0) (zFL (v := .ref a) rfl g3 rfl) (by with_unfolding_all rfl))))),?_⟩
 refine ⟨_,rfl,x,LET,6,rfl,hx,λH' g=>⟨_,rfl,?_⟩⟩;have q':=q H' g;unfold zBS at q'
 by_cases c : zR5 x LET 6 = true
 ·rw [c, yBn] at q'
  rw [c];refine zC7 ⟨_,rfl,a,_,rfl,.inr (g4 H'),?_,by decide +kernel,q'⟩
  cases x with
  | str z=>rfl
  | _=>cases c
 ·have c' : zR5 x LET 6 = false := by simpa using c
  rw [c',yBz] at q';rw [c'];exact zBP q'
inductive Row (H : Hp) : V -> Option (List V) -> Prop
 | lst {a : Addr} {xs : List V} (h : H a = some (.lst xs)) : Row H (.ref a) (some xs)
 | tup {a : Addr} {xs : List V} (h : H a = some (.tup xs)) : Row H (.ref a) (some xs)
 | dK {a : Addr} {kvs : List (Key × V)} (h : H a = some (.dK kvs)) : Row H (.ref a) none
 | non : Row H .non none
 | bl (b : Bool) : Row H (.bl b) none
 | int (i : Int) : Row H (.int i) none
 | str (z : Str) : Row H (.str z) none
noncomputable def zAV : V -> Str
 | .str z=>z
 | _=>""
noncomputable def zJO : Option (List V) -> Bool
 | none=>false
 | some xs=>decide (1 <= (xs.length : Int))&&decide ((xs.length : Int) <= 12)&&(xs.all zBS&&decide ((zBJ (xs.map λv => .inr (zAV v))).length = xs.length))
noncomputable def zZ7 : Sp:=λvs H Q _=>∃ x r,vs = [x]/\Row H x r/\(∀ xs,r = some xs -> ∀ v∈xs,Th H v)/\(∀ xs,r = some xs -> xs.length <= 1000)/\∀ H',Same H H' -> Q (.bl (zJO r)) H'
structure Kit2 (K : PySem.W.Frag) : Prop where
 l_non : PySem.W.kitOne K (.type "NoneType") (.type "list") = some false
 l_bool : PySem.W.kitOne K (.type "bool") (.type "list") = some false
 l_int : PySem.W.kitOne K (.type "int") (.type "list") = some false
 l_str : PySem.W.kitOne K (.type "str") (.type "list") = some false
 l_tup : PySem.W.kitOne K (.type "tuple") (.type "list") = some false
 l_dict : PySem.W.kitOne K (.type "dict") (.type "list") = some false
 t_non : PySem.W.kitOne K (.type "NoneType") (.type "tuple") = some false
 t_bool : PySem.W.kitOne K (.type "bool") (.type "tuple") = some false
 t_int : PySem.W.kitOne K (.type "int") (.type "tuple") = some false
 t_str : PySem.W.kitOne K (.type "str") (.type "tuple") = some false
 t_list : PySem.W.kitOne K (.type "list") (.type "tuple") = some false
 t_dict : PySem.W.kitOne K (.type "dict") (.type "tuple") = some false
theorem zHW {K : PySem.W.Frag} (k : Kit2 K) {H : Hp} {x : V} {r : Option (List V)} (h : Row H x r) : ∃ t, TyOf K H x t /\ PySem.W.kitAny K t [.type "list", .type "tuple"] = some r.isSome := by
 cases h with
 | lst h=>exact ⟨_,.lst h,zDR (a:=true) rfl k.t_list⟩
 | tup h=>exact ⟨_,.tup h,zDR (b:=true) k.l_tup rfl⟩
 | dK h=>exact ⟨_,.dK h,zDR k.l_dict k.t_dict⟩
 | non=>exact ⟨_,.non,zDR k.l_non k.t_non⟩
 | bl b=>exact ⟨_,.bl b,zDR k.l_bool k.t_bool⟩
 | int i=>exact ⟨_,.int i,zDR k.l_int k.t_int⟩
 | str z=>exact ⟨_,.str z,zDR k.l_str k.t_str⟩
theorem TyOf.same {K : PySem.W.Frag} {H H' : Hp} {x : V} {t : Value} (g : Same H H') (h : TyOf K H x t) : TyOf K H' x t := by
 cases h with
 | non=>exact .non
 | bl b=>exact .bl b
 | int i=>exact .int i
 | str z=>exact .str z
 | flt z=>exact .flt z
 | lst e=>exact .lst (g _ _ e)
 | frz e=>exact .frz (g _ _ e)
 | tup e=>exact .tup (g _ _ e)
 | dK e=>exact .dK (g _ _ e)
 | dT e=>exact .dT (g _ _ e)
 | ins e cl ha hn htk hm=>exact .ins (g _ _ e) cl ha hn htk hm
theorem zaZ : FnScope ["thing"] ["thing"] (zA7 zaD):=by trivial
theorem zM9 : ∀ {xs : List V}, xs.all zBS = true -> xs = (xs.map fun v => (.inr (zAV v) : Key)).map kV
 | [],_=>rfl
 | v::xs,h=>by
  rw [List.all_cons,yAd] at h;rw [yAl,yAl,<- zM9 h.2]
  cases v with
  | str z=>rfl
  | _=>cases h.1
set_option maxHeartbeats 1000000 in
theorem zY2 {f a1 : Addr} {fd d1 : FuncData} {tH : Tok} (F : Fun K "are_houses" "are_houses" zaD f fd) (T : Txt mg) (mt : mg "tuple" = none) (ms : mg "set" = none) (gH : mg "MOST_HOUSES" = some (.int 12 tH)) (k : Kit2 K)
  (D1 : Def P w K mg base 2 "is_name" ["thing"] zP2 a1 d1) : FnOk P w K mg base CX0 3 f fd ["thing"] zZ7:=by
 refine F.ok zaZ (λvs H Q E h => ?_) (λcdv A outer s H vs Q E hr h => ?_)
 ·obtain ⟨x, r, rfl, _⟩ := h
  rfl
 obtain ⟨x,r,rfl,hR,hT,hL,q⟩:=h;obtain ⟨t,ty,e⟩:=zHW k hR
 refine ⟨_, zA3 (zB7 (PW.pt (zEA (zBI (zBG (zAA zDG rfl T.inst yAZ (zA0 (pv 0) (zA0 (zAS (zA0 (zAY (v := .ty "list") rfl T.list yBJ rfl) (zA0 (zAY (v := .ty "tuple") rfl mt yAv rfl) zA1))) zA1)))))
   (zDK (zBI (zL6 zNG zNG zA8 (zAA zAF rfl T.len yBC (zA0 (pv 0) zA1)) (zFL (v := .int 12) rfl gH ⟨_,rfl⟩)))))) (zA4 (zAB zDJ)) zAG)
  (zA4 (zAB (zDL (zAA (zI2 rfl) rfl T.all yDn (zA0 (zBK (xs := ["name"]) (fv := []) rfl (by decide +kernel) trivial (zC5 (pv 0)) (fun _ _ _ _ _ => zAH (i := 0) (ndT (by decide +kernel)) rfl (Or.inl rfl)) (fun _ _ _ _ _ => zBU)
    (λ_ _ _ _ _=>zA9 D1.ok hr rfl D1.m D1.k D1.b .nil zAD (zA0 (pv 0) zA1))) zA1))
   (zEW (zBN zF3 (zQX rfl rfl T.len rfl ms (zA0 (pv 0) zA1)) (zAA zAF rfl T.len yBC (zA0 (pv 0) zA1)) (zAO _)))))),?_⟩
 refine ⟨_,rfl,(by show 2 <= sizeLine; decide),λp hp => ?_⟩;have g1:=same_new hp (.tup [.ty "list",.ty "tuple"]);have c1 : (upd H p (.tup [.ty "list",.ty "tuple"])) p = _:=zA2;generalize upd H p (.tup [.ty "list",.ty "tuple"]) = H1 at g1 c1 ⊢;refine ⟨_,t,p,["list","tuple"],_,rfl,TyOf.same g1 ty,c1,e,_,rfl,?_⟩
 cases r with
 | none=>exact zC7 (q H1 g1)
 | some xs =>
  refine zBP ?_
  have hsq : ∀ {H' : Hp}, Same H H' -> ∃ a, x = .ref a /\ (SqL K H' a xs \/ SqT K H' a xs) := fun g => by
   cases hR with
   | lst h=>exact ⟨_,rfl,.inl (SqL.of (g _ _ h))⟩
   | tup h=>exact ⟨_,rfl,.inr (SqT.of (g _ _ h))⟩
  obtain ⟨a,rfl,sq1⟩:=hsq g1;have e0 : zJO (some xs) = (decide (1 <= (xs.length : Int))&&decide ((xs.length : Int) <= 12)&&(xs.all zBS&&decide ((zBJ (xs.map λv => .inr (zAV v))).length = xs.length))):=rfl;rw [e0] at q;have hl:=hL xs rfl;refine ⟨_,rfl,a,xs,rfl,sq1,_,_,rfl,rfl,_,rfl,?_⟩
  by_cases h1 : 1 <= (xs.length : Int)
  ·rw [yAM h1, yBn] at q
   rw [yAM h1];refine zC7 ⟨_,_,rfl,rfl,_,rfl,?_⟩
   by_cases h2 : (xs.length : Int) <= 12
   ·rw [yAM h2, yBn] at q
    rw [yAM h2];refine zBP ?_
    have body : ∀ (J : It), (∀ i H', Same H1 H' -> i < xs.length -> J.go i H') -> (∀ H', Same H1 H' -> J.stop xs.length H') -> (∀ i H' x H2, Same H1 H' -> i < xs.length -> J.yld i H' x H2 -> H2 = H' /\ xs[i]? = some x) ->
      ∀ Q' : VK,(∀ D H',Same H1 H' -> H' D = some (.lst ((xs.map zBS).map V.bl)) -> Q' (.ref D) H') ->
      zCG (.lst []) ["name"] [] (zEB 0) zJP (tbL (zH8 zP2 [] E0 (zBO (zCT 0) zFB))) [some (.ref a)] J H1 Q':=λJ hgo hst hy Q' hQ'=>by
     refine zBW xs.length (λi D H'=>Same H1 H'/\H' D = some (.lst (((xs.take i).map zBS).map V.bl))) (λD hD=>⟨same_new hD _,zA2⟩) (λi D H' _ hi hP=>hgo i H' hP.1 hi) (λD H' _ hP=>hst H' hP.1) (λi D H' x H2 hD hi hP y => ?_) (λD H' _ hP => ?_)
     ·obtain ⟨rfl, hx⟩ := hy i H' x H2 hP.1 hi y
      refine ⟨rfl,?_⟩;unfold zJP
      (try dsimp only)
      rw [yAQ rfl];refine ⟨_,rfl,x,rfl,(hT xs rfl x (yAm hx)).mono (g1.trans hP.1),λH3 g3=>⟨_,g3 _ _ hP.2,?_,λb o q' => ?_,?_⟩⟩
      ·rw [yAB, yAB, yAp]
       have : 1000 < sizeLine:=by decide
       lia
      ·rw [zA6 (zA5 q' hD)]; exact g3 _ _ (hP.1 _ _ q')
      ·rw [zA2,yBF,hx,yAU,yAU]; rfl
     ·refine hQ' D H' hP.1 ?_
      have:=hP.2
      rw [yAt (yAE _)] at this;exact this
    have after : ∀ D H', Same H1 H' -> H' D = some (.lst ((xs.map zBS).map V.bl)) -> zcA K [.ref D] H' fun v H2 => ∃ c, v = .bl c /\ if c = true then tOp rEq (zR2 K (zBO (zCT 0) zFB)) (tCB (fun ys H Q => ∃ p zs, ys = [.ref p] /\ (SqL K H p zs \/ SqT K H p zs) /\ Q (.int zs.length) H) (zBO (zCT 0) zFB)) [some (.ref a)] H2 Q else Q (.bl false) H2 := fun D H' g' hD => by
     refine ⟨D,_,rfl,SqL.of hD,_,rfl,?_⟩;have ea : ((xs.map zBS).all id) = xs.all zBS:=by rw [List.all_map]; rfl
     rw [ea];have q':=q H' (g1.trans g')
     by_cases hall : xs.all zBS = true
     ·rw [hall, yBn] at q'
      rw [hall];obtain ⟨a',ea',sq'⟩:=hsq (g1.trans g')
      cases ea'
      refine zC7 ⟨_,rfl,a,xs.map (λv => .inr (zAV v)),rfl,?_,by rw [yAB]; lia,_,rfl,a,xs,rfl,sq',rfl,?_⟩
      ·rw [<- zM9 hall]; exact sq'
      ·have ed : decide (V.int ((zBJ (xs.map fun v => .inr (zAV v))).length : Nat) = V.int (xs.length : Nat)) = decide ((zBJ (xs.map fun v => .inr (zAV v))).length = xs.length) := by
        rw [yAg,yAL,yAL]
        constructor
        ·intro z; injection z with z; exact Int.ofNat.inj z
        ·intro z; rw [z]
       rw [ed];exact q'
     ·have hall' : xs.all zBS = false := by simpa using hall
      rw [hall',yBz] at q';rw [hall'];exact zBP q'
    refine ⟨_,rfl,a,rfl,?_⟩
    rcases sq1 with sq1 | sq1
    ·refine .inl ⟨⟨_,sq1⟩,body (Itl K a) (λi H' g' hi=>⟨xs,xs[i],g'.seq sq1,by simp [hi]⟩) (λH' g'=>⟨xs,g'.seq sq1,yAE _⟩) (λi H' x H2 g' hi y=>⟨y.1,y.2 xs (g'.seq sq1)⟩) _ after⟩
    ·refine .inr ⟨⟨_,sq1⟩,body (Itt K a) (λi H' g' hi=>⟨xs,xs[i],SqT.mono g' sq1,by simp [hi]⟩) (λH' g'=>⟨xs,SqT.mono g' sq1,yAE _⟩) (λi H' x H2 g' hi y=>⟨y.1,y.2 xs (SqT.mono g' sq1)⟩) _ after⟩
   ·rw [yAG h2, yBz] at q
    rw [yAG h2];exact zC7 (q H1 g1)
  ·rw [yAG h1, yBz, yBz] at q
   rw [yAG h1];exact zBP ⟨_,rfl,zC7 (q H1 g1)⟩
theorem zQ6 {X : Cx} {K : PySem.W.Frag} {es : List Expr} {k : Nat} {t : TGs} {n : Nat} {pos : Pos} (hK : X.K = K) (hc : X.calm = true) (h : PGs X es t)
  (hn : (assignEach es X.env).length = n:=by rfl) (hst : (assignEach es X.env).findIdx? (·.1) = none:=by rfl) : PG X (.Tuple es k pos) (za7 K n t):=by subst hK; exact zPL hc h hn hst
noncomputable def zB1 (xs : List V) (i : Nat) : List (Key × V):=(xs.take i).zipIdx.foldl (λacc p=>zH2 acc (.inr (zAV p.1)) (.int (p.2 : Nat))) []
theorem zCN {xs : List V} {i : Nat} {x : V} (h : xs[i]? = some x) : zB1 xs (i + 1) = zH2 (zB1 xs i) (.inr (zAV x)) (.int (i : Nat)) := by
 unfold zB1;have hi : i < xs.length:=(yAI.mp h).1;rw [yBF,h,Option.toList_some,List.zipIdx_append,List.foldl_append]
 simp [yAp,Nat.min_eq_left (yDq hi)]
theorem zW3 (kvs : List (Key × V)) (k : Key) (v : V) : (zH2 kvs k v).length <= kvs.length + 1:=zCQ kvs k v
theorem zIE {xs : List V} : ∀ i, i <= xs.length -> (zB1 xs i).length <= i
 | 0,_=>by simp [zB1]
 | i + 1,h=>by
  have hx : xs[i]? = some xs[i]:=by simp
  rw [zCN hx];have h1 : (zB1 xs i).length <= i:=zIE i (by lia);have h2:=zW3 (zB1 xs i) (.inr (zAV xs[i])) (.int (i : Nat));lia
noncomputable def HousesAt (C : Addr) (H : Hp) (p : Addr) (xs : List V) : Prop:=∃ dx t d,H p = some (.ins C dx [("row",.ref t),("places",.ref d)])/\H t = some (.tup xs)/\H d = some (.dK (zB1 xs xs.length))
noncomputable def zP9 (C : Addr) : Sp := fun vs H Q _ => ∃ p dx x xs, vs = [.ref p, x] /\ H p = some (.ins C dx []) /\ Row H x (some xs) /\ (∀ v ∈ xs, Th H v) /\ xs.length <= 1000 /\ zJO (some xs) = true /\
 ∀ H',(∀ c o,H c = some o -> c≠p -> H' c = some o) -> HousesAt C H' p xs -> Q .non H'
theorem zYY : FnScope ["self","names"] ["self","names"] (zA7 zXR):=by trivial
theorem zL7 {xs : List V} (h : zJO (some xs) = true) {v : V} (hv : v ∈ xs) : v = kV (.inr (zAV v)) := by
 have e0 : zJO (some xs) = (decide (1 <= (xs.length : Int))&&decide ((xs.length : Int) <= 12)&&(xs.all zBS&&decide ((zBJ (xs.map λv => .inr (zAV v))).length = xs.length))):=rfl;rw [e0,yAd] at h;have h2:=h.2;rw [yAd] at h2
 have:=yAu.mp h2.1 v hv
 cases v with
 | str z=>rfl
 | _=>cases this
set_option maxHeartbeats 2000000 in
theorem zX9 {f a1 C : Addr} {fd d1 : FuncData} (F : Fun K "__init__" "Houses.__init__" zXR f fd) (mt : mg "tuple" = none) (me : mg "enumerate" = none) (cl : Cls K C) (n1 : NoAttr K C "row") (n2 : NoAttr K C "places")
  (D1 : Def P w K mg base 3 "are_houses" ["thing"] zZ7 a1 d1) : FnOk P w K mg base CX0 4 f fd ["self","names"] (zP9 C):=by
 refine F.ok zYY (λvs H Q E h => ?_) (λcdv A outer s H vs Q E hr h => ?_)
 ·obtain ⟨p, dx, x, xs, rfl, _⟩ := h
  rfl
 obtain ⟨p,dx,x,xs,rfl,hp,hR,hT,hL,hok,q⟩:=h
 refine ⟨_, zA3 (zB7 (zBI (zBG (zA9 D1.ok hr rfl D1.m D1.k D1.b .nil zAD (zA0 (pv 1) zA1)))) zC4 zAG)
  (zA3 (zMP (pv 0) (zB8 zB0 rfl mt yAv (zA0 (pv 1) zA1)) rfl)
  (zA4 (zMP (pv 0) (zTR (xs := ["at", "name"]) (fv := []) rfl (by decide +kernel) trivial (zHV rfl me (zA0 (pv 1) zA1))
   (λ_ _ _ _ _=>zQ6 (K:=K) (n:=2) rfl rfl (zBL (zAH (i:=0) (ndT (by decide +kernel)) rfl (Or.inl rfl)) (zBL (zAH (i:=1) (ndT (by decide +kernel)) rfl (Or.inl rfl)) zG3))) (λ_ _ _ _ _=>zBU) (λ_ _ _ _ _=>pv 1) (λ_ _ _ _ _=>pv 0)) rfl))),?_⟩
 have hsq : ∀ {H' : Hp}, (∀ c o, H c = some o -> c ≠ p -> H' c = some o) -> ∃ a, x = .ref a /\ (H' a = some (.lst xs) \/ H' a = some (.tup xs)) := fun g => by
  cases hR with
  | lst h=>exact ⟨_,rfl,.inl (g _ _ h (λz=>by rw [z,hp] at h; cases h))⟩
  | tup h=>exact ⟨_,rfl,.inr (g _ _ h (λz=>by rw [z,hp] at h; cases h))⟩
 obtain ⟨a,rfl,_⟩:=hsq (H':=H) λ_ _ e _=>e;refine ⟨_,rfl,_,some xs,rfl,hR,λys e=>by cases e; exact hT,λys e=>by cases e; exact hL,λH1 g1=>⟨_,rfl,?_⟩⟩;rw [hok];refine zBP ?_;have hp1:=g1 _ _ hp;obtain ⟨_,ea,sq1⟩:=hsq (H':=H1) λc o e _=>g1 c o e
 cases ea
 have pne : ∀ {Hx : Hp} {c : Addr} {o : HO},Hx p = some o -> Hx c = none -> p≠c:=λh1 h2=>zA5 h1 h2
 have rest : ∀ (t : Addr) (H2 : Hp), t ≠ p -> H2 p = some (.ins C dx [("row", .ref t)]) -> H2 t = some (.tup xs) -> (∀ c o, H c = some o -> c ≠ p -> H2 c = some o) -> ∀ (D : Ends), (∀ σ H', D.nx σ H' = Q .non H') ->
   zbT K (zCT 0) (zMI (.dK []) (zV2 K (zBO (zCT 1) zFB)) ["at","name"] [] (za7 K 2 (zOS (zEB 0) (zOS (zEB 1) zb4))) zJP (tbD (zCT 1) (zCT 0))) "places" D [some (.ref p),some (.ref a)] H2:=λt H2 tp hp2 ht2 g2 D hD=>by
  obtain ⟨_,ea,sq2⟩:=hsq g2
  cases ea
  have body : ∀ (J : It), (∀ i H', Same H2 H' -> i < xs.length -> J.go i H') -> (∀ H', Same H2 H' -> J.stop xs.length H') -> (∀ i H' x H3, Same H2 H' -> i < xs.length -> J.yld i H' x H3 -> ∃ r y, H' r = none /\ x = .ref r /\ xs[i]? = some y /\ H3 = upd H' r (.tup [.int (i : Nat), y])) ->
    zCG (.dK []) ["at", "name"] [] (za7 K 2 (zOS (zEB 0) (zOS (zEB 1) zb4))) zJP (tbD (zCT 1) (zCT 0)) [some (.ref p), some (.ref a)] J H2 fun y H3 => (zCT 0) [some (.ref p), some (.ref a)] H3 fun x H4 => ∃ b C dx fs, x = .ref b /\ H4 b = some (.ins C dx fs) /\ Cls K C /\ NoAttr K C "places" /\ fs.length < 1000 /\
     D.nx [some (.ref p),some (.ref a)] (upd H4 b (.ins C dx (zGD "places" y fs))):=λJ hgo hst hy=>by
   refine zBW xs.length (λi D H'=>Same H2 H'/\H' D = some (.dK (zB1 xs i))) (λD hD=>⟨same_new hD _,by rw [zA2]; rfl⟩) (λi D H' _ hi hP=>hgo i H' hP.1 hi) (λD H' _ hP=>hst H' hP.1) (λi D H' x H3 hD hi hP y => ?_) (λD' H' hD' hP => ?_)
   ·obtain ⟨r, v, hr', rfl, hv, rfl⟩ := hy i H' x H3 hP.1 hi y
    refine ⟨r,_,rfl,SqT.of zA2,rfl,_,_,rfl,_,_,rfl,rfl,rfl,?_⟩;unfold zJP
    (try dsimp only)
    rw [yAQ rfl];have hD3 : (upd H' r (.tup [.int (i : Nat),v])) D = some (.dK (zB1 xs i)):=same_new hr' _ _ _ hP.2;have ple:=zIE (xs:=xs) i (by lia);refine ⟨_,rfl,_,rfl,zB1 xs i,.inr (zAV v),hD3,zL7 hok (yAm hv),?_,λc o e => ?_,?_⟩
    ·have : 1000 < sizeLine := by decide
     lia
    ·rw [zA6 (zA5 e hD)]; exact same_new hr' _ _ _ (hP.1 _ _ e)
    ·rw [zA2,zCN hv]
   ·have hp3 := hP.1 _ _ hp2
    refine ⟨_,rfl,p,C,dx,_,rfl,hp3,cl,n2,(by show 1 < 1000; decide),?_⟩;rw [hD];have nD : D'≠p:=λz=>by rw [z,hp2] at hD'; cases hD'
    refine q _ (λc o e n=>by rw [zA6 n]; exact hP.1 _ _ (g2 c o e n)) ⟨dx,t,D',by rw [zA2]; rfl,by rw [zA6 tp]; exact hP.1 _ _ ht2,by rw [zA6 nD]; exact hP.2⟩
  refine ⟨_,rfl,a,rfl,?_⟩
  rcases sq2 with sq2 | sq2
  ·have sq2 : SqL K H2 a xs := SqL.of sq2
   exact .inl ⟨⟨_,sq2⟩,body (Ite K a) (λi H' g' hi=>⟨xs,xs[i],g'.seq sq2,by simp [hi]⟩) (λH' g'=>⟨xs,g'.seq sq2,rfl⟩) λi H' x H3 g' hi y=>let ⟨r,v,h1,h2,h3,h4⟩:=y; ⟨r,v,h1,h2,h3 xs (g'.seq sq2),h4⟩⟩
  ·have sq2 : SqT K H2 a xs := SqT.of sq2
   exact .inr ⟨⟨_,sq2⟩,body (zVO K a) (λi H' g' hi=>⟨xs,xs[i],SqT.mono g' sq2,by simp [hi]⟩) (λH' g'=>⟨xs,SqT.mono g' sq2,rfl⟩) λi H' x H3 g' hi y=>let ⟨r,v,h1,h2,h3,h4⟩:=y; ⟨r,v,h1,h2,h3 xs (SqT.mono g' sq2),h4⟩⟩
 refine ⟨_,rfl,a,xs,rfl,?_⟩
 rcases sq1 with sq1 | sq1
 ·refine .inl ⟨SqL.of sq1, fun t ht => ⟨_, rfl, p, C, dx, _, rfl, same_new ht _ _ _ hp1, cl, n1, (by show 0 < 1000; decide), ?_⟩⟩
  have tp : t≠p:=λz=>by rw [z,hp1] at ht; cases ht
  exact rest t _ tp zA2 (by rw [zA6 tp]; exact zA2) (λc o e n=>by rw [zA6 n]; exact same_new ht _ _ _ (g1 _ _ e)) _ λ_ _=>rfl
 ·have ht := sq1
  have tp : a≠p:=λz=>by rw [z,hp1] at ht; cases ht
  refine .inr ⟨SqT.of sq1,_,rfl,p,C,dx,_,rfl,hp1,cl,n1,(by show 0 < 1000; decide),?_⟩;exact rest a _ tp zA2 (by rw [zA6 tp]; exact ht) (λc o e n=>by rw [zA6 n]; exact g1 _ _ e) _ λ_ _=>rfl
theorem zED {xs : List V} (hk : ∀ v ∈ xs, v = kV (.inr (zAV v))) (nd : xs.Nodup) : ∀ n, n <= xs.length -> ∀ i, i < n -> ∀ (h : i < xs.length), zEI (zB1 xs n) (.inr (zAV xs[i])) = some (.int (i : Nat))
 | 0,_,i,hi,_=>by lia
 | n + 1,hn,i,hi,h=>by
  have hx : xs[n]? = some xs[n]:=by simp
  rw [zCN hx,zMH]
  by_cases e : i = n
  ·subst e; rw [yAQ rfl]
  ·rw [yAN, zED hk nd n (by lia) i (by lia) h]
   intro z;have e1:=hk xs[i] (yAn _);have e2:=hk xs[n] (yAn _);have : xs[i] = xs[n]:=by rw [e1,e2,z]
   exact e ((yCB nd).mp this)
noncomputable def zOE (C : Addr) : Sp:=λvs H Q _=>∃ p xs,vs = [.ref p]/\HousesAt C H p xs/\∀ l,H l = none -> Q (.ref l) (upd H l (.lst xs))
noncomputable def zQH (C : Addr) : Sp:=λvs H Q _=>∃ p xs,vs = [.ref p]/\HousesAt C H p xs/\Q (.int xs.length) H
noncomputable def zMJ (C : Addr) : Sp:=λvs H Q _=>∃ p xs i z,vs = [.ref p,.str z]/\HousesAt C H p xs/\(∀ v∈xs,v = kV (.inr (zAV v)))/\xs.Nodup/\xs[i]? = some (.str z)/\Q (.int (i : Nat)) H
theorem zW2 : FnScope ["self"] ["self"] (zA7 zPV):=by trivial
theorem zZC : FnScope ["self"] ["self"] (zA7 zXH):=by trivial
theorem zM6 : FnScope ["self","name"] ["self","name"] (zA7 zHA):=by trivial
theorem zUG {f C : Addr} {fd : FuncData} (F : Fun K "names" "Houses.names" zPV f fd) (ml : mg "list" = none) (cl : Cls K C) (n1 : NoAttr K C "row") : FnOk P w K mg base CX0 1 f fd ["self"] (zOE C) := by
 refine F.ok zW2 (λvs H Q E h => ?_) (λcdv A outer s H vs Q E hr h => ?_)
 ·obtain ⟨p, xs, rfl, _⟩ := h
  rfl
 obtain ⟨p,xs,rfl,⟨dx,t,d,hp,ht,hd⟩,q⟩:=h;refine ⟨_,zA4 (zAB (zB8 zD3 rfl ml yBJ (zA0 (zBF (pv 0) rfl) zA1))),?_⟩;exact ⟨_,rfl,p,C,dx,_,_,rfl,hp,cl,n1,rfl,t,xs,rfl,.inr (SqT.of ht),q⟩
theorem zW1 {f C : Addr} {fd : FuncData} (F : Fun K "size" "Houses.size" zXH f fd) (ml : mg "len" = none) (cl : Cls K C) (n1 : NoAttr K C "row") : FnOk P w K mg base CX0 1 f fd ["self"] (zQH C) := by
 refine F.ok zZC (λvs H Q E h => ?_) (λcdv A outer s H vs Q E hr h => ?_)
 ·obtain ⟨p, xs, rfl, _⟩ := h
  rfl
 obtain ⟨p,xs,rfl,⟨dx,t,d,hp,ht,hd⟩,q⟩:=h;refine ⟨_,zA4 (zAB (zAA zAF rfl ml yBC (zA0 (zBF (pv 0) rfl) zA1))),?_⟩;exact ⟨_,rfl,p,C,dx,_,_,rfl,hp,cl,n1,rfl,t,xs,rfl,.inr (SqT.of ht),q⟩
theorem zPC {f C : Addr} {fd : FuncData} (F : Fun K "number" "Houses.number" zHA f fd) (T : Txt mg) (cl : Cls K C) (n2 : NoAttr K C "places") : FnOk P w K mg base CX0 1 f fd ["self", "name"] (zMJ C) := by
 refine F.ok zM6 (λvs H Q E h => ?_) (λcdv A outer s H vs Q E hr h => ?_)
 ·obtain ⟨p, xs, i, z, rfl, _⟩ := h
  rfl
 obtain ⟨p,xs,i,z,rfl,⟨dx,t,d,hp,ht,hd⟩,hk,nd,hi,q⟩:=h;have hu:=zWB hr
 refine ⟨_, zA3 (zB7 (PW.pt (zEA (zBI (zBG (zAA zB3 rfl T.inst yAZ (zA0 (pv 1) (zA0 (zAY (v := .ty "str") rfl T.str yCa rfl) zA1)))))
   (zDK (zQ0 (zIB hu (pv 1) (zBF (pv 0) rfl)) (by with_unfolding_all rfl))))) zC4 zAG)
  (zA4 (zAB (zOI hu (zBF (pv 0) rfl) (pv 1) (λ_ _=>rfl)))),?_⟩
 refine ⟨_,rfl,_,_,_,true,rfl,.str z,rfl,true,rfl,?_⟩;refine zBP ?_;obtain ⟨hlt,hx⟩:=yAI.mp hi;have hv:=zED hk nd xs.length (yAE _) i hlt hlt;rw [hx] at hv;have hv : zEI (zB1 xs xs.length) (.inr z) = some (.int (i : Nat)):=hv;have hg : DGet H d (.str z) (some (.int (i : Nat))):=by rw [<- hv]; exact DGet.k (k := .inr z) hd
 refine ⟨_,rfl,_,rfl,p,C,dx,_,_,rfl,hp,cl,n2,rfl,d,_,rfl,hg,_,rfl,?_⟩;refine zBP ?_;exact ⟨_,rfl,p,C,dx,_,_,rfl,hp,cl,n2,rfl,_,rfl,d,_,rfl,hg,q⟩
noncomputable def zH9 (m k : Nat) : Prop:=m / 2 ^ k % 2 = 0
theorem zRU {m k : Nat} (h : zH9 m k) {j : Nat} (hj : j ≠ k) (hm : zH9 m j) : zH9 (m + 2 ^ k) j := by
 unfold zH9 at *
 rcases yBo j k with z | z
 ·obtain ⟨d, rfl⟩ : ∃ d, k = j + (d + 1) := ⟨k - j - 1, by lia⟩
  rw [Nat.pow_add,Nat.add_mul_div_left _ _ (Nat.two_pow_pos j),Nat.pow_succ];lia
 ·obtain ⟨d, rfl⟩ : ∃ d, j = k + 1 + d := ⟨j - k - 1, by lia⟩
  rw [Nat.pow_add,<- yDl] at hm ⊢
  have e : (m + 2 ^ k) / 2 ^ (k + 1) = m / 2 ^ (k + 1) := by
   rw [Nat.pow_succ,<- yDl,<- yDl,Nat.add_div_right _ (Nat.two_pow_pos k)];lia
  rw [e];exact hm
noncomputable def maskN (ix : List Nat) : Nat:=ix.foldl (λacc k=>acc + 2 ^ k) 0
theorem zDB (ix : List Nat) (k : Nat) : maskN (ix++[k]) = maskN ix + 2 ^ k:=by unfold maskN; rw [List.foldl_append]; rfl
theorem zDV : ∀ (n : Nat) (ix : List Nat), ix.length = n -> ix.Nodup -> ∀ k, k ∉ ix -> zH9 (maskN ix) k := by
 intro n
 induction n with
 | zero =>
  intro ix h _ k _;rw [yCt.mp h];show 0 / 2 ^ k % 2 = 0
  simp
 | succ n ih =>
  intro ix h nd k hk;have hne : ix≠[]:=λe=>by rw [e] at h; cases h
  obtain ⟨ds,c,rfl⟩ : ∃ ds c,ix = ds++[c]:=⟨_,_,(yCW hne).symm⟩;have hl : ds.length = n:=by simpa using h
  rw [yCd] at nd;have hc : c∉ds:=λz=>nd.2.2 c z c (by simp) rfl;rw [yAa,not_or,yAF] at hk;rw [zDB];exact zRU (ih ds hl nd.1 c hc) hk.2 (ih ds hl nd.1 k hk.1)
theorem zJG {m k : Nat} (h : zH9 m k) : Builtin.bitAnd (m : Int) ((2 ^ k : Nat) : Int) = 0 := by
 have e : m &&& 2 ^ k = 0 := by
  refine yBT λi => ?_;rw [yCK,yBl,yDF]
  by_cases e : k = i
  ·subst e
   unfold zH9 at h;rw [yBk,h]
   simp
  ·simp [e]
 show ((m &&& 2 ^ k : Nat) : Int) = 0;rw [e]; rfl
noncomputable def zI7 (C : Addr) : Sp := fun vs H Q _ => ∃ p xs x ys ix, vs = [.ref p, x] /\ HousesAt C H p xs /\ (∀ v ∈ xs, v = kV (.inr (zAV v))) /\ xs.Nodup /\ xs.length <= 12 /\ Row H x (some ys) /\ ix.Nodup /\ ys.length = ix.length /\
 (∀ (j : Nat) (k : Nat),ix[j]? = some k -> ∃ v,xs[k]? = some v/\ys[j]? = some v)/\∀ H',Same H H' -> Q (.int (maskN ix : Nat)) H'
theorem HousesAt.same {C p : Addr} {H H' : Hp} {xs : List V} (g : Same H H') (h : HousesAt C H p xs) : HousesAt C H' p xs:=let ⟨dx,t,d,h1,h2,h3⟩:=h; ⟨dx,t,d,g _ _ h1,g _ _ h2,g _ _ h3⟩
theorem scMask : FnScope ["self","names","total","name","bit"] ["self","names"] (zA7 zRX):=by trivial
theorem zX0 {f a1 C : Addr} {fd d1 : FuncData} (F : Fun K "mask" "Houses.mask" zRX f fd) (T : Txt mg) (mt : mg "tuple" = none) (k : Kit2 K) (cl : Cls K C) (M1 : Meth K C "number" a1) (O1 : FnOk P w K mg base CX0 1 a1 d1 ["self", "name"] (zMJ C)) (b1 : Binds K d1 ["self", "name"] []) :
  FnOk P w K mg base CX0 2 f fd ["self","names"] (zI7 C):=by
 refine F.ok scMask (λvs H Q E h => ?_) (λcdv A outer s H vs Q E hr h => ?_)
 ·obtain ⟨p, xs, x, ys, ix, rfl, _⟩ := h
  rfl
 obtain ⟨p,xs,x,ys,ix,rfl,hH,hk,nd,h12,hR,ndi,hl,hix,q⟩:=h;obtain ⟨t,ty,e⟩:=zHW k hR
 refine ⟨_, zA3 (zB7 (zBI (zBG (zAA zDG rfl T.inst yAZ (zA0 (pv 1) (zA0 (zAS (zA0 (zAY (v := .ty "list") rfl T.list yBJ rfl) (zA0 (zAY (v := .ty "tuple") rfl mt yAv rfl) zA1))) zA1))))) zC4 zAG)
  (zA3 (zAE (i:=2) scMask.nd rfl (Or.inl rfl) zA8)
  (zA3 (zC8 PassesOwn.never rfl (zC5 (pv 1)) (zAH (i := 3) scMask.nd rfl (Or.inl rfl))
   (zA3 (zAE (i:=4) scMask.nd rfl (Or.inl rfl) (zAC zCU zA8 (zBH (pv 0) cl M1 O1 hr b1 .nil zAD (zA0 (pv 3) zA1))))
   (zA3 (zB7 (zF8 (zAC zCI (pv 2) (pv 4)) (λ_=>rfl)) zC4 zAG)
   (zA4 (zRK (i:=2) scMask.nd rfl (Or.inl rfl) (pv 4) zPI)))))
  (zA4 (zAB (pv 2))))),?_⟩
 refine ⟨_,rfl,(by show 2 <= sizeLine; decide),λu hu => ?_⟩;have g1:=same_new hu (.tup [.ty "list",.ty "tuple"]);have c1 : (upd H u (.tup [.ty "list",.ty "tuple"])) u = _:=zA2;generalize upd H u (.tup [.ty "list",.ty "tuple"]) = H1 at g1 c1 ⊢;refine ⟨_,t,u,["list","tuple"],_,rfl,TyOf.same g1 ty,c1,e,_,rfl,?_⟩;refine zBP ?_
 obtain ⟨a, rfl, sq⟩ : ∃ a, x = .ref a /\ (H1 a = some (.lst ys) \/ H1 a = some (.tup ys)) := by
  cases hR with
  | lst h=>exact ⟨_,rfl,.inl (g1 _ _ h)⟩
  | tup h=>exact ⟨_,rfl,.inr (g1 _ _ h)⟩
 have hH1:=hH.same g1;refine ⟨_,rfl,a,rfl,?_⟩
 rcases sq with sq | sq
 ·refine .inl ⟨⟨_, SqL.of sq⟩, zGY ys.length (fun i σ H' => ∃ nm bt, σ = [some (.ref p), some (.ref a), some (.int (maskN (ix.take i) : Nat)), nm, bt] /\ Same H1 H') ⟨_, _, rfl, Same.refl _⟩ (fun i σ H' hi hP => ⟨ys, ys[i], SqL.of (hP.choose_spec.choose_spec.2 _ _ sq), by simp [hi]⟩) (fun σ H' hP => ⟨ys, SqL.of (hP.choose_spec.choose_spec.2 _ _ sq), yAE _⟩) (fun i σ H' x H3 hi hP y => ?_) (fun σ H' hP => ?_)⟩
  ·obtain ⟨rfl, hx⟩ := y
   have hx:=hx ys (SqL.of (hP.choose_spec.choose_spec.2 _ _ sq));obtain ⟨nm,bt,rfl,g⟩:=hP;obtain ⟨kx,hkx⟩ : ∃ kx,ix[i]? = some kx:=⟨ix[i]'(by lia),by simp⟩;obtain ⟨v,hv,hy2⟩:=hix i kx hkx;rw [hx] at hy2
   cases hy2
   obtain ⟨z,hz⟩ : ∃ z,x = .str z:=⟨_,hk x (yAm hv)⟩;subst hz;have hkl : kx < xs.length:=(yAI.mp hv).1;obtain ⟨dx,t,d,hp',_⟩:=hH1.same g;refine ⟨_,rfl,p,dx,_,rfl,hp',rfl,_,rfl,p,xs,kx,z,rfl,hH1.same g,hk,nd,hv,_,_,rfl,rfl,⟨by lia,by lia,by decide⟩,?_⟩;have eb : (1 : Int) * 2 ^ ((kx : Nat) : Int).toNat = ((2 ^ kx : Nat) : Int):=by rw [yAf,yCQ,yBi]; rfl
   have hun := zDV _ (ix.take i) rfl (ndi.sublist (yDc i ix)) kx (fun hm => by
    obtain ⟨j,hj,ej⟩:=yCm hm;rw [yAp] at hj;rw [List.getElem_take] at ej
    have e2 : ix[i]'(by lia) = kx := by
     have:=yAI.mp hkx
     exact this.2
    have:=(yCB ndi).mp (ej.trans e2.symm)
    lia)
   refine ⟨_,rfl,_,rfl,_,_,rfl,rfl,_,rfl,?_⟩;rw [eb,zJG hun];refine zBP ?_;refine ⟨_,rfl,_,rfl,_,_,rfl,rfl,some (.str z),some (.int (1 * 2 ^ ((kx : Nat) : Int).toNat)),?_,g⟩;have et : ix.take (i + 1) = ix.take i++[kx]:=by rw [yBF,hkx]; rfl
   have ev : ((maskN (ix.take (i + 1)) : Nat) : Int) = (maskN (ix.take i) : Nat) + 1 * 2 ^ ((kx : Nat) : Int).toNat:=by rw [et,zDB,eb]; lia
   rw [ev];rfl
  ·have hP := hP
   obtain ⟨nm,bt,rfl,g⟩:=hP;rw [hl,yAt (yAE _)];exact ⟨_,rfl,q H' (g1.trans g)⟩
 ·refine .inr ⟨⟨_, SqT.of sq⟩, zGY ys.length (fun i σ H' => ∃ nm bt, σ = [some (.ref p), some (.ref a), some (.int (maskN (ix.take i) : Nat)), nm, bt] /\ Same H1 H') ⟨_, _, rfl, Same.refl _⟩ (fun i σ H' hi hP => ⟨ys, ys[i], SqT.of (hP.choose_spec.choose_spec.2 _ _ sq), by simp [hi]⟩) (fun σ H' hP => ⟨ys, SqT.of (hP.choose_spec.choose_spec.2 _ _ sq), yAE _⟩) (fun i σ H' x H3 hi hP y => ?_) (fun σ H' hP => ?_)⟩
  ·obtain ⟨rfl, hx⟩ := y
   have hx:=hx ys (SqT.of (hP.choose_spec.choose_spec.2 _ _ sq));obtain ⟨nm,bt,rfl,g⟩:=hP;obtain ⟨kx,hkx⟩ : ∃ kx,ix[i]? = some kx:=⟨ix[i]'(by lia),by simp⟩;obtain ⟨v,hv,hy2⟩:=hix i kx hkx;rw [hx] at hy2
   cases hy2
   obtain ⟨z,hz⟩ : ∃ z,x = .str z:=⟨_,hk x (yAm hv)⟩;subst hz;have hkl : kx < xs.length:=(yAI.mp hv).1;obtain ⟨dx,t,d,hp',_⟩:=hH1.same g;refine ⟨_,rfl,p,dx,_,rfl,hp',rfl,_,rfl,p,xs,kx,z,rfl,hH1.same g,hk,nd,hv,_,_,rfl,rfl,⟨by lia,by lia,by decide⟩,?_⟩;have eb : (1 : Int) * 2 ^ ((kx : Nat) : Int).toNat = ((2 ^ kx : Nat) : Int):=by rw [yAf,yCQ,yBi]; rfl
   have hun := zDV _ (ix.take i) rfl (ndi.sublist (yDc i ix)) kx (fun hm => by
    obtain ⟨j,hj,ej⟩:=yCm hm;rw [yAp] at hj;rw [List.getElem_take] at ej
    have e2 : ix[i]'(by lia) = kx := by
     have:=yAI.mp hkx
     exact this.2
    have:=(yCB ndi).mp (ej.trans e2.symm)
    lia)
   refine ⟨_,rfl,_,rfl,_,_,rfl,rfl,_,rfl,?_⟩;rw [eb,zJG hun];refine zBP ?_;refine ⟨_,rfl,_,rfl,_,_,rfl,rfl,some (.str z),some (.int (1 * 2 ^ ((kx : Nat) : Int).toNat)),?_,g⟩;have et : ix.take (i + 1) = ix.take i++[kx]:=by rw [yBF,hkx]; rfl
   have ev : ((maskN (ix.take (i + 1)) : Nat) : Int) = (maskN (ix.take i) : Nat) + 1 * 2 ^ ((kx : Nat) : Int).toNat:=by rw [et,zDB,eb]; lia
   rw [ev];rfl
  ·have hP := hP
   obtain ⟨nm,bt,rfl,g⟩:=hP;rw [hl,yAt (yAE _)];exact ⟨_,rfl,q H' (g1.trans g)⟩
noncomputable def bit (m : Int) (k : Nat) : Bool:=decide (m / 2 ^ k % 2 = 1)
noncomputable def zBR (m : Int) (i : Nat) : List Int:=((List.range i).filter (bit m)).map λ(k : Nat)=>(k : Int)
noncomputable def zE9 (m : Int) : List Int:=zBR m 12
theorem zC2 (m : Int) (i : Nat) : zBR m (i + 1) = zBR m i ++ (if bit m i = true then [(i : Int)] else []) := by
 unfold zBR;rw [List.range_succ,yDS,yAU]
 cases h : bit m i <;> simp [h]
theorem zCJ (m : Int) (i : Nat) : (zBR m i).length <= i := by
 unfold zBR;rw [yAB];exact yAk (yDE _ _) (by simp)
theorem zJ9 {m : Int} {i k : Nat} (h0 : 0 <= m) (h : m / 2 ^ i <= 0) (hk : i <= k) : m / 2 ^ k = 0 := by
 have p1 : (0 : Int) < 2 ^ i:=Int.pow_pos (by decide)
 have e : m / 2 ^ i = 0 := by
  have:=Int.ediv_nonneg h0 (Int.le_of_lt p1)
  lia
 have hlt : m < 2 ^ i := by
  have:=Int.lt_ediv_add_one_mul_self m p1
  rw [e] at this;lia
 have hle : (2 : Int) ^ i <= 2 ^ k := by
  have:=yAx (n:=2) (by decide) hk
  exact_mod_cast this
 exact yCx h0 (by lia)
theorem zFI {m : Int} {i : Nat} (h0 : 0 <= m) (h : m / 2 ^ i <= 0) : ∀ d : Nat, zBR m (i + d) = zBR m i
 | 0=>rfl
 | d + 1=>by
  have e : bit m (i + d) = false := by
   unfold bit;rw [zJ9 h0 h (Nat.le_add_right i d)];rfl
  rw [<- Nat.add_assoc,zC2,e,zFI h0 h d]
  simp
theorem zCZ {m : Int} {i : Nat} (h0 : 0 <= m) (h : m / 2 ^ i <= 0) (hi : i <= 12) : zBR m i = zE9 m := by
 have:=zFI h0 h (12 - i)
 rw [show i + (12 - i) = 12 by lia] at this;exact this.symm
theorem zRC {m : Int} (h0 : 0 <= m) (h : m < 4096) : m / 2 ^ 12 <= 0 := by
 have : m / 2 ^ 12 = 0:=yCx h0 (by simpa using h);lia
noncomputable def kOf (v : V) : Int × List Int := match v with
 | .int m=>((zE9 m).length,zE9 m)
 | _=>(0,[])
noncomputable def OkM (m : Int) : Prop:=0 <= m/\m < 4096
noncomputable def zUE : Sp:=λvs H Q _=>∃ m,vs = [.int m]/\OkM m/\∀ r H',Same H H' -> H r = none -> H' r = some (.lst ((zE9 m).map V.int)) -> Q (.ref r) H'
noncomputable def zZE (K : PySem.W.Frag) : Sp:=λvs H Q _=>∃ m,vs = [.int m]/\OkM m/\∀ r H',Same H H' -> DV K H' (.ref r) (za8 (kOf (.int m))) -> Q (.ref r) H'
noncomputable def zXZ (K : PySem.W.Frag) : Sp := fun vs H Q _ => ∃ a ms, vs = [.ref a] /\ (SqL K H a (List.map V.int ms) \/ SqT K H a (List.map V.int ms)) /\ ms.length <= 5000 /\ (∀ m ∈ ms, OkM m) /\
 ∀ D H' ys,H D = none -> Same H H' -> H' D = some (.lst (List.map V.int ys)) -> ys.Perm ms -> ys.Pairwise (λa b=>zCK (kOf (.int b)) (kOf (.int a)) = false) -> Q (.ref D) H'
theorem scNum : FnScope ["mask","numbers","number"] ["mask"] (zA7 zbF):=by trivial
theorem zZT {f : Addr} {fd : FuncData} (F : Fun K "numbers_of" "numbers_of" zbF f fd) : FnOk P w K mg base CX0 1 f fd ["mask"] zUE := by
 refine F.ok scNum (λvs H Q E h => ?_) (λcdv A outer s H vs Q E hr h => ?_)
 ·obtain ⟨m, rfl, _⟩ := h
  rfl
 obtain ⟨m,rfl,⟨h0,h1⟩,q⟩:=h
 refine ⟨_, zA3 (zAE (i := 1) scNum.nd rfl (Or.inl rfl) (zAQ zA1)) (zA3 (zAE (i := 2) scNum.nd rfl (Or.inl rfl) zA8)
  (zA3 (zLG PassesOwn.never (zAM zPK (zAC zP6 (pv 0) (pv 2)) zA8 (zAO _))
   (zA3 (zB7 (zF8 (zAC zCI (zAC zP6 (pv 0) (pv 2)) zA8) (fun _ => rfl))
     (zA4 (zCD (zGI yBQ yBu yBt zC1 (pv 1) (zA0 (pv 2) zA1)))) zAG)
    (zA4 (zRK (i:=2) scNum.nd rfl (Or.inl rfl) zA8 zPI))))
  (zA4 (zAB (pv 1))))),?_⟩
 refine ⟨(by show 0 <= sizeLine; decide),λp hp => ?_⟩;refine ⟨λk σ H'=>∃ i : Nat,σ = [some (.int m),some (.ref p),some (.int i)]/\i <= 12/\k = 13 - i/\Same H H'/\H' p = some (.lst ((zBR m i).map V.int)),⟨13,0,rfl,by lia,rfl,same_new hp _,zA2⟩,?_⟩
 rintro k σ H' ⟨i,rfl,hi,rfl,g,hl⟩
 refine ⟨_,rfl,_,rfl,_,_,rfl,rfl,(by show (0 : Int) <= (i : Int); lia),_,_,rfl,rfl,_,rfl,?_⟩;have ei : ((i : Int)).toNat = i:=yAf i;rw [ei];refine zGV (λc => ?_) (λc => ?_)
 ·have c' : 0 < m / 2 ^ i := yAj c
  have hi' : i < 12 := by
   rcases yBo i 12 with z | z
   ·exact z
   ·have e : i = 12 := by lia
    subst e
    have:=zRC h0 h1
    lia
  refine ⟨λσ' H2 => σ' = [some (.int m),some (.ref p),some (.int ((i + 1 : Nat) : Int))]/\Same H H2/\H2 p = some (.lst ((zBR m (i + 1)).map V.int)),λσ' H2 ⟨e,g2,hl2⟩=>⟨13 - (i + 1),by lia,i + 1,e,by lia,rfl,g2,hl2⟩,?_⟩;refine ⟨_,rfl,_,rfl,_,_,rfl,rfl,(by show (0 : Int) <= (i : Int); lia),_,_,rfl,rfl,_,rfl,?_⟩;rw [ei,PyProof.Rows.bitAnd_m1];have hn:=zC2 m i;have hz:=zCJ m i;refine zGV (λb => ?_) (λb => ?_)
  ·have hb : bit m i = true := by
    unfold bit;have : m / 2 ^ i % 2≠0:=by simpa using b
    exact yAM (by lia)
   rw [yAQ hb] at hn;refine ⟨_,rfl,.inl ⟨rfl,_,SqL.of hl⟩,_,rfl,p,_,_,rfl,rfl,hl,(by rw [yAB]; exact zJ2 (by lia)),?_⟩;refine ⟨_,rfl,_,_,rfl,rfl,rfl,λc o e => ?_,?_⟩
   ·rw [zA6 (zA5 e hp)]; exact g _ _ e
   ·rw [zA2,hn,yAU]; rfl
  ·have hb : ¬ bit m i = true := by
    unfold bit;have : m / 2 ^ i % 2 = 0:=by simpa using b
    intro z
    have:=yAj z
    lia
   rw [yAN hb,yBh] at hn;refine ⟨_,rfl,_,_,rfl,rfl,rfl,g,?_⟩;rw [hn]; exact hl
 ·have c' : ¬ 0 < m / 2 ^ i := fun z => c (yAM z)
  refine ⟨_,rfl,?_⟩;rw [zCZ h0 (by lia) hi] at hl;exact q p H' g hp hl
theorem scKey : FnScope ["mask","numbers"] ["mask"] (zA7 zb3):=by trivial
theorem zYM {f g : Addr} {fd gd : FuncData} (F : Fun K "key_of" "key_of" zb3 f fd) (G : FnOk P w K mg base CX0 1 g gd ["mask"] zUE) (bG : Binds K gd ["mask"] []) (kG : PySem.W.keepIn K (.ref g) = true) (mG : mg "numbers_of" = some (.ref g)) (ml : mg "len" = none) (mt : mg "tuple" = none) :
  FnOk P w K mg base CX0 2 f fd ["mask"] (zZE K):=by
 refine F.ok scKey (λvs H Q E h => ?_) (λcdv A outer s H vs Q E hr h => ?_)
 ·obtain ⟨m, rfl, _⟩ := h
  rfl
 obtain ⟨m,rfl,hm,q⟩:=h
 refine ⟨_, zA3 (zAE (i := 1) scKey.nd rfl (Or.inl rfl) (zA9 G hr rfl mG kG bG .nil zAD (zA0 (pv 0) zA1)))
  (zA4 (zAB (zAS (zA0 (zAA zAF rfl ml yBC (zA0 (pv 1) zA1)) (zA0 (zB8 zB0 rfl mt yAv (zA0 (pv 1) zA1)) zA1))))),?_⟩
 refine ⟨_,rfl,m,rfl,hm,λr H' g hr' hl => ?_⟩;refine ⟨_,rfl,r,_,rfl,.inl (SqL.of hl),_,rfl,r,_,rfl,.inl ⟨SqL.of hl,λt ht=>⟨(by show 2 <= sizeLine; decide),λu hu => ?_⟩⟩⟩
 have ne : t ≠ u := by
  intro e;subst e;rw [zA2] at hu
  cases hu
 refine q u _ (g.trans ((same_new ht _).trans (same_new hu _))) ?_;rw [yAB];refine .tup (SqT.of zA2) (.cons (.int _) (.cons (.tup (SqT.of (xs:=(zE9 m).map V.int) (by rw [zA6 ne,zA2])) (DVs.ints _)) .nil))
theorem zbL : FnScope ["masks"] ["masks"] (zA7 zaP):=by trivial
theorem zET {ys : List V} {ms : List Int} (h : ys.Perm (ms.map V.int)) : ∃ zs : List Int, ys = zs.map V.int /\ zs.Perm ms := by
 have hall : ∀ y ∈ ys, ∃ m, y = V.int m := fun y hy => by
  obtain ⟨m,_,e⟩:=yAs.mp (h.mem_iff.mp hy);exact ⟨m,e.symm⟩
 let un : V -> Int:=λv=>match v with | .int m=>m | _=>0
 have e1 : (ms.map V.int).map un = ms:=by rw [yBp]; exact List.map_id _
 refine ⟨ys.map un,?_,?_⟩
 ·rw [yBp]
  clear h
  induction ys with
  | nil=>rfl
  | cons y r ih =>
   obtain ⟨m,rfl⟩:=hall y (yAR ..);rw [yAl,<- ih λz hz=>hall z (yAO _ hz)];rfl
 ·have := h.map un
  rw [e1] at this;exact this
theorem zZ1 {f g : Addr} {fd gd : FuncData} (F : Fun K "in_order" "in_order" zaP f fd) (G : FnOk P w K mg base CX0 2 g gd ["mask"] (zZE K)) (bG : Binds K gd ["mask"] []) (mG : mg "key_of" = some (.ref g)) (ms : mg "sorted" = none) :
  FnOk P w K mg base CX0 5 f fd ["masks"] (zXZ K):=by
 refine F.ok zbL (λvs H Q E h => ?_) (λcdv A outer s H vs Q E hr h => ?_)
 ·obtain ⟨a, m, rfl, _⟩ := h
  rfl
 obtain ⟨a,ns,rfl,hS,h64,hm,q⟩:=h;refine ⟨_,zA4 (zAB (zSV (kf:=kOf) G hr bG rfl ms rfl mG (pv 0))),?_⟩;refine ⟨_,rfl,a,ns.map V.int,rfl,hS,by rw [yAB]; lia,λy hy H2 g => ?_,λD H2 ys hD g hl hp hs => ?_⟩
 ·obtain ⟨m, hmm, rfl⟩ := yAs.mp hy
  exact ⟨m,rfl,hm m hmm,λr H' g' hd=>⟨g',hd⟩⟩
 ·obtain ⟨zs, rfl, hz⟩ := zET hp
  rw [yBm] at hs;exact q D H2 zs hD g hl hz hs
theorem zX4 {X : Cx} {K : PySem.W.Frag} {e : Expr} {f : Str} {pos : Pos} {ta : TE} (hK : X.K = K) (he : PE X e ta) (hb : attributeBase e f X.env (eval e X.env) = eval e X.env) : PE X (.Attribute e f pos) (zc0 K ta f):=by subst hK; exact zBF he hb
theorem zX1 {X : Cx} {K : PySem.W.Frag} (hK : X.K = K) : IxR X (zbU K):=by subst hK; exact zF0
noncomputable def zK1 (C : Addr) : Sp:=λvs H Q _=>∃ p xs,vs = [.ref p]/\HousesAt C H p xs/\xs.length <= 12/\Q (.int (2 ^ xs.length - 1)) H
theorem zWC : FnScope ["houses"] ["houses"] (zA7 zRG):=by trivial
theorem zUC {f a1 C : Addr} {fd d1 : FuncData} (F : Fun K "all_of" "all_of" zRG f fd) (cl : Cls K C) (M1 : Meth K C "size" a1) (O1 : FnOk P w K mg base CX0 1 a1 d1 ["self"] (zQH C)) (b1 : Binds K d1 ["self"] []) :
  FnOk P w K mg base CX0 2 f fd ["houses"] (zK1 C):=by
 refine F.ok zWC (λvs H Q E h => ?_) (λcdv A outer s H vs Q E hr h => ?_)
 ·obtain ⟨p, xs, rfl, _⟩ := h
  rfl
 obtain ⟨p,xs,rfl,hH,h12,q⟩:=h;obtain ⟨dx,t,d,hp,ht,hd⟩:=id hH;refine ⟨_,zA4 (zAB (zAC zRA (zAC zCU zA8 (zE6 (pv 0) cl M1 O1 hr b1 .nil zAD)) zA8)),?_⟩;refine ⟨_,rfl,p,dx,_,rfl,hp,rfl,p,xs,rfl,hH,_,_,rfl,rfl,⟨by lia,by lia,by decide⟩,_,_,rfl,rfl,?_⟩;rw [show (1 : Int) * 2 ^ ((xs.length : Nat) : Int).toNat = 2 ^ xs.length by rw [yAf,yCQ]];exact q
noncomputable def setV (xs : List V) (m : Int) : List V:=(zE9 m).map λk=>xs.getD k.toNat .non
noncomputable def zHC (C : Addr) : Sp:=λvs H Q _=>∃ p xs m,vs = [.ref p,.int m]/\HousesAt C H p xs/\xs.length <= 12/\0 <= m/\m < 2 ^ xs.length/\∀ D H',H D = none -> Same H H' -> H' D = some (.lst (setV xs m)) -> Q (.ref D) H'
theorem zRO {xs : List V} {m : Int} (h12 : xs.length <= 12) (h0 : 0 <= m) (h1 : m < 2 ^ xs.length) {k : Int} (hk : k ∈ zE9 m) : 0 <= k /\ k < (xs.length : Int) := by
 have e : m / 2 ^ xs.length = 0:=yCx h0 h1;rw [<- zCZ h0 (by lia) h12] at hk;unfold zBR at hk;obtain ⟨j,hj,rfl⟩:=yAs.mp hk
 have:=yBM.mp (yBX.mp hj).1
 lia
theorem zWE : FnScope ["self","mask"] ["self","mask"] (zA7 zQ7):=by trivial
theorem zSY {f a1 a2 a3 C : Addr} {fd d1 d2 d3 : FuncData} (F : Fun K "set_of" "Houses.set_of" zQ7 f fd) (T : Txt mg) (cl : Cls K C) (n1 : NoAttr K C "row") (D1 : Def P w K mg base 2 "is_within" ["thing", "low", "high"] zML a1 d1) (D2 : Def P w K mg base 1 "numbers_of" ["mask"] zUE a2 d2) (DA : Def P w K mg base 2 "all_of" ["houses"] (zK1 C) a3 d3) :
  FnOk P w K mg base CX0 3 f fd ["self","mask"] (zHC C):=by
 refine F.ok zWE (λvs H Q E h => ?_) (λcdv A outer s H vs Q E hr h => ?_)
 ·obtain ⟨p, xs, m, rfl, _⟩ := h
  rfl
 obtain ⟨p,xs,m,rfl,hH,h12,h0,h1,q⟩:=h;have hr1 : Room 1 _:=hr.mono (by decide)
 refine ⟨_, zA3 (zB7 (zBI (zBG (zA9 D1.ok hr rfl D1.m D1.k D1.b .nil zAD (zA0 (pv 1) (zA0 zA8 (zA0 (zA9 DA.ok hr rfl DA.m DA.k DA.b .nil zAD (zA0 (pv 0) zA1)) zA1)))))) zC4 zAG)
  (zA4 (zAB (zBK (xs := ["number"]) (fv := [("self", 0)]) rfl (by decide +kernel) ⟨⟨rfl, Or.inl rfl, rfl⟩, trivial⟩ (zVG (zA9 D2.ok hr1 rfl D2.m D2.k D2.b .nil zAD (zA0 (pv 1) zA1))) (fun _ _ _ _ _ => zAH (i := 0) (ndT (by decide +kernel)) rfl (Or.inl rfl)) (fun _ _ _ _ _ => zBU)
   (λ_ _ _ _ _=>zBQ (zX1 (K:=K) rfl) (zX4 (K:=K) rfl (pv 1) rfl) (pv 0) (λ_ _=>rfl))))),?_⟩
 obtain ⟨dx,t,d,hp,ht,hd⟩:=id hH;refine ⟨_,rfl,_,rfl,p,xs,rfl,hH,h12,.int m,0,_,rfl,trivial,_,rfl,?_⟩
 have ew : zK2 (.int m) 0 (2 ^ xs.length - 1) = true := by
  show (decide (0 <= m)&&decide (m <= _)) = true;rw [yAM h0,yAM (show m <= 2 ^ xs.length - 1 by lia)]; rfl
 rw [ew];refine zBP ?_
 have ok : OkM m := ⟨h0, by
  have : (2 : Int) ^ xs.length <= 2 ^ 12 := by
   have:=yAx (n:=2) (by decide) h12
   exact_mod_cast this
  lia⟩
 refine ⟨_,rfl,m,rfl,ok,λr H1 g1 hr' l1=>⟨r,rfl,⟨_,SqL.of l1⟩,?_⟩⟩;have hlen : (zE9 m).length <= 12:=zCJ m 12;refine zBW (zE9 m).length (λi D H'=>Same H1 H'/\H' D = some (.lst ((setV xs m).take i))) (λD hD=>⟨L2.same_new hD _,zA2⟩) (λi D H' _ hi hP=>⟨_,.int (zE9 m)[i],SqL.of (hP.1 _ _ l1),by simp [hi]⟩) (λD H' _ hP=>⟨_,SqL.of (hP.1 _ _ l1),by simp⟩) (λi D H' x H3 hD hi hP y => ?_) (λD H' hD hP => ?_)
 ·obtain ⟨rfl, hx⟩ := y
  have hx:=hx _ (SqL.of (hP.1 _ _ l1));rw [yAe,yAA hi] at hx
  cases hx
  obtain ⟨k0,k1⟩:=zRO h12 h0 h1 (yAn hi);refine ⟨rfl,?_⟩;unfold zJP
  (try dsimp only)
  rw [yAQ rfl];have hk : (zE9 m)[i].toNat < xs.length:=by lia
  have hat : atI xs (zE9 m)[i] = some (xs.getD (zE9 m)[i].toNat .non) := by
   have q : atI xs (((zE9 m)[i].toNat : Nat) : Int) = some xs[(zE9 m)[i].toNat]:=zFT (yAA hk);rw [show (((zE9 m)[i].toNat : Nat) : Int) = (zE9 m)[i] by lia] at q;rw [q,yAo,yAA hk]; rfl
  refine ⟨_,rfl,p,C,dx,_,_,rfl,hP.1 _ _ (g1 _ _ hp),cl,n1,rfl,_,rfl,t,_,_,_,rfl,rfl,SqT.of (hP.1 _ _ (g1 _ _ ht)),hat,_,hP.2,?_,λb o q' => ?_,?_⟩
  ·have : 1000 < sizeLine := by decide
   rw [yAp];unfold setV;rw [yAB];lia
  ·rw [zA6 (zA5 q' hD)]; exact hP.1 _ _ q'
  ·have es : (setV xs m)[i]? = some (xs.getD (zE9 m)[i].toNat .non) := by unfold setV; rw [yAe, yAA hi]; rfl
   rw [zA2,yBF,es]; rfl
 ·have := hP.2
  rw [yAt (by unfold setV; simp)] at this;exact q D H' (g1.free hD) (g1.trans hP.1) this
structure DefE (P : Program) (w : World) (K : PySem.W.Frag) (mg : Str -> Option Value) (base : Heap) (k : Nat) (x : Str) (ps : List Str) (sp : Sp) (g : Addr) (gd : FuncData) : Prop where
 ok : FnOk P w K mg base (CXE P w) k g gd ps sp
 b : Binds K gd ps []
 k : PySem.W.keepIn K (.ref g) = true
 m : mg x = some (.ref g)
structure Er (P : Program) (w : World) (K : PySem.W.Frag) (mg : Str -> Option Value) (base : Heap) (x : Str) (C : Addr) : Prop where
 ex : ∃ f bm fd,ErrC K C f bm/\FnOk P w K mg base CX0 2 f fd ["self","found"] (zJN C "found")/\Binds K fd ["self","found"] []
 m : mg x = some (.ref C)
 nf : PySem.W.findIn K (.ref C) "found" = some none
noncomputable def Bad (H : Hp) (E : XK) (C : Addr) (v : V) : Prop:=∀ dx H',Same H H' -> H dx = none -> H' dx = some (.xd [("found",v)]) -> E (.ref C) (some dx) H'
theorem Bad.mono {H H1 : Hp} {E : XK} {C : Addr} {v : V} (g : Same H H1) (h : Bad H E C v) : Bad H1 E C v:=λdx H' g' hd hx=>h dx H' (g.trans g') (g.free hd) hx
theorem Bad.go {H : Hp} {E : XK} {C : Addr} {v : V} (h : Bad H E C v) : ∀ dx,H dx = none -> E (.ref C) (some dx) (upd H dx (.xd [("found",v)])):=λdx hd=>h dx _ (same_new hd _) hd zA2
theorem zXO : FnScope ["self","text"] ["self","text"] (zA7 zCC):=by trivial
theorem zRY {f : Addr} {fd : FuncData} (F : Fun K "__init__" "MeetError.__init__" zCC f fd) (mv : mg "ValueError" = none) : FnOk P w K mg base CX0 1 f fd ["self", "text"] (zLK K) := by
 refine F.ok zXO (λvs H Q E h => ?_) (λcdv A outer s H vs Q E hr h => ?_)
 ·obtain ⟨e, C, u, f, bm, rfl, _⟩ := h
  rfl
 obtain ⟨e,C,u,f,bm,rfl,ec,hH,q⟩:=h;refine ⟨_,zA4 (zCD (zST rfl mv (zA0 (pv 0) (zA0 (pv 1) zA1)))),?_⟩;exact ⟨_,rfl,_,rfl,e,C,u,f,bm,rfl,ec,hH,q⟩
theorem zN0 : FnScope ["self","found"] ["self","found"] (zA7 zD4):=by trivial
theorem zKH {f C CM fM : Addr} {bm : List Value} {fd fdM : FuncData} (F : Fun K "__init__" "NoHouse.__init__" zD4 f fd) (ec : ErrC K C f bm) (nf : PySem.W.findIn K (.ref C) "found" = some none) (cf : ClsFn K CM fM) (OM : FnOk P w K mg base CX0 1 fM fdM ["self", "text"] (zLK K)) (bM : Binds K fdM ["self", "text"] []) (mM : mg "MeetError" = some (.ref CM)) :
  FnOk P w K mg base CX0 2 f fd ["self","found"] (zJN C "found"):=by
 refine F.ok zN0 (λvs H Q E h => ?_) (λcdv A outer s H vs Q E hr h => ?_)
 ·obtain ⟨e, v, rfl, _⟩ := h
  rfl
 obtain ⟨e,v,rfl,hH,q⟩:=h;refine ⟨_,zA3 (zCD (zHT cf OM hr bM zAD rfl mM (zA0 (pv 0) (zA0 zBB zA1)))) (zA4 (zKS (pv 0) (pv 1) rfl)),?_⟩;refine ⟨_,rfl,e,C,_,f,bm,rfl,ec,hH,?_⟩;exact ⟨_,rfl,_,rfl,e,C,f,bm,rfl,ec,nf,hH,λdx hdx ne=>q dx hdx ne⟩
theorem zTO : FnScope ["self","found"] ["self","found"] (zA7 zEN):=by trivial
theorem zR3 {f C CM fM : Addr} {bm : List Value} {fd fdM : FuncData} (F : Fun K "__init__" "NoSet.__init__" zEN f fd) (ec : ErrC K C f bm) (nf : PySem.W.findIn K (.ref C) "found" = some none) (cf : ClsFn K CM fM) (OM : FnOk P w K mg base CX0 1 fM fdM ["self", "text"] (zLK K)) (bM : Binds K fdM ["self", "text"] []) (mM : mg "MeetError" = some (.ref CM)) :
  FnOk P w K mg base CX0 2 f fd ["self","found"] (zJN C "found"):=by
 refine F.ok zTO (λvs H Q E h => ?_) (λcdv A outer s H vs Q E hr h => ?_)
 ·obtain ⟨e, v, rfl, _⟩ := h
  rfl
 obtain ⟨e,v,rfl,hH,q⟩:=h;refine ⟨_,zA3 (zCD (zHT cf OM hr bM zAD rfl mM (zA0 (pv 0) (zA0 zBB zA1)))) (zA4 (zKS (pv 0) (pv 1) rfl)),?_⟩;refine ⟨_,rfl,e,C,_,f,bm,rfl,ec,hH,?_⟩;exact ⟨_,rfl,_,rfl,e,C,f,bm,rfl,ec,nf,hH,λdx hdx ne=>q dx hdx ne⟩
theorem zU3 : FnScope ["self","found"] ["self","found"] (zA7 zEG):=by trivial
theorem zPO {f C CM fM : Addr} {bm : List Value} {fd fdM : FuncData} (F : Fun K "__init__" "Twice.__init__" zEG f fd) (ec : ErrC K C f bm) (nf : PySem.W.findIn K (.ref C) "found" = some none) (cf : ClsFn K CM fM) (OM : FnOk P w K mg base CX0 1 fM fdM ["self", "text"] (zLK K)) (bM : Binds K fdM ["self", "text"] []) (mM : mg "MeetError" = some (.ref CM)) :
  FnOk P w K mg base CX0 2 f fd ["self","found"] (zJN C "found"):=by
 refine F.ok zU3 (λvs H Q E h => ?_) (λcdv A outer s H vs Q E hr h => ?_)
 ·obtain ⟨e, v, rfl, _⟩ := h
  rfl
 obtain ⟨e,v,rfl,hH,q⟩:=h;refine ⟨_,zA3 (zCD (zHT cf OM hr bM zAD rfl mM (zA0 (pv 0) (zA0 zBB zA1)))) (zA4 (zKS (pv 0) (pv 1) rfl)),?_⟩;refine ⟨_,rfl,e,C,_,f,bm,rfl,ec,hH,?_⟩;exact ⟨_,rfl,_,rfl,e,C,f,bm,rfl,ec,nf,hH,λdx hdx ne=>q dx hdx ne⟩
noncomputable def zAJ (xs : List V) (x : V) : Option Nat:=xs.findIdx? λv=>decide (v = x)
theorem zAZ {xs : List V} {x : V} {i : Nat} (h : zAJ xs x = some i) : xs[i]? = some x := by
 unfold zAJ at h;rw [List.findIdx?_eq_some_iff_getElem] at h;obtain ⟨hi,h1,_⟩:=h;rw [yAA hi,yAj h1]
theorem placeOf_none {xs : List V} {x : V} : zAJ xs x = none ↔ x ∉ xs := by
 unfold zAJ;rw [List.findIdx?_eq_none_iff];exact ⟨λh m=>absurd (h x m) (by simp),λh v hv=>yAG λe=>h (e ▸ hv)⟩
theorem zH3 {xs : List V} (nd : xs.Nodup) {x : V} {i : Nat} (h : xs[i]? = some x) : zAJ xs x = some i := by
 cases e : zAJ xs x with
 | none=>exact absurd (yAm h) (placeOf_none.mp e)
 | some j =>
  have:=zAZ e
  obtain ⟨hi,e1⟩:=yAI.mp h;obtain ⟨hj,e2⟩:=yAI.mp this;rw [(yCB nd).mp (e1.trans e2.symm)]
theorem zGB {xs : List V} (hk : ∀ v ∈ xs, v = kV (.inr (zAV v))) {z : Str} : ∀ n, n <= xs.length -> .str z ∉ xs -> zEI (zB1 xs n) (.inr z) = none
 | 0,_,_=>rfl
 | n + 1,hn,h=>by
  have hx : xs[n]? = some xs[n]:=by simp
  rw [zCN hx,zMH,yAN,zGB hk n (by lia) h];intro e;have e1:=hk xs[n] (yAn _);refine h ?_
  have : (V.str z) = xs[n] := by
   rw [e1];have : z = zAV xs[n]:=by injection e
   rw [this]; rfl
  rw [this];exact yAn _
noncomputable def zIJ (C Ch : Addr) : Sp:=λvs H Q E=>∃ p xs x,vs = [.ref p,x]/\HousesAt C H p xs/\(∀ v∈xs,v = kV (.inr (zAV v)))/\xs.Nodup/\Th H x/\(∀ i,zAJ xs x = some i -> Q (.int (i : Nat)) H)/\(zAJ xs x = none -> Bad H E Ch x)
theorem zNN {f C Ch : Addr} {fd : FuncData} (F : Fun K "number" "Houses.number" zHA f fd) (T : Txt mg) (kk : Kit K) (cl : Cls K C) (n2 : NoAttr K C "places") (er : Er P w K mg base "NoHouse" Ch) : FnOk P w K mg base (CXE P w) 4 f fd ["self", "name"] (zIJ C Ch) := by
 obtain ⟨fI,bm,dI,ec,OI,bI⟩:=er.ex;refine F.okE zM6 (λvs H Q E h => ?_) (λcdv A outer s H vs Q E hr h => ?_)
 ·obtain ⟨p, xs, x, rfl, _⟩ := h
  rfl
 obtain ⟨p,xs,x,rfl,⟨dx,t,d,hp,ht,hd⟩,hk,nd,hx,q1,q2⟩:=h;have hu:=zWB hr
 refine ⟨_, zA3 (zB7 (PW.pt (zEA (zBI (zBG (zAA zB3 rfl T.inst yAZ (zA0 (pv 1) (zA0 (zAY (v := .ty "str") rfl T.str yCa rfl) zA1)))))
   (zDK (zQ0 (zIB hu (pv 1) (zBF (pv 0) rfl)) (by with_unfolding_all rfl))))) (zA4 (zFM (E:=E) rfl ec OI hr bI rfl er.m zOC (zA0 (pv 1) zA1))) zAG)
  (zA4 (zAB (zOI hu (zBF (pv 0) rfl) (pv 1) (λ_ _=>rfl)))),?_⟩
 obtain ⟨t',ty,ek⟩:=zHI kk hx;refine ⟨_,rfl,_,t',"str",zUU x,rfl,ty,ek,_,rfl,?_⟩
 cases hb : zUU x with
 | false =>
  have e : zAJ xs x = none := placeOf_none.mpr fun m => by
   have:=hk x m
   rw [this] at hb
   cases hb
  exact zC7 (zC7 ⟨_,rfl,_,rfl,(q2 e).go⟩)
 | true =>
  cases x with
  | str z =>
   refine zBP ?_
   cases e : zAJ xs (.str z) with
   | none =>
    have hv:=zGB hk (z:=z) xs.length (yAE _) (placeOf_none.mp e);have hg : DGet H d (.str z) none:=by rw [<- hv]; exact DGet.k (k := .inr z) hd
    refine ⟨_,rfl,_,rfl,p,C,dx,_,_,rfl,hp,cl,n2,rfl,d,_,rfl,hg,_,rfl,?_⟩;exact zC7 ⟨_,rfl,_,rfl,(q2 e).go⟩
   | some i =>
    obtain ⟨hlt,hx'⟩:=yAI.mp (zAZ e);have hv:=zED hk nd xs.length (yAE _) i hlt hlt;rw [hx'] at hv;have hv : zEI (zB1 xs xs.length) (.inr z) = some (.int (i : Nat)):=hv;have hg : DGet H d (.str z) (some (.int (i : Nat))):=by rw [<- hv]; exact DGet.k (k := .inr z) hd
    refine ⟨_,rfl,_,rfl,p,C,dx,_,_,rfl,hp,cl,n2,rfl,d,_,rfl,hg,_,rfl,?_⟩;refine zBP ?_;exact ⟨_,rfl,p,C,dx,_,_,rfl,hp,cl,n2,rfl,_,rfl,d,_,rfl,hg,q1 i e⟩
  | _=>cases hb
inductive MD where
 | told (m : Nat)
 | house (v : V)
 | twice (v : V)
noncomputable def zBX (xs : List V) : List V -> Nat -> MD
 | [],m => .told m
 | y::r,m=>match zAJ xs y with
  | none => .house y
  | some i=>if m.testBit i = true then .twice y else zBX xs r (m + 2 ^ i)
noncomputable def MOut (H : Hp) (Q : VK) (E : XK) (Ch Ct : Addr) : MD -> Prop
 | .told m=>∀ H',Same H H' -> Q (.int (m : Nat)) H'
 | .house v=>Bad H E Ch v
 | .twice v=>Bad H E Ct v
theorem MOut.mono {H H1 : Hp} {Q : VK} {E : XK} {Ch Ct : Addr} (g : Same H H1) : ∀ {d : MD}, MOut H Q E Ch Ct d -> MOut H1 Q E Ch Ct d
 | .told _,h=>λH' g'=>h H' (g.trans g')
 | .house _,h=>Bad.mono g h
 | .twice _,h=>Bad.mono g h
theorem zVR (m k : Nat) : Builtin.bitAnd (m : Int) ((2 ^ k : Nat) : Int) = if m.testBit k = true then ((2 ^ k : Nat) : Int) else 0 := by
 have e : m &&& 2 ^ k = if m.testBit k = true then 2 ^ k else 0 := by
  refine yBT λi => ?_;rw [yCK,yBl]
  by_cases e : k = i
  ·subst e
   cases h : m.testBit k
   ·simp
   ·simp [yBl]
  ·cases h : m.testBit k
   ·simp [e]
   ·simp [e,yBl]
 show ((m &&& 2 ^ k : Nat) : Int) = _;rw [e]
 split <;> rfl
noncomputable def zOG (C Ch Cs Ct : Addr) : Sp:=λvs H Q E=>∃ p xs x r,vs = [.ref p,x]/\HousesAt C H p xs/\(∀ v∈xs,v = kV (.inr (zAV v)))/\xs.Nodup/\xs.length <= 12/\Row H x r/\(∀ ys,r = some ys -> ∀ v∈ys,Th H v)/\(r = none -> Bad H E Cs x)/\∀ ys,r = some ys -> MOut H Q E Ch Ct (zBX xs ys 0)
set_option maxHeartbeats 1000000 in
theorem zS3 {f a1 C Ch Cs Ct : Addr} {fd d1 : FuncData} (F : Fun K "mask" "Houses.mask" zRX f fd) (T : Txt mg) (mt : mg "tuple" = none) (k : Kit2 K) (cl : Cls K C) (M1 : Meth K C "number" a1) (O1 : FnOk P w K mg base (CXE P w) 4 a1 d1 ["self", "name"] (zIJ C Ch)) (b1 : Binds K d1 ["self", "name"] [])
  (eS : Er P w K mg base "NoSet" Cs) (eT : Er P w K mg base "Twice" Ct) : FnOk P w K mg base (CXE P w) 5 f fd ["self","names"] (zOG C Ch Cs Ct):=by
 obtain ⟨fS,bmS,dS',ecS,OS,bS⟩:=eS.ex;obtain ⟨fT,bmT,dT',ecT,OT,bT⟩:=eT.ex;refine F.okE scMask (λvs H Q E h => ?_) (λcdv A outer s H vs Q E hr h => ?_)
 ·obtain ⟨p, xs, x, r, rfl, _⟩ := h
  rfl
 obtain ⟨p,xs,x,r,rfl,hH,hk,nd,h12,hR,hT,q1,q2⟩:=h;obtain ⟨t,ty,e⟩:=zHW k hR;have hr3 : Room 3 _:=hr.mono (by decide)
 refine ⟨_, zA3 (zB7 (zBI (zBG (zAA zDG rfl T.inst yAZ (zA0 (pv 1) (zA0 (zAS (zA0 (zAY (v := .ty "list") rfl T.list yBJ rfl) (zA0 (zAY (v := .ty "tuple") rfl mt yAv rfl) zA1))) zA1))))) (zA4 (zFM (E := E) rfl ecS OS hr3 bS rfl eS.m zOC (zA0 (pv 1) zA1))) zAG)
  (zA3 (zAE (i:=2) scMask.nd rfl (Or.inl rfl) zA8)
  (zA3 (zC8 PassesOwn.leaving rfl (zC5 (pv 1)) (zAH (i := 3) scMask.nd rfl (Or.inl rfl))
   (zA3 (zAE (i:=4) scMask.nd rfl (Or.inl rfl) (zAC zCU zA8 (zBH (E:=E) (pv 0) cl M1 O1 hr b1 .nil zbK (zA0 (pv 3) zA1))))
   (zA3 (zB7 (zF8 (zAC zCI (pv 2) (pv 4)) (λ_=>rfl)) (zA4 (zFM (E:=E) rfl ecT OT hr3 bT rfl eT.m zOC (zA0 (pv 3) zA1))) zAG)
   (zA4 (zRK (i:=2) scMask.nd rfl (Or.inl rfl) (pv 4) zPI)))))
  (zA4 (zAB (pv 2))))),?_⟩
 refine ⟨_,rfl,(by show 2 <= sizeLine; decide),λu hu => ?_⟩;have g1:=same_new hu (.tup [.ty "list",.ty "tuple"]);have c1 : (upd H u (.tup [.ty "list",.ty "tuple"])) u = _:=zA2;generalize upd H u (.tup [.ty "list",.ty "tuple"]) = H1 at g1 c1 ⊢;refine ⟨_,t,u,["list","tuple"],_,rfl,TyOf.same g1 ty,c1,e,_,rfl,?_⟩
 cases r with
 | none=>exact zC7 ⟨_,rfl,_,rfl,((q1 rfl).mono g1).go⟩
 | some ys =>
  refine zBP ?_;have mo:=(q2 ys rfl).mono g1;have hT:=hT ys rfl
  obtain ⟨a, rfl, sq⟩ : ∃ a, x = .ref a /\ Sq K H1 a ys := by
   cases hR with
   | lst h=>exact ⟨_,rfl,.inl (SqL.of (g1 _ _ h))⟩
   | tup h=>exact ⟨_,rfl,.inr (SqT.of (g1 _ _ h))⟩
  have hH1:=hH.same g1;refine ⟨_,rfl,a,rfl,?_⟩;refine zEQ (K:=K) (ys:=ys) sq (λi σ H'=>Same H1 H'/\∃ m nm bt,zBX xs ys 0 = zBX xs (ys.drop i) m /\ σ = [some (.ref p),some (.ref a),some (.int (m : Nat)),nm,bt]) ⟨Same.refl _,0,_,_,rfl,rfl⟩ (λi σ H' hP o ho=>hP.1 _ _ ho) (λi σ H' v hi hx hP => ?_) (λσ H' hP => ?_)
  ·obtain ⟨g, m, nm, bt, ew, rfl⟩ := hP
   have ed : ys.drop i = v :: ys.drop (i + 1) := by
    rw [yCG hi];rw [yAA hi] at hx
    injection hx with hx
    rw [hx]
   rw [ed] at ew;rw [ew] at mo;have mo':=mo.mono g;obtain ⟨dx,t,d,hp',_⟩:=hH1.same g;have thv:=(hT v (yAm hx)).mono (g1.trans g);refine ⟨_,rfl,p,dx,_,rfl,hp',rfl,_,rfl,p,xs,v,rfl,hH1.same g,hk,nd,thv,λj ej => ?_,λen => ?_⟩
   ·have hlt : j < xs.length := (yAI.mp (zAZ ej)).1
    refine ⟨_,_,rfl,rfl,⟨by lia,by lia,by decide⟩,?_⟩;have eb : (1 : Int) * 2 ^ ((j : Nat) : Int).toNat = ((2 ^ j : Nat) : Int):=by rw [yAf,yCQ,yBi]; rfl
    refine ⟨_,rfl,_,rfl,_,_,rfl,rfl,_,rfl,?_⟩;rw [eb,zVR]
    have wv : zBX xs (v :: ys.drop (i + 1)) m = if m.testBit j = true then .twice v else zBX xs (ys.drop (i + 1)) (m + 2 ^ j) := by
     show (match zAJ xs v with | none=>_ | some i=>_) = _;rw [ej]
    rw [wv] at mo' ew
    by_cases tb : m.testBit j = true
    ·rw [yAQ tb] at mo' ew ⊢
     have ne : (((2 ^ j : Nat) : Int) != 0) = true := by
      have : 0 < 2 ^ j:=Nat.two_pow_pos j;rw [bne_iff_ne];lia
     rw [ne];exact zC7 ⟨_,rfl,_,rfl,mo'.go⟩
    ·rw [yAN tb] at mo' ew ⊢
     refine zBP ⟨_,rfl,_,rfl,_,_,rfl,rfl,g,m + 2 ^ j,some v,some (.int (1 * 2 ^ ((j : Nat) : Int).toNat)),ew,?_⟩;rw [show ((m + 2 ^ j : Nat) : Int) = (m : Int) + 1 * 2 ^ ((j : Nat) : Int).toNat by rw [eb,Int.natCast_add]];rfl
   ·have wv : zBX xs (v :: ys.drop (i + 1)) m = .house v := by
     show (match zAJ xs v with | none=>_ | some i=>_) = _;rw [en]
    rw [wv] at mo';exact mo'
  ·obtain ⟨g, m, nm, bt, ew, rfl⟩ := hP
   rw [List.drop_length] at ew;rw [ew] at mo;exact ⟨_,rfl,mo H' g⟩
structure GN (xs : List V) : Prop where
 str : ∀ v∈xs,v = kV (.inr (zAV v))
 nd : xs.Nodup
 lo : 1 <= xs.length
 hi : xs.length <= 12
 sok : ∀ v∈xs,PyData.strOk (zAV v) = true
 six : ∀ v∈xs,(zAV v).length <= 6
theorem zPH : ∀ c∈LET.cps.toList,c < 1114112:=by decide +kernel
theorem zM3 {v : V} (h : zBS v = true) : PyData.strOk (zAV v) = true := by
 cases v with
 | str z =>
  have e0 : zBS (.str z) = ((zD1 z 6&&zHS z LET) && !inV (.str z) (OWN.map V.str)):=rfl;rw [e0,yAd,yAd] at h;have ha:=h.1.2;unfold zHS at ha;show (z.cps.all λc=>decide (c < 0x110000)) = true;rw [<- Array.all_toList,yAu];intro c hc;exact yAM (zPH c (yAj (yAu.mp ha c hc)))
 | _=>cases h
theorem zSQ {v : V} (h : zBS v = true) : (zAV v).length <= 6 := by
 cases v with
 | str z =>
  have e0 : zBS (.str z) = ((zD1 z 6&&zHS z LET) && !inV (.str z) (OWN.map V.str)):=rfl;rw [e0,yAd,yAd] at h;have ha:=h.1.1;unfold zD1 at ha;rw [yAd] at ha
  have:=yAj ha.2
  show z.length <= 6;lia
 | _=>cases h
theorem zF6 {xs : List V} (h : zJO (some xs) = true) : GN xs := by
 have hs:=λv hv=>zL7 h (v:=v) hv;have e0 : zJO (some xs) = (decide (1 <= (xs.length : Int))&&decide ((xs.length : Int) <= 12)&&(xs.all zBS&&decide ((zBJ (xs.map λv => .inr (zAV v))).length = xs.length))):=rfl;rw [e0,yAd,yAd,yAd] at h;obtain ⟨⟨h1,h2⟩,h3,h4⟩:=h;have h1:=yAj h1;have h2:=yAj h2;have h4:=yAj h4;refine ⟨hs,?_,by lia,by lia,λv hv=>zM3 (yAu.mp h3 v hv),λv hv=>zSQ (yAu.mp h3 v hv)⟩;have nd:=(zJC _ (xs.map λv=>(.inr (zAV v) : Key)) rfl).mp (by rw [yAB]; exact h4);exact (yBm.mp nd).imp λh e=>h (by rw [e])
theorem Row.same {H H' : Hp} {v : V} {r : Option (List V)} (g : Same H H') (h : Row H v r) : Row H' v r := by
 cases h with
 | lst h=>exact .lst (g _ _ h)
 | tup h=>exact .tup (g _ _ h)
 | dK h=>exact .dK (g _ _ h)
 | non=>exact .non
 | bl b=>exact .bl b
 | int i=>exact .int i
 | str z=>exact .str z
theorem Row.sq {K : PySem.W.Frag} {H : Hp} {v : V} {ys : List V} (h : Row H v (some ys)) : ∃ a, v = .ref a /\ Sq K H a ys := by
 cases h with
 | lst h=>exact ⟨_,rfl,.inl (SqL.of h)⟩
 | tup h=>exact ⟨_,rfl,.inr (SqT.of h)⟩
noncomputable def LotAt (H : Hp) (xs : List V) (v : V) (ix : List Nat) : Prop:=∃ ys,Row H v (some ys)/\ix.Nodup/\ys.length = ix.length/\∀ (j : Nat) (k : Nat),ix[j]? = some k -> ∃ y,xs[k]? = some y/\ys[j]? = some y
theorem LotAt.same {H H' : Hp} {xs : List V} {v : V} {ix : List Nat} (g : Same H H') (h : LotAt H xs v ix) : LotAt H' xs v ix:=let ⟨ys,a,b⟩:=h; ⟨ys,a.same g,b⟩
noncomputable def zZJ (H : Hp) (xs ls : List V) (ixs : List (List Nat)) : Prop:=ls.length = ixs.length/\∀ (i : Nat) v ix,ls[i]? = some v -> ixs[i]? = some ix -> LotAt H xs v ix
noncomputable def msV (ms : List Nat) : List V:=ms.map λ(m : Nat)=>V.int (m : Int)
noncomputable def zV3 (C : Addr) : Sp := fun vs H Q _ => ∃ p x xs ls ixs, vs = [.ref p, x] /\ HousesAt C H p xs /\ GN xs /\ Row H x (some ls) /\ ls.length <= 1000 /\ zZJ H xs ls ixs /\ (ixs.map maskN).Nodup /\
 ∀ D H',H D = none -> Same H H' -> H' D = some (.lst (msV (ixs.map maskN))) -> Q (.ref D) H'
noncomputable def zKW (ms : List Nat) : List (Key × V):=ms.map λ(m : Nat)=>(.inl (m : Int),.bl true)
theorem zEF : ∀ {ms : List Nat} {m : Nat}, m ∉ ms -> zEI (zKW ms) (.inl (m : Int)) = none
 | [],_,_=>rfl
 | c::r,m,h=>by
  rw [yAb,not_or] at h;show zEI ((.inl (c : Int),V.bl true)::zKW r) _ = none;rw [zBC (λe=>h.1 (by injection e with e; lia))];exact zEF h.2
theorem scLotM : FnScope ["houses","lots","masks","lot","mask"] ["houses","lots"] (zA7 zWT):=by trivial
theorem zVC {f a1 C : Addr} {fd d1 : FuncData} {tM : Tok} (F : Fun K "lot_masks" "lot_masks" zWT f fd) (T : Txt mg) (mt : mg "tuple" = none) (gM : mg "MOST_LOTS" = some (.int 1000 tM)) (k : Kit2 K) (cl : Cls K C) (M1 : Meth K C "mask" a1) (O1 : FnOk P w K mg base CX0 2 a1 d1 ["self", "names"] (zI7 C)) (b1 : Binds K d1 ["self", "names"] []) :
  FnOk P w K mg base CX0 3 f fd ["houses","lots"] (zV3 C):=by
 refine F.ok scLotM (λvs H Q E h => ?_) (λcdv A outer s H vs Q E hr h => ?_)
 ·obtain ⟨p, x, xs, ls, ixs, rfl, _⟩ := h
  rfl
 obtain ⟨p,x,xs,ls,ixs,rfl,hH,hG,hR,h64,hL,nd,q⟩:=h;obtain ⟨t,ty,e⟩:=zHW k hR;have hu:=zWB hr
 refine ⟨_, zA3 (zB7 (PW.pt (zEA (zBI (zBG (zAA zDG rfl T.inst yAZ (zA0 (pv 1) (zA0 (zAS (zA0 (zAY (v := .ty "list") rfl T.list yBJ rfl) (zA0 (zAY (v := .ty "tuple") rfl mt yAv rfl) zA1))) zA1)))))
   (zDK (zAM zPK (zAA zAF rfl T.len yBC (zA0 (pv 1) zA1)) (zFL (v := .int 1000) rfl gM ⟨_,rfl⟩) (zAO _))))) zC4 zAG)
  (zA3 (zAE (i:=2) scLotM.nd rfl (Or.inl rfl) zMB)
  (zA3 (zC8 PassesOwn.never rfl (zC5 (pv 1)) (zAH (i := 3) scLotM.nd rfl (Or.inl rfl))
   (zA3 (zAE (i:=4) scLotM.nd rfl (Or.inl rfl) (zBH (pv 0) cl M1 O1 hr b1 .nil zAD (zA0 (pv 3) zA1)))
   (zA3 (zB7 (zQ0 (zY0 hu (pv 4) (pv 2)) (by with_unfolding_all rfl)) zC4 zAG)
   (zA4 (zWG hu (pv 2) (pv 4) zDJ rfl)))))
  (zA4 (zAB (zB8 (zNR rfl) rfl T.list yBJ (zA0 (pv 2) zA1)))))),?_⟩
 refine ⟨_,rfl,(by show 2 <= sizeLine; decide),λu hu' => ?_⟩;have g1:=same_new hu' (.tup [.ty "list",.ty "tuple"]);have c1 : (upd H u (.tup [.ty "list",.ty "tuple"])) u = _:=zA2;generalize upd H u (.tup [.ty "list",.ty "tuple"]) = H1 at g1 c1 ⊢;refine ⟨_,t,u,["list","tuple"],_,rfl,TyOf.same g1 ty,c1,e,_,rfl,?_⟩;refine zBP ?_;obtain ⟨a,rfl,sq⟩:=Row.sq (K:=K) (hR.same g1);refine ⟨_,rfl,a,ls,rfl,sq,_,_,rfl,rfl,_,rfl,?_⟩;rw [yAG (by lia)];refine zBP ?_;intro d hd;have g2:=same_new hd (.dK []);have l2 : (upd H1 d (.dK [])) d = some (.dK []):=zA2;have hd0 : H d = none:=g1.free hd;generalize upd H1 d (.dK []) = H2 at g2 l2 ⊢;have g12:=g1.trans g2;refine ⟨_,rfl,a,rfl,?_⟩
 refine zEQ (sq.at1 (g2.at1 a)) (fun i σ H' => ∃ lo mk, σ = [some (.ref p), some (.ref a), some (.ref d), lo, mk] /\ Same H H' /\ At1 a H2 H' /\ H' d = some (.dK (zKW ((ixs.map maskN).take i)))) ⟨_, _, rfl, g12, fun o h => h, by rw [List.take_zero]; exact l2⟩
  (λi σ H' hP=>hP.choose_spec.choose_spec.2.2.1) (λi σ H' v hi hv hP => ?_) (λσ H' hP => ?_)
 ·obtain ⟨lo, mk, rfl, g, ga, hl⟩ := hP
  have hi' : i < ixs.length:=by rw [<- hL.1]; exact hi
  have hix : ixs[i]? = some ixs[i]:=by simp
  obtain ⟨ys,r,n1,n2,n3⟩:=hL.2 i v ixs[i] hv hix;have hH':=hH.same g;obtain ⟨dx,tt,dd,hp',_⟩:=id hH';refine ⟨_,rfl,p,dx,_,rfl,hp',rfl,_,rfl,p,xs,v,ys,ixs[i],rfl,hH',hG.str,hG.nd,hG.hi,r.same g,n1,n2,n3,λH3 g3 => ?_⟩;have hm : (ixs.map maskN)[i]? = some (maskN ixs[i]):=by rw [yAe,hix]; rfl
  have hnot : maskN ixs[i] ∉ (ixs.map maskN).take i := fun z => by
   obtain ⟨j,hj,ej⟩:=yCm z;rw [yAp,yAB] at hj;rw [List.getElem_take] at ej;have e2 : (ixs.map maskN)[i]'(by rw [yAB]; exact hi') = maskN ixs[i]:=by simp
   have:=(yCB nd).mp (ej.trans e2.symm)
   lia
  refine ⟨_,rfl,_,rfl,d,none,rfl,?_,_,rfl,?_⟩
  ·have := DGet.k (k := .inl (maskN ixs[i] : Int)) (g3 _ _ hl)
   rw [zEF hnot] at this;exact this
  refine zBP ?_
  have hlen : (zKW ((ixs.map maskN).take i)).length < sizeLine := by
   unfold zKW;rw [yAB,yAp,yAB];have : 1000 < sizeLine:=by decide
   lia
  refine ⟨_,rfl,_,rfl,d,_,rfl,DPut.k (k := .inl (maskN ixs[i] : Int)) (g3 _ _ hl) hlen,some v,some (.int (maskN ixs[i] : Nat)),rfl,λb o hb => ?_,λo ho => ?_,?_⟩
  ·rw [zA6 (zA5 hb hd0)]; exact g3 _ _ (g _ _ hb)
  ·have na : a ≠ d := by
    rintro rfl
    obtain ⟨z, ez⟩ : ∃ o, H a = some o := by
     cases hR with
     | lst h=>exact ⟨_,h⟩
     | tup h=>exact ⟨_,h⟩
    rw [ez] at hd0; cases hd0
   rw [zA6 na];exact g3 _ _ (ga o ho)
  ·rw [zA2, zT6 _ (zEF hnot), yBF, hm]
   unfold zKW;rw [yAU];rfl
 ·obtain ⟨lo, mk, rfl, g, ga, hl⟩ := hP
  rw [hL.1,yAt (by rw [yAB]; exact yAE _)] at hl;refine ⟨_,rfl,d,_,rfl,hl,λl hl' => ?_⟩;refine q l _ (g.free hl') (g.trans (same_new hl' _)) ?_;rw [zA2];unfold zKW msV;rw [yBp,yBp,yBp];rfl
noncomputable def IV (ms : List Int) : List V:=ms.map V.int
noncomputable def SysAt (CS C : Addr) (H : Hp) (p : Addr) (xs : List V) (ms : List Int) : Prop :=
 ∃ dx g t,H p = some (.ins CS dx [("ground",.ref g),("masks",.ref t)])/\HousesAt C H g xs/\H t = some (.tup (IV ms))
theorem SysAt.same {CS C p : Addr} {H H' : Hp} {xs : List V} {ms : List Int} (g : Same H H') (h : SysAt CS C H p xs ms) : SysAt CS C H' p xs ms:=let ⟨dx,a,t,h1,h2,h3⟩:=h; ⟨dx,a,t,g _ _ h1,h2.same g,g _ _ h3⟩
structure Ord (xs : List V) (ms : List Int) : Prop where
 gn : GN xs
 ok : ∀ m∈ms,0 <= m/\m < 2 ^ xs.length
 few : ms.length <= 1000
 ord : ms.Pairwise (λa b=>zCK (kOf (.int b)) (kOf (.int a)) = false)
 nd : ms.Nodup
theorem zXD {n : Nat} (h : n <= 12) : (2 : Int) ^ n <= 4096 := by
 have:=yAx (n:=2) (by decide) h
 have e : ((2 ^ n : Nat) : Int) <= ((2 ^ 12 : Nat) : Int):=Int.ofNat_le.mpr this
 simpa using e
theorem zSC {n : Nat} : ∀ (k : Nat) (ix : List Nat), ix.length = k -> ix.Nodup -> (∀ i ∈ ix, i < n) -> maskN ix < 2 ^ n := by
 intro k ix hk nd hb;have un : ∀ j,n <= j -> zH9 (maskN ix) j:=λj hj=>zDV _ ix rfl nd j λz=>by have:=hb j z; lia
 rcases yBo (maskN ix) (2 ^ n) with z | z
 ·exact z
 ·exfalso
  have hlt : maskN ix < 2 ^ (maskN ix):=Nat.lt_two_pow_self;obtain ⟨i,hi,ht⟩:=Nat.exists_ge_and_testBit_of_ge_two_pow z
  have:=un i hi
  unfold zH9 at this;rw [yBk,this] at ht
  cases ht
noncomputable def zHM (CS C : Addr) : Sp := fun vs H Q _ => ∃ p dx x y xs ls ixs, vs = [.ref p, x, y] /\ H p = some (.ins CS dx []) /\ Row H x (some xs) /\ (∀ v ∈ xs, Th H v) /\ zJO (some xs) = true /\ Row H y (some ls) /\ ls.length <= 1000 /\ zZJ H xs ls ixs /\ (ixs.map maskN).Nodup /\
 ∀ H' ms,(∀ c o,H c = some o -> c≠p -> H' c = some o) -> ms.Perm ((ixs.map maskN).map λ(m : Nat)=>(m : Int)) -> Ord xs ms -> SysAt CS C H' p xs ms -> Q .non H'
noncomputable def zIY (CS C : Addr) : Sp:=λvs H Q _=>∃ p xs ms,vs = [.ref p]/\SysAt CS C H p xs ms/\∀ l,H l = none -> Q (.ref l) (upd H l (.lst xs))
structure LL (H H' : Hp) (D : Addr) (rs : List Addr) (zs : List (List V)) : Prop where
 top : H' D = some (.lst (rs.map V.ref))
 new : ∀ r∈rs,H r = none/\r≠D
 nd : rs.Nodup
 len : rs.length = zs.length
 at_ : ∀ (i : Nat) r z,rs[i]? = some r -> zs[i]? = some z -> H' r = some (.lst z)
structure TT' (H' : Hp) (t : Addr) (rs : List Addr) (zs : List (List V)) : Prop where
 top : H' t = some (.tup (rs.map V.ref))
 len : rs.length = zs.length
 at_ : ∀ (i : Nat) r z,rs[i]? = some r -> zs[i]? = some z -> H' r = some (.tup z)
theorem zVJ : FnScope ["self","houses","lots"] ["self","houses","lots"] (zA7 zQY):=by trivial
theorem zS0 {f f1 a2 a3 CS C : Addr} {fd d1 d2 d3 : FuncData} (F : Fun K "__init__" "System.__init__" zQY f fd) (mt : mg "tuple" = none) (clS : Cls K CS) (nG : NoAttr K CS "ground") (nM : NoAttr K CS "masks")
  (M : Mk K C f1) (O1 : FnOk P w K mg base CX0 4 f1 d1 ["self","names"] (zP9 C)) (b1 : Binds K d1 ["self","names"] []) (mH : mg "Houses" = some (.ref C))
  (D2 : Def P w K mg base 5 "in_order" ["masks"] (zXZ K) a2 d2) (D3 : Def P w K mg base 3 "lot_masks" ["houses","lots"] (zV3 C) a3 d3) :
  FnOk P w K mg base CX0 6 f fd ["self","houses","lots"] (zHM CS C):=by
 refine F.ok zVJ (λvs H Q E h => ?_) (λcdv A outer s H vs Q E hr h => ?_)
 ·obtain ⟨p, dx, x, y, xs, ls, ixs, rfl, _⟩ := h
  rfl
 obtain ⟨p,dx,x,y,xs,ls,ixs,rfl,hp,hX,hT,hA,hY,h64,hL,nd,q⟩:=h;have hG:=zF6 hA;have hr3 : Room 3 _:=hr.mono (by decide)
 refine ⟨_, zA3 (zMP (pv 0) (zHF M O1 hr rfl mH b1 .nil zAD (zA0 (pv 1) zA1)) rfl)
  (zA4 (zMP (pv 0) (zB8 zB0 rfl mt yAv (zA0 (zA9 D2.ok hr rfl D2.m D2.k D2.b .nil zAD (zA0 (zA9 D3.ok hr3 rfl D3.m D3.k D3.b .nil zAD (zA0 (zBF (pv 0) rfl) (zA0 (pv 2) zA1))) zA1)) zA1)) rfl)),?_⟩
 refine ⟨_,rfl,λg gx hg hgx ne => ?_⟩;have nep : ∀ {c : Addr},H c = none -> p≠c:=λh=>zA5 hp h;have k1 : Same H (upd (upd H gx (.own g)) g (.ins C gx [])):=λc o hc=>by rw [zA6 (zA5 hc hg),zA6 (zA5 hc hgx)]; exact hc
 have i1 : (upd (upd H gx (.own g)) g (.ins C gx [])) g = some (.ins C gx []):=zA2;generalize upd (upd H gx (.own g)) g (.ins C gx []) = H1 at k1 i1 ⊢;refine ⟨g,gx,x,xs,rfl,i1,hX.same k1,λv hv=>(hT v hv).mono k1,by have:=hG.hi; lia,hA,λH2 k2 hH2=>⟨rfl,?_⟩⟩;have s2 : Same H H2:=λc o hc=>k2 c o (k1 _ _ hc) (zA5 hc hg);refine ⟨_,rfl,p,CS,dx,_,rfl,s2 _ _ hp,clS,nG,(by show 0 < 1000; decide),?_⟩;have gp : g≠p:=(nep hg).symm
 have hH3 : HousesAt C (upd H2 p (.ins CS dx (zGD "ground" (.ref g) []))) g xs := by
  obtain ⟨ex,t,d,h1,h2,h3⟩:=hH2;have nt : ∀ {c : Addr} {o : HO},H2 c = some o -> (∀ C' d' fs,o ≠ .ins C' d' fs) -> c≠p:=λhc hn z=>by rw [z,s2 _ _ hp] at hc; cases hc; exact hn _ _ _ rfl
  exact ⟨ex,t,d,by rw [zA6 gp]; exact h1,by rw [zA6 (nt h2 λ_ _ _ z=>nomatch z)]; exact h2,by rw [zA6 (nt h3 λ_ _ _ z=>nomatch z)]; exact h3⟩
 have i3 : (upd H2 p (.ins CS dx (zGD "ground" (.ref g) []))) p = some (.ins CS dx [("ground",.ref g)]):=zA2;have k3 : ∀ c o,H c = some o -> c≠p -> (upd H2 p (.ins CS dx (zGD "ground" (.ref g) []))) c = some o:=λc o hc n=>by rw [zA6 n]; exact s2 _ _ hc
 generalize upd H2 p (.ins CS dx (zGD "ground" (.ref g) [])) = H3 at hH3 i3 k3 ⊢
 have np : ∀ {v : V} {ys : List V}, Row H v (some ys) -> Row H3 v (some ys) := fun h => by
  cases h with
  | lst h=>exact .lst (k3 _ _ h λz=>by rw [z,hp] at h; cases h)
  | tup h=>exact .tup (k3 _ _ h λz=>by rw [z,hp] at h; cases h)
 have hL3 : zZJ H3 xs ls ixs:=⟨hL.1,λi v ix h1 h2=>let ⟨ys,r,z⟩:=hL.2 i v ix h1 h2; ⟨ys,np r,z⟩⟩;refine ⟨_,rfl,p,CS,dx,_,_,rfl,i3,clS,nG,rfl,_,rfl,g,y,xs,ls,ixs,rfl,hH3,hG,np hY,h64,hL3,nd,λD H4 hD s4 l4 => ?_⟩
 have lt : ∀ m ∈ (ixs.map maskN).map (fun (m : Nat) => (m : Int)), 0 <= m /\ m < 2 ^ xs.length := fun m hm => by
  obtain ⟨m',hm',rfl⟩:=yAs.mp hm;obtain ⟨ix,hix,rfl⟩:=yAs.mp hm';obtain ⟨i,hi,ei⟩:=yCm hix;have hi' : i < ls.length:=by rw [hL.1]; exact hi
  obtain ⟨ys,r,n1,n2,n3⟩:=hL.2 i ls[i] ix (by simp) (by rw [yAA hi,ei])
  have := zSC (n := xs.length) _ ix rfl n1 fun k hk => by
   obtain ⟨j,hj,ej⟩:=yCm hk;obtain ⟨v,hv,_⟩:=n3 j k (by rw [yAA hj,ej]);exact (yAI.mp hv).1
  refine ⟨yCX _,?_⟩;have e : ((maskN ix : Nat) : Int) < ((2 ^ xs.length : Nat) : Int):=Int.ofNat_lt.mpr this
  simpa using e
 have hml : ((ixs.map maskN).map (λ(m : Nat)=>(m : Int))).length <= 1000:=by rw [yAB,yAB,<- hL.1]; exact h64
 have el : msV (ixs.map maskN) = List.map V.int ((ixs.map maskN).map (λ(m : Nat)=>(m : Int))):=by unfold msV; simp only [yBp]; rfl
 rw [el] at l4;refine ⟨D,_,rfl,.inl (SqL.of l4),yAk hml (by decide),λm hm => ?_,λD2 H5 ys hD2 s5 l5 hp5 ho5 => ?_⟩
 ·have h1 := lt m hm
  have h2:=zXD hG.hi;exact ⟨h1.1,by lia⟩
 refine ⟨D2,_,rfl,.inl ⟨SqL.of l5,λt ht=>⟨_,rfl,p,CS,dx,_,rfl,same_new ht _ _ _ (s5 _ _ (s4 _ _ i3)),clS,nM,(by show 1 < 1000; decide),?_⟩⟩⟩;have k5 : Same H3 (upd H5 t (.tup (List.map V.int ys))):=(s4.trans s5).trans (same_new ht _);have tp : t≠p:=λz=>by rw [z,s5 _ _ (s4 _ _ i3)] at ht; cases ht
 refine q _ ys (λc o hc n=>by rw [zA6 n]; exact k5 _ _ (k3 _ _ hc n)) hp5 ⟨hG,λm hm=>lt m (hp5.mem_iff.mp hm),by rw [hp5.length_eq]; exact hml,ho5,hp5.nodup_iff.mpr (yBm.mpr (nd.imp λh e=>h (Int.ofNat.inj e)))⟩ ⟨dx,g,t,by rw [zA2]; rfl,?_,by rw [zA6 tp,zA2]; rfl⟩;obtain ⟨ex,t',d,h1,h2,h3⟩:=hH3;have nt : ∀ {c : Addr} {o : HO},H3 c = some o -> (∀ C' d' fs,o ≠ .ins C' d' fs) -> c≠p:=λhc hn z=>by rw [z,i3] at hc; cases hc; exact hn _ _ _ rfl
 exact ⟨ex,t',d,by rw [zA6 gp]; exact k5 _ _ h1,by rw [zA6 (nt h2 λ_ _ _ z=>nomatch z)]; exact k5 _ _ h2,by rw [zA6 (nt h3 λ_ _ _ z=>nomatch z)]; exact k5 _ _ h3⟩
theorem zOY : FnScope ["self"] ["self"] (zA7 zHU):=by trivial
theorem zNX {f a1 CS C : Addr} {fd d1 : FuncData} (F : Fun K "houses" "System.houses" zHU f fd) (clS : Cls K CS) (nG : NoAttr K CS "ground") (cl : Cls K C) (M1 : Meth K C "names" a1) (O1 : FnOk P w K mg base CX0 1 a1 d1 ["self"] (zOE C)) (b1 : Binds K d1 ["self"] []) :
  FnOk P w K mg base CX0 2 f fd ["self"] (zIY CS C):=by
 refine F.ok zOY (λvs H Q E h => ?_) (λcdv A outer s H vs Q E hr h => ?_)
 ·obtain ⟨p, xs, ms, rfl, _⟩ := h
  rfl
 obtain ⟨p,xs,ms,rfl,⟨dx,g,t,hp,hH,ht⟩,q⟩:=h;obtain ⟨gx,t',d,h1,h2,h3⟩:=id hH;refine ⟨_,zA4 (zAB (zE6 (zBF (pv 0) rfl) cl M1 O1 hr b1 .nil zAD)),?_⟩;exact ⟨_,rfl,p,CS,dx,_,_,rfl,hp,clS,nG,rfl,g,gx,_,rfl,h1,rfl,g,xs,rfl,hH,q⟩
section
variable {X : Cx}
theorem zYL {op : Operator} {r : R2} {a b : Expr} {ta tb : TE} {pos : Pos} (ho : OpR X (binaryOp op) r) (ha : PEH X a ta) (hb : PEH X b tb) : PEH X (.BinOp a op b pos) (tOp r ta tb):=⟨zAC ho ha.out hb.out⟩
theorem zM8 {CX : CXT} {k : Nat} {f : Addr} {fd : FuncData} {ps : List Str} {sp : Sp} {dvs : List V} {ds : List Value} {E : XK} {x : Str} {p pos : Pos} {e : Expr} {es : List Expr} {t : TA} (F : FnOk X.prog X.w X.K X.mg X.base CX k f fd ps sp) (hr : Room k X.A) (hg : Gl X x) (hm : X.mg x = some (.ref f)) (hk : PySem.W.keepIn X.K (.ref f) = true) (hb : Binds X.K fd ps ds) (hd : Vals dvs ds) (hx : zCV CX X E)
  (ha : PAH X (e::es) t) (hdb : (x == ("__debug__" : Str)) = false:=by decide) (he : starEach (e::es) X.env = (false,eval e X.env)::starEach es X.env:=by rfl) (hpl : (backTo pos (starEach es X.env)).any (·.1) = false:=by rfl) :
  PEH X (.Call (.Name x p) (e::es) [] pos) (zH8 sp dvs E t):=⟨zA9 F hr hg hm hk hb hd hx ha.out hdb he hpl⟩
theorem zVV {sts : List Stmt} {e : Expr} {p : Pos} {te : TE} (h : sts = [.Return (some e) p]) (he : PEH X e te) : PSH X sts (zbO te) := by
 rw [h];exact PSH.mk (zA4 (zAB he.out))
end
structure BoxOk (d s c : Int) : Prop where
 d0 : 0 <= d
 s0 : 0 <= s
 s1 : s < 2147483648
 c0 : 0 <= c
noncomputable def BoxAt (H : Hp) (b : Addr) : Prop:=∃ d s c,H b = some (.lst [.int d,.int s,.int c])/\BoxOk d s c
noncomputable def But (b : Addr) (H H' : Hp) : Prop:=∀ c,c≠b -> H' c = H c
noncomputable def Away (b : Addr) (H H' : Hp) : Prop:=∀ c o,H c = some o -> c≠b -> H' c = some o
theorem But.away {b : Addr} {H H' : Hp} (x : But b H H') : Away b H H':=λc o h n=>(x c n).trans h
theorem zAN {b : Addr} {H H' : Hp} (x : Same H H') : Away b H H':=λc o h _=>x c o h
theorem Away.refl {b : Addr} (H : Hp) : Away b H H:=λ_ _ h _=>h
theorem Away.trans {b : Addr} {H H1 H2 : Hp} (x : Away b H H1) (y : Away b H1 H2) : Away b H H2:=λc o h n=>y c o (x c o h n) n
theorem BoxAt.same {H H' : Hp} {b : Addr} (g : Same H H') (h : BoxAt H b) : BoxAt H' b:=let ⟨d,s,c,h1,h2⟩:=h; ⟨d,s,c,g _ _ h1,h2⟩
theorem BoxAt.ne {H : Hp} {b c : Addr} (h : BoxAt H b) (hc : H c = none) : b≠c:=let ⟨_,_,_,h1,_⟩:=h; zA5 h1 hc
theorem Away.free {b c : Addr} {H H' : Hp} (g : Away b H H') (hb : BoxAt H' b) (h : H' c = none) : H c = none := by
 cases q : H c with
 | none=>rfl
 | some o=>rw [g c o q (hb.ne h).symm] at h; cases h
theorem zYA {ms : List Int} {i : Nat} (h : i < ms.length) : atI (ms.map V.int) (i : Int) = some (.int ms[i]):=zFT (by rw [yAe,yAA h]; rfl)
theorem zMS {ms : List Int} {i : Int} (h0 : 0 <= i) (h : i < (ms.length : Int)) : ∃ v, v ∈ ms /\ atI (ms.map V.int) i = some (.int v) := by
 have hk : i.toNat < ms.length:=by lia
 refine ⟨ms[i.toNat],yAn hk,?_⟩;have q:=zYA hk;rw [show ((i.toNat : Nat) : Int) = i by lia] at q;exact q
theorem za5 {xs : List V} {i : Int} (h0 : 0 <= i) (h : i < (xs.length : Int)) : ∃ (j : Nat) (hj : j < xs.length), i = (j : Int) /\ atI xs i = some xs[j] := by
 refine ⟨i.toNat,by lia,by lia,?_⟩;have q : atI xs ((i.toNat : Nat) : Int) = some xs[i.toNat]:=zFT (yAA (by lia));rw [show ((i.toNat : Nat) : Int) = i by lia] at q;exact q
noncomputable def zV5 (K : PySem.W.Frag) : Sp:=λvs H Q _=>∃ a ns k,vs = [.ref a,.int k]/\SqL K H a (List.map V.int ns)/\0 <= k/\∀ r,Q (.int r) H
noncomputable def zZA : Sp:=λvs H Q _=>∃ n,vs = [.int n]/\∀ r H',Same H H' -> H r = none -> BoxAt H' r -> Q (.ref r) H'
noncomputable def zD7 : Sp:=λvs H Q _=>∃ b n,vs = [.ref b,.int n]/\0 < n/\n < 1073741824/\BoxAt H b/\∀ r H',0 <= r -> r < n -> BoxAt H' b -> But b H H' -> Q (.int r) H'
noncomputable def zQE : Sp:=λvs H Q _=>∃ b,vs = [.ref b]/\BoxAt H b/\∀ r H',1 <= r -> r <= 8 -> BoxAt H' b -> Away b H H' -> Q (.int r) H'
theorem zYG : FnScope ["_law_script","_law_k"] ["_law_script","_law_k"] (zA7 zWW):=by trivial
theorem zWQ {f : Addr} {fd : FuncData} (F : Fun K "_law_cell" "_law_cell" zWW f fd) (ml : mg "len" = none) : FnOk P w K mg base CX0 1 f fd ["_law_script", "_law_k"] (zV5 K) := by
 refine F.ok zYG (λvs H Q E h => ?_) (λcdv A outer s H vs Q E hr h => ?_)
 ·obtain ⟨a, ns, k, rfl, _⟩ := h
  rfl
 obtain ⟨a,ns,k,rfl,hS,hk,q⟩:=h
 refine ⟨_, zA3 (zB7 (zAM zbA (pv 1) (zAA zAF rfl ml yBC (zA0 (pv 0) zA1)) (zAO _)) (zA4 (zAB (zBQ zB6 (pv 0) (pv 1) (fun _ _ => rfl)))) zAG)
  (zA4 (zAB (zAC zBV (zAC zH6 zA8 (pv 1)) zA8))),?_⟩
 refine ⟨_,rfl,_,rfl,a,_,rfl,.inl hS,_,_,rfl,rfl,_,rfl,?_⟩;refine zGV (λc => ?_) (λc => ?_)
 ·have c := yAj c
  rw [yAB] at c;obtain ⟨v,_,hv⟩:=zMS (ms:=ns) hk c;exact ⟨_,rfl,_,rfl,a,_,_,_,rfl,rfl,hS,hv,q v⟩
 ·exact ⟨_,rfl,_,_,rfl,rfl,.inl ⟨by decide,by decide⟩,_,_,rfl,rfl,q _⟩
theorem zbQ : FnScope ["_law_cell_here"] ["_law_cell_here"] (zA7 zaO):=by trivial
theorem zZN {f : Addr} {fd : FuncData} (F : Fun K "_law_box" "_law_box" zaO f fd) (mx : mg "max" = none) : FnOk P w K mg base CX0 1 f fd ["_law_cell_here"] zZA := by
 refine F.ok zbQ (λvs H Q E h => ?_) (λcdv A outer s H vs Q E hr h => ?_)
 ·obtain ⟨n, rfl, _⟩ := h
  rfl
 obtain ⟨n,rfl,q⟩:=h;refine ⟨_,zA4 (zAB (zAQ (zA0 (zAA (zJH rfl) rfl mx PyProof.Rows.boot_max (zA0 zA8 (zA0 (zAC zRA (pv 0) (zAC zYJ zA8 zA8)) zA1))) (zA0 (zAC zG0 (pv 0) zA8) (zA0 zA8 zA1))))),?_⟩;refine ⟨_,rfl,_,_,rfl,rfl,⟨by decide,by decide,by decide⟩,_,_,rfl,rfl,_,_,rfl,_,rfl,_,_,rfl,rfl,(by show (0 : Int) < 2147483647; decide),(by show 3 <= sizeLine; decide),λr hr' => ?_⟩;refine q r _ (same_new hr' _) hr' ⟨_,_,_,zA2,?_,?_,?_,by decide⟩
 ·split <;> lia
 ·exact yCL _ (by decide)
 ·have:=yBv n (b:=2147483647) (by decide); lia
theorem scTake : FnScope ["_law_box_here","_law_many","_law_digit","_law_number"] ["_law_box_here","_law_many"] (zA7 zXJ):=by trivial
theorem zWV {f : Addr} {fd : FuncData} (F : Fun K "_law_take" "_law_take" zXJ f fd) : FnOk P w K mg base CX0 1 f fd ["_law_box_here", "_law_many"] zD7 := by
 refine F.ok scTake (λvs H Q E h => ?_) (λcdv A outer s H vs Q E hr h => ?_)
 ·obtain ⟨b, n, rfl, _⟩ := h
  rfl
 obtain ⟨b,n,rfl,n0,n1,⟨d,z,c,hb,ok⟩,q⟩:=h
 refine ⟨_, zA3 (zB7 (zAM zPK (zBQ zB6 (pv 0) zA8 (fun _ _ => rfl)) zA8 (zAO _))
   (zA3 (zAE (i:=2) scTake.nd rfl (Or.inl rfl) (zAC zG0 (zBQ zB6 (pv 0) zA8 (λ_ _=>rfl)) (pv 1)))
   (zA3 (zH7 (zAC zPP (zBQ zB6 (pv 0) zA8 (λ_ _=>rfl)) (pv 1)) (zMR (pv 0) zA8 zF9))
   (zA4 (zAB (pv 2))))) zAG)
  (zA3 (zH7 (zAC zBV (zBQ zB6 (pv 0) zA8 (λ_ _=>rfl)) zA8) (zMR (pv 0) zA8 zF9))
  (zA3 (zAE (i:=3) scTake.nd rfl (Or.inl rfl) (zAC zG0 (zAC zH6 (zAC zBV (zAC zBV (zBQ zB6 (pv 0) zA8 (λ_ _=>rfl)) (zAC zH6 zA8 (zBQ zB6 (pv 0) zA8 (λ_ _=>rfl)))) zA8) zA8) zA8))
  (zA3 (zAE (i:=3) scTake.nd rfl (Or.inl rfl) (zAC zG0 (zAC zBV (zAC zBV (zAC zH6 (pv 3) (pv 3)) (zAC zH6 zA8 (zBQ zB6 (pv 0) zA8 (λ_ _=>rfl)))) zA8) zA8))
  (zA4 (zAB (zAC zG0 (zAC zPP (zAC zG0 (zAC zH6 (pv 3) (zAC zBV (pv 3) zA8)) zA8) zA8) (pv 1))))))),?_⟩
 obtain ⟨d0,s0,s1,c0⟩:=ok;have bt : ∀ o,But b H (upd H b o):=λo c hc=>zA6 hc;refine ⟨_,rfl,b,_,_,_,rfl,rfl,SqL.of hb,rfl,_,_,rfl,rfl,_,rfl,?_⟩;refine zGV (λy => ?_) (λy => ?_)
 ·refine ⟨_, rfl, b, _, _, _, rfl, rfl, SqL.of hb, rfl, _, rfl, _, _, rfl, rfl, n0, ?_⟩
  refine ⟨_,rfl,b,_,_,_,rfl,rfl,SqL.of hb,rfl,_,rfl,_,_,rfl,rfl,⟨n0,n1⟩,_,rfl,b,_,_,_,rfl,rfl,hb,rfl,?_⟩;refine ⟨_,rfl,q _ _ (yCL _ (by lia)) (yBv _ n0) ⟨_,_,_,zA2,Int.ediv_nonneg d0 (by lia),s0,s1,c0⟩ (bt _)⟩
 ·refine ⟨_, rfl, b, _, _, _, rfl, rfl, SqL.of hb, rfl, _, _, rfl, rfl, _, rfl, b, _, _, _, rfl, rfl, hb, rfl, ?_⟩
  refine ⟨_,rfl,b,_,_,_,rfl,rfl,SqL.of zA2,rfl,_,rfl,b,_,_,_,rfl,rfl,SqL.of zA2,rfl,_,_,rfl,rfl,.inl ⟨by decide,by decide⟩,_,_,rfl,rfl,_,_,rfl,rfl,_,_,rfl,rfl,.inr ⟨by decide,by decide⟩,_,_,rfl,rfl,(by show (0 : Int) < 2147483629; decide),?_⟩;have u0:=yCL ((z + 7919 * (c + 1) + 17) * 48271) (b:=2147483629) (by decide);have u1:=yBv ((z + 7919 * (c + 1) + 17) * 48271) (b:=2147483629) (by decide);generalize ((z + 7919 * (c + 1) + 17) * 48271) % 2147483629 = x at u0 u1 ⊢;refine ⟨_,rfl,_,rfl,_,_,rfl,rfl,.inl ⟨by lia,by lia⟩,_,rfl,b,_,_,_,rfl,rfl,SqL.of zA2,rfl,_,_,rfl,rfl,.inl ⟨by decide,by decide⟩,_,_,rfl,rfl,_,_,rfl,rfl,_,_,rfl,rfl,(by show (0 : Int) < 2147483587; decide),?_⟩;have w0:=yCL (x * x + 16807 * (c + 1) + 3) (b:=2147483587) (by decide);have w1:=yBv (x * x + 16807 * (c + 1) + 3) (b:=2147483587) (by decide);generalize (x * x + 16807 * (c + 1) + 3) % 2147483587 = y at w0 w1 ⊢;refine ⟨_,rfl,_,rfl,_,_,rfl,rfl,_,_,rfl,rfl,.inl ⟨by lia,by lia⟩,_,_,rfl,rfl,(by show (0 : Int) < 2147483647; decide),_,_,rfl,rfl,⟨by decide,by decide⟩,_,rfl,_,_,rfl,rfl,n0,?_⟩;exact q _ _ (yCL _ (by lia)) (yBv _ n0) ⟨_,_,_,zA2,d0,s0,s1,(by show 0 <= c + 1; lia)⟩ (bt _)
theorem zWL : FnScope ["_law_box_here"] ["_law_box_here"] (zA7 zEJ):=by trivial
theorem zU1 {f a1 : Addr} {fd d1 : FuncData} (F : Fun K "_law_size" "_law_size" zEJ f fd) (D1 : Def P w K mg base 1 "_law_take" ["_law_box_here", "_law_many"] zD7 a1 d1) : FnOk P w K mg base CX0 2 f fd ["_law_box_here"] zQE := by
 refine F.okH zWL (λvs H Q E h => ?_) (λcdv A outer s H vs Q E hr h => ?_)
 ·obtain ⟨b, rfl, _⟩ := h
  rfl
 obtain ⟨b,rfl,hb,q⟩:=h;refine ⟨_,zVV rfl (zYL zBV zW6 (zM8 D1.ok hr rfl D1.m D1.k D1.b .nil zAD (zDY (PEH.mk (pv 0)) (zDY (zUR zB6 (zQJ (zFC [.int 6,.int 6,.int 6,.int 6,.int 6,.int 4,.int 3,.int 8])) (PEH.mk (zA9 D1.ok hr rfl D1.m D1.k D1.b .nil zAD (zA0 (pv 0) (zA0 zA8 zA1)))) (λ_ _=>rfl)) zKJ)))),?_⟩;refine ⟨_,rfl,(by show 8 <= sizeLine; decide),λl hl => ?_⟩;have b1:=hb.same (same_new hl (.lst [.int 6,.int 6,.int 6,.int 6,.int 6,.int 4,.int 3,.int 8]));have nl : l≠b:=(hb.ne hl).symm;refine ⟨_,rfl,b,8,rfl,by decide,by decide,b1,λr H2 r0 r1 b2 t2 => ?_⟩;obtain ⟨v,hv,ha⟩:=zMS (ms:=[6,6,6,6,6,4,3,8]) r0 (by show r < 8; lia)
 have hv' : 3 <= v /\ v <= 8 := by
  simp only [yAb,yCR,or_false] at hv;lia
 refine ⟨l,_,_,_,rfl,rfl,SqL.of ((t2 l nl).trans zA2),ha,b,v,rfl,by lia,by lia,b2,λr2 H3 r20 r21 b3 t3=>⟨_,_,rfl,rfl,?_⟩⟩;exact q _ H3 (by lia) (by lia) b3 (((zAN (same_new hl _)).trans t2.away).trans t3.away)
theorem zXE (a b : Str) : eqV (.str a) (.str b) = (a == b):=rfl
theorem zU8 {l : List Nat} (h1 : 1 <= l.length) (h6 : l.length <= 6) (hc : ∀ c ∈ l, c ∈ LET.cps.toList) (ho : ∀ z ∈ OWN, z.cps.toList ≠ l) : zBS (.str (mkS l)) = true := by
 have e0 : zBS (.str (mkS l)) = ((zD1 (mkS l) 6&&zHS (mkS l) LET) && !inV (.str (mkS l)) (OWN.map V.str)):=rfl;rw [e0,yAd,yAd];refine ⟨⟨?_,?_⟩,?_⟩
 ·unfold zD1
  rw [zCB,yAM (by lia),yAM (by lia)]; rfl
 ·unfold zHS
  rw [yAu];intro c hc';exact yAM (hc c (by simpa using hc'))
 ·rw [yBb]
  unfold inV;rw [yDB];intro v hv;obtain ⟨z,hz,rfl⟩:=yAs.mp hv;rw [zXE];intro e;have e : z = mkS l:=by simpa using e
  exact ho z hz (by rw [e])
theorem zZR {n : Nat} (f : Nat -> List Nat) (h1 : 1 <= n) (h12 : n <= 12) (hn : ∀ k, k < n -> zBS (.str (mkS (f k))) = true) (hd : ∀ j k, j < k -> k < n -> f j ≠ f k) :
  zJO (some ((List.range n).map λk=>V.str (mkS (f k)))) = true:=by
 have el : ((List.range n).map λk=>V.str (mkS (f k))).length = n:=by simp
 have e0 : zJO (some ((List.range n).map λk=>V.str (mkS (f k)))) = (decide (1 <= (((List.range n).map λk=>V.str (mkS (f k))).length : Int))&&decide ((((List.range n).map λk=>V.str (mkS (f k))).length : Int) <= 12)&&(((List.range n).map λk=>V.str (mkS (f k))).all zBS&&decide ((zBJ (((List.range n).map λk=>V.str (mkS (f k))).map λv => .inr (zAV v))).length = ((List.range n).map λk=>V.str (mkS (f k))).length))):=rfl;rw [e0,el,yAd,yAd,yAd];refine ⟨⟨yAM (by lia),yAM (by lia)⟩,?_,yAM ?_⟩
 ·rw [yAu]
  intro v hv;obtain ⟨k,hk,rfl⟩:=yAs.mp hv;exact hn k (yBM.mp hk)
 ·have em : (((List.range n).map fun k => V.str (mkS (f k))).map fun v => (.inr (zAV v) : Key)) = (List.range n).map fun k => (.inr (mkS (f k)) : Key) := by rw [yBp]; rfl
  rw [em];have hl : ((List.range n).map λk=>(.inr (mkS (f k)) : Key)).length = n:=by simp
  rw [(zJC _ _ rfl).mpr ?_,hl];refine yBm.mpr (List.Pairwise.imp_of_mem ?_ (List.pairwise_lt_range (n:=n)));intro j k hj hk hlt e;have e : mkS (f j) = mkS (f k):=by injection e
  exact hd j k hlt (yBM.mp hk) (zWF e)
noncomputable def zc3 : List Nat:=LET.cps.toList
theorem zTI {X : Cx} {K : PySem.W.Frag} (hK : X.K = K) : IxR X (zaW K):=by subst hK; exact zB6
theorem BoxAt.same2 {H : Hp} {b D : Addr} {o : HO} (h : BoxAt H b) (n : b≠D) : BoxAt (upd H D o) b:=let ⟨d,s,c,h1,h2⟩:=h; ⟨d,s,c,by rw [zA6 n]; exact h1,h2⟩
theorem BoxAt.ne2 {H : Hp} {b D : Addr} (h : BoxAt H b) (n : b≠D) : b≠D:=n
structure MsOk (n : Nat) (ms : List Int) : Prop where
 nd : ms.Nodup
 ok : ∀ m∈ms,0 <= m/\m < 2 ^ n
theorem MsOk.put {n : Nat} {ms : List Int} {m : Int} (h : MsOk n ms) (h0 : 0 <= m) (h1 : m < 2 ^ n) : MsOk n (if m ∈ ms then ms else ms ++ [m]) := by
 split
 ·exact h
 ·rename_i hm
  refine ⟨?_,λx hx => ?_⟩
  ·rw [yCd]
   exact ⟨h.nd,by simp,λa ha b hb e=>hm (by rw [yAF.mp hb] at e; rw [<- e]; exact ha)⟩
  ·rcases yAa.mp hx with z | z
   ·exact h.ok x z
   ·rw [yAF.mp z]; exact ⟨h0,h1⟩
theorem zL0 (x : Nat) : Builtin.bitNot ((x : Nat) : Int) = Int.negSucc x := by
 unfold Builtin.bitNot;lia
theorem zKK (x : Nat) : Builtin.bitNot (Int.negSucc x) = ((x : Nat) : Int) := by
 unfold Builtin.bitNot;lia
theorem zUL (x y : Nat) : Builtin.bitOr ((x : Nat) : Int) ((y : Nat) : Int) = ((x ||| y : Nat) : Int) := by
 unfold Builtin.bitOr;rw [zL0,zL0];have e : Builtin.bitAnd (Int.negSucc x) (Int.negSucc y) = Builtin.bitNot (((Builtin.bitNot (Int.negSucc x)).toNat ||| (Builtin.bitNot (Int.negSucc y)).toNat : Nat) : Int):=rfl;rw [e,zKK,zKK,yAf,yAf,zL0,zKK]
theorem zaT {n : Nat} {a b : Int} (a0 : 0 <= a) (a1 : a < 2 ^ n) (b0 : 0 <= b) (b1 : b < 2 ^ n) : 0 <= Builtin.bitOr a b /\ Builtin.bitOr a b < 2 ^ n := by
 obtain ⟨x,rfl⟩:=yAw a0;obtain ⟨y,rfl⟩:=yAw b0;have hx : x < 2 ^ n:=by exact_mod_cast a1
 have hy : y < 2 ^ n:=by exact_mod_cast b1
 have e : Builtin.bitOr ((x : Nat) : Int) ((y : Nat) : Int) = ((x ||| y : Nat) : Int):=zUL x y;rw [e];refine ⟨yCX _,?_⟩
 have:=Nat.or_lt_two_pow hx hy
 exact_mod_cast this
theorem zZB {n : Nat} {a b : Int} (a0 : 0 <= a) (a1 : a < 2 ^ n) (b0 : 0 <= b) : 0 <= Builtin.bitAnd a b /\ Builtin.bitAnd a b < 2 ^ n := by
 obtain ⟨x,rfl⟩:=yAw a0;obtain ⟨y,rfl⟩:=yAw b0;have hx : x < 2 ^ n:=by exact_mod_cast a1
 have e : Builtin.bitAnd ((x : Nat) : Int) ((y : Nat) : Int) = ((x &&& y : Nat) : Int):=rfl;rw [e];refine ⟨yCX _,?_⟩;have : x &&& y < 2 ^ n:=yDR Nat.and_le_left hx
 exact_mod_cast this
theorem pow_pos (n : Nat) : (0 : Int) < 2 ^ n:=Int.pow_pos (by decide)
noncomputable def zO3 : Sp:=λvs H Q _=>∃ b n,vs = [.ref b,.int ((n : Nat) : Int)]/\1 <= n/\n <= 12/\BoxAt H b/\∀ D H' ms,H D = none -> H' D = some (.lst (IV ms)) -> ms.length <= 11 -> MsOk n ms -> BoxAt H' b -> Away b H H' -> Q (.ref D) H'
theorem zQI : ∀ (ms : List Int) (m : Int), inV (.int m) (IV ms) = decide (m ∈ ms)
 | [],m=>by simp [inV,IV]
 | c::r,m=>by
  show (eqV (.int c) (.int m)||inV (.int m) (IV r)) = _;rw [zQI r m,yAg,yDM,yAL,yAL,yAb];have e : eqV (.int c) (.int m) = (c == m):=rfl;rw [e,yAc]
  constructor
  ·rintro (h | h)
   ·exact .inl h.symm
   ·exact .inr h
  ·rintro (h | h)
   ·exact .inl h.symm
   ·exact .inr h
theorem zW0 : ∀ ms : List Int, (IV ms).all zDW = true := fun ms => yAu.mpr fun v hv => by
 obtain ⟨m,_,rfl⟩:=yAs.mp hv;rfl
theorem MsOk.snoc {n : Nat} {ms : List Int} {m : Int} (h : MsOk n ms) (hm : m ∉ ms) (h0 : 0 <= m) (h1 : m < 2 ^ n) : MsOk n (ms ++ [m]) := by
 have:=h.put h0 h1
 rw [yAN hm] at this;exact this
theorem scMasks : FnScope ["_law_box_here","_law_many","_law_found","_law_k","_law_mask_here"] ["_law_box_here","_law_many"] (zA7 zQM):=by trivial
set_option maxHeartbeats 2000000 in
theorem zTE {f a1 : Addr} {fd d1 : FuncData} (F : Fun K "_law_masks" "_law_masks" zQM f fd) (T : Txt mg) (D1 : Def P w K mg base 1 "_law_take" ["_law_box_here", "_law_many"] zD7 a1 d1) : FnOk P w K mg base CX0 2 f fd ["_law_box_here", "_law_many"] zO3 := by
 refine F.okH scMasks (λvs H Q E h => ?_) (λcdv A outer s H vs Q E hr h => ?_)
 ·obtain ⟨b, n, rfl, _⟩ := h
  rfl
 obtain ⟨b,n,rfl,n1,n12,hb,q⟩:=h
 refine ⟨_, zL4 (PS1.mk (zAE (i := 2) scMasks.nd rfl (Or.inl rfl) (zAQ zA1)))
  (zL4 (zXC PassesOwn.never rfl (zNL rfl T.range (zDY (zM8 D1.ok hr rfl D1.m D1.k D1.b .nil zAD (zDY (PEH.mk (pv 0)) (zDY (zUR zB6 (zQJ (zFC [.int 3, .int 6, .int 9, .int 12])) (PEH.mk (zA9 D1.ok hr rfl D1.m D1.k D1.b .nil zAD (zA0 (pv 0) (zA0 zA8 zA1)))) (fun _ _ => rfl)) zKJ))) zKJ)) (zAH (i := 3) scMasks.nd rfl (Or.inl rfl))
   (zA3 (zAE (i:=4) scMasks.nd rfl (Or.inl rfl) (zA9 D1.ok hr rfl D1.m D1.k D1.b .nil zAD (zA0 (pv 0) (zA0 (zAC zCU zA8 (pv 1)) zA1))))
   (zA3 (zB7 (zAM zF3 (zA9 D1.ok hr rfl D1.m D1.k D1.b .nil zAD (zA0 (pv 0) (zA0 zA8 zA1))) zA8 (zAO _)) (zA4 (zAE (i:=4) scMasks.nd rfl (Or.inl rfl) (zAC zCI (pv 4) (zA9 D1.ok hr rfl D1.m D1.k D1.b .nil zAD (zA0 (pv 0) (zA0 (zAC zCU zA8 (pv 1)) zA1)))))) zAG)
   (zA4 (zB7 (PW.pt (zRQ (zAM zD0 (pv 4) (pv 2) (by with_unfolding_all rfl)) (zK7 (PW.pt (zEA (zAM zPK (pv 4) zA8 (zAO _)) (zDK (zAM zF3 (zA9 D1.ok hr rfl D1.m D1.k D1.b .nil zAD (zA0 (pv 0) (zA0 zA8 zA1))) zA8 (zAO _))))))))
    (zA4 (zCD (zGI yBQ yBu yBt zC1 (pv 2) (zA0 (pv 4) zA1)))) zAG)))))
  (zSX (PS1.mk (zAB (pv 2))))),?_⟩
 refine ⟨(by show 0 <= sizeLine; decide),λd hd => ?_⟩;have g1:=same_new hd (.lst []);have l1 : (upd H d (.lst [])) d = some (.lst []):=zA2;have nd : d≠b:=(hb.ne hd).symm;have b1:=hb.same g1;have a1 : Away b H (upd H d (.lst [])):=zAN g1;generalize upd H d (.lst []) = H1 at g1 l1 b1 a1 ⊢;refine ⟨_,rfl,(by show 4 <= sizeLine; decide),λl hl => ?_⟩;have b3:=b1.same (same_new hl (.lst [.int 3,.int 6,.int 9,.int 12]));have nl : l≠b:=(b1.ne hl).symm;refine ⟨_,rfl,b,4,rfl,by decide,by decide,b3,λr H4 r0 r1 b4 t4 => ?_⟩;have a4 : Away b H H4:=(a1.trans (zAN (same_new hl _))).trans t4.away;have l4 : H4 d = some (.lst []):=(t4 d nd).trans (same_new hl _ _ _ l1);obtain ⟨v,hv,ha⟩:=zMS (ms:=[3,6,9,12]) r0 (by show r < 4; lia)
 have hv' : 3 <= v /\ v <= 12 := by
  simp only [yAb,yCR,or_false] at hv;lia
 refine ⟨l,_,_,_,rfl,rfl,SqL.of ((t4 l nl).trans zA2),ha,b,v,rfl,by lia,by lia,b4,λtn H5 tn0 tn1 b5 t5=>⟨tn,rfl,by lia,by lia,?_⟩⟩;have a5:=a4.trans t5.away;have l5:=(t5 d nd).trans l4;have hsh : ∀ {k : Int},0 <= k -> k <= 12 -> zXV 1 k:=λh0 h1=>⟨h0,by lia,by decide⟩;have es : (1 : Int) * 2 ^ ((n : Nat) : Int).toNat = 2 ^ n:=by rw [yAf,yCQ]
 have h4096:=zXD n12;have hpos:=pow_pos n;have s1000 : 1000 < sizeLine:=by decide
 have hdH : H d = none:=hd;refine zCF (λi σ H'=>∃ ms k m,σ = [some (.ref b),some (.int ((n : Nat) : Int)),some (.ref d),k,m]/\Away b H H'/\BoxAt H' b/\H' d = some (.lst (IV ms))/\MsOk n ms/\ms.length <= i) ⟨[],_,_,rfl,a5,b5,l5,⟨.nil,λ_ h=>nomatch h⟩,yAE _⟩ (λi σ H' hi hP => ?_) (λσ H' hP => ?_)
 ·obtain ⟨ms, k, m, rfl, aw, bx, hd', ok, hlen⟩ := hP
  have hi12 : i < 12:=by lia
  refine ⟨_,rfl,_,rfl,_,_,rfl,rfl,hsh (by lia) (by lia),b,_,rfl,(by rw [es]; exact hpos),(by rw [es]; lia),bx,λm1 H6 m0 m1' b6 t6 => ?_⟩;rw [es] at m1';have a6:=aw.trans t6.away;have l6:=(t6 d nd).trans hd';refine ⟨_,rfl,b,2,rfl,by decide,by decide,b6,λc H7 c0 c1 b7 t7 => ?_⟩;have a7:=a6.trans t7.away;have l7:=(t7 d nd).trans l6;have skip : ∀ (mm : Int) (H9 : Hp),Away b H H9 -> BoxAt H9 b -> H9 d = some (.lst (IV ms)) -> ∃ ms' k' m',[some (V.ref b),some (.int ((n : Nat) : Int)),some (.ref d),some (.int (0 + (i : Int))),some (.int mm)] = [some (.ref b),some (.int ((n : Nat) : Int)),some (.ref d),k',m']/\Away b H H9/\BoxAt H9 b/\H9 d = some (.lst (IV ms'))/\MsOk n ms'/\ms'.length <= i + 1:=λmm H9 a9 b9 l9=>⟨ms,_,_,rfl,a9,b9,l9,ok,by lia⟩
  have app : ∀ (mm : Int) (H9 : Hp), 0 <= mm -> mm < 2 ^ n -> mm ∉ ms -> Away b H H9 -> BoxAt H9 b -> H9 d = some (.lst (IV ms)) -> ∃ ms' k' m', [some (V.ref b), some (.int ((n : Nat) : Int)), some (.ref d), some (.int (0 + (i : Int))), some (.int mm)] = [some (.ref b), some (.int ((n : Nat) : Int)), some (.ref d), k', m'] /\ Away b H (upd H9 d (.lst (IV ms ++ [.int mm]))) /\ BoxAt (upd H9 d (.lst (IV ms ++ [.int mm]))) b /\ (upd H9 d (.lst (IV ms ++ [.int mm]))) d = some (.lst (IV ms')) /\ MsOk n ms' /\ ms'.length <= i + 1 := fun mm H9 m0 m1 hm a9 b9 l9 => by
   refine ⟨ms++[mm],_,_,rfl,λc o hc n' => ?_,b9.same2 nd.symm,?_,ok.snoc hm m0 m1,?_⟩
   ·rw [zA6 (zA5 hc hdH)]; exact a9 c o hc n'
   ·rw [zA2]; unfold IV; rw [yAU]; rfl
   ·rw [yAX,yBq]; lia
  have small : (IV ms).length < sizeLine:=by unfold IV; rw [yAB]; lia
  refine ⟨rfl,_,rfl,?_⟩;refine zGV (λe => ?A) (λe => ?B)
  case' A =>
   refine ⟨_,rfl,_,rfl,_,rfl,_,_,rfl,rfl,hsh (by lia) (by lia),b,_,rfl,(by rw [es]; exact hpos),(by rw [es]; lia),b7,λm2 H8 m20 m21 b8 t8=>⟨_,_,rfl,rfl,?_⟩⟩;obtain ⟨o0,o1⟩:=zZB (n:=n) m0 m1' m20;have a8:=a7.trans t8.away;have l8:=(t8 d nd).trans l7;dsimp only;generalize Builtin.bitAnd m1 m2 = mm at o0 o1 ⊢
  case' B =>
   have o0:=m0;have o1:=m1';have a8:=a7;have b8:=b7;have l8:=l7;clear a7 b7 l7 t7 m0 m1';generalize H7 = H8 at a8 b8 l8 ⊢;dsimp only;generalize m1 = mm at o0 o1 ⊢
  all_goals
   refine ⟨_,rfl,_,rfl,d,IV ms,rfl,.inl (SqL.of l8),rfl,zW0 ms,_,rfl,?_⟩;rw [yAQ rfl,zQI];refine zGV (λhin => ?_) (λhin => ?_)
   ·have hin : mm ∉ ms := by simpa using hin
    refine ⟨_,rfl,_,_,rfl,rfl,_,rfl,?_⟩;refine zGV (λg => ?_) (λg => ?_)
    ·refine zC7 ⟨_, rfl, .inl ⟨rfl, _, SqL.of l8⟩, _, rfl, d, _, _, rfl, rfl, l8, small, ?_⟩
     exact app mm H8 o0 o1 hin a8 b8 l8
    ·refine ⟨_, rfl, b, 4, rfl, by decide, by decide, b8, fun r9 H9 r90 r91 b9 t9 => ⟨rfl, _, rfl, ?_⟩⟩
     have a9:=a8.trans t9.away;have l9:=(t9 d nd).trans l8;refine zGV (λg2 => ?_) (λg2 => ?_)
     ·refine ⟨_, rfl, .inl ⟨rfl, _, SqL.of l9⟩, _, rfl, d, _, _, rfl, rfl, l9, small, ?_⟩
      exact app mm H9 o0 o1 hin a9 b9 l9
     ·exact skip mm H9 a9 b9 l9
   ·exact zBP (skip mm H8 a8 b8 l8)
 ·obtain ⟨ms, k, m, rfl, aw, bx, hd', ok, hlen⟩ := hP
  refine ⟨_,rfl,?_⟩;exact q d H' ms hdH hd' (by lia) ok bx aw
theorem zUF {m : Int} {i : Nat} : (decide (V.int (Builtin.bitAnd (m / 2 ^ ((0 + (i : Int))).toNat) 1) = V.int 1)) = bit m i := by
 have e : (0 + (i : Int)).toNat = i:=by lia
 rw [e,PyProof.Rows.bitAnd_m1];unfold bit;rw [yAg,yAL,yAL]
 constructor
 ·intro h; injection h
 ·intro h; rw [h]
theorem zP4 {m : Int} {i : Nat} : (decide (V.int (Builtin.bitAnd (m / 2 ^ ((i : Nat) : Int).toNat) 1) = V.int 1)) = bit m i := by
 have:=zUF (m:=m) (i:=i)
 rw [Int.zero_add] at this;exact this
noncomputable def zKB (K : PySem.W.Frag) : Sp:=λvs H Q _=>∃ a xs m,vs = [.ref a,.int m]/\Sq K H a xs/\xs.length <= 12/\0 <= m/\m < 2 ^ xs.length/\∀ D H',H D = none -> Same H H' -> H' D = some (.lst (setV xs m)) -> Q (.ref D) H'
theorem zbR : FnScope ["_law_names_here","_law_mask_here"] ["_law_names_here","_law_mask_here"] (zA7 zaN):=by trivial
theorem zYO {f : Addr} {fd : FuncData} (F : Fun K "_law_set" "_law_set" zaN f fd) (me : mg "enumerate" = none) : FnOk P w K mg base CX0 1 f fd ["_law_names_here", "_law_mask_here"] (zKB K) := by
 refine F.ok zbR (λvs H Q E h => ?_) (λcdv A outer s H vs Q E hr h => ?_)
 ·obtain ⟨a, xs, m, rfl, _⟩ := h
  rfl
 obtain ⟨a,xs,m,rfl,sq,h12,m0,m1,q⟩:=h
 refine ⟨_, zA4 (zAB (zBK (xs := ["_law_k", "_law_name"]) (fv := [("_law_mask_here", 1)]) rfl (by decide +kernel) ⟨⟨rfl, Or.inl rfl, rfl⟩, trivial⟩ (zHV rfl me (zA0 (pv 0) zA1))
   (λ_ _ _ _ _=>zQ6 (K:=K) (n:=2) rfl rfl (zBL (zAH (i:=0) (ndT (by decide +kernel)) rfl (Or.inl rfl)) (zBL (zAH (i:=1) (ndT (by decide +kernel)) rfl (Or.inl rfl)) zG3)))
   (λ_ _ _ _ _=>zQF (zAM zF3 (zAC zCI (zAC zP6 (pv 2) (pv 0)) zA8) zA8 (zAO _))) (λ_ _ _ _ _=>pv 1))),?_⟩
 refine ⟨_,rfl,a,rfl,?_⟩;refine zRD (ys:=xs) sq (λi D H'=>Same H H'/\H' D = some (.lst ((zBR m i).map λk=>xs.getD k.toNat .non))) (λD hD=>⟨same_new hD _,zA2⟩) (λi D H' hD hP=>hP.1.at1 a) (λi D H' x r hD hi hx hP hr' => ?_) (λD H' hD hP => ?_)
 ·obtain ⟨g, hl⟩ := hP
  have g2:=same_new hr' (.tup [.int (i : Nat),x]);have c2 : (upd H' r (.tup [.int (i : Nat),x])) r = some (.tup [.int (i : Nat),x]):=zA2;generalize upd H' r (.tup [.int (i : Nat),x]) = H2 at g2 c2 ⊢;refine ⟨r,_,rfl,SqT.of c2,rfl,_,_,rfl,_,_,rfl,rfl,rfl,_,rfl,_,rfl,_,_,rfl,rfl,(by show (0 : Int) <= ((i : Nat) : Int); lia),_,_,rfl,rfl,rfl,_,rfl,?_⟩;rw [zP4];have hz:=zCJ m i;refine zGV (λc => ?_) (λc => ?_)
  ·refine ⟨_, rfl, _, g2 _ _ hl, ?_, fun b o e => ?_, ?_⟩
   ·rw [yAB]
    have : 1000 < sizeLine:=by decide
    lia
   ·rw [zA6 (zA5 e hD)]; exact g2 _ _ (g _ _ e)
   ·rw [zA2, zC2, yAQ c, yAU]
    have : xs.getD ((i : Int)).toNat .non = x:=by rw [yAf,yAo,hx]; rfl
    show _ = some (HO.lst (_++[xs.getD ((i : Int)).toNat .non]));rw [this]
  ·refine ⟨g.trans g2, ?_⟩
   rw [zC2,yAN c,yBh];exact g2 _ _ hl
 ·obtain ⟨g, hl⟩ := hP
  have e : m / 2 ^ xs.length = 0:=yCx m0 m1;rw [zCZ m0 (by lia) h12] at hl;exact q D H' hD g hl
noncomputable def dS (xs : List V) : List PyData:=xs.map λv => .str (zAV v)
noncomputable def Strs (xs : List V) : Prop:=∀ v∈xs,v = kV (.inr (zAV v))/\PyData.strOk (zAV v) = true/\(zAV v).length <= 6
theorem GN.strs {xs : List V} (h : GN xs) : Strs xs:=λv hv=>⟨h.str v hv,h.sok v hv,h.six v hv⟩
theorem zK9 {K : PySem.W.Frag} {H : Hp} : ∀ {xs : List V}, Strs xs -> DVs K H xs (dS xs)
 | [],_ => .nil
 | v::r,h=>by
  have e : v = .str (zAV v):=(h v (yAR ..)).1;refine .cons ?_ (zK9 λy hy=>h y (yAO _ hy));rw [e];exact .str _
theorem zI4 : ∀ {xs : List V}, Strs xs -> PyData.canLayAll0 (dS xs) = true
 | [],_=>rfl
 | v::r,h=>by
  show (PyData.strOk (zAV v)&&PyData.canLayAll0 (dS r)) = true;rw [(h v (yAR ..)).2.1,zI4 λy hy=>h y (yAO _ hy)]; rfl
theorem zH4 : ∀ (l : List V) (i : Nat) (h : i < l.length), (l[i] :: l.eraseIdx i).Perm l
 | a::r,0,_ => .refl _
 | a::r,i + 1,h=>by
  have hr : i < r.length:=by simpa using h
  have q:=zH4 r i hr;exact (List.Perm.swap a (r[i]'hr) _).trans (q.cons a)
theorem zGN : ∀ xs : List V, PyData.depthAll (dS xs) <= 1
 | []=>by simp [dS,PyData.depthAll]
 | m::r=>by
  have:=zGN r
  simp only [dS,yAl,PyData.depthAll,PyData.depth] at this ⊢;lia
noncomputable def Plain (v : V) : Prop:=∃ d : PyData,(∀ (K : PySem.W.Frag) (H : Hp),DV K H v d)/\d.canLay0 = true/\d.depth <= 1
theorem Plain.int (n : Int) : Plain (.int n):=⟨.int n,λ_ _ => .int n,rfl,by simp [PyData.depth]⟩
theorem Strs.plain {xs : List V} (h : Strs xs) : ∀ v ∈ xs, Plain v := fun v hv => by
 obtain ⟨e,so,_⟩:=h v hv;rw [e];exact ⟨.str _,λ_ _ => .str _,so,by simp [PyData.depth]⟩
theorem zNS {xs : List V} (h : ∀ v ∈ xs, Plain v) : ∃ ds : List PyData, (∀ (K : PySem.W.Frag) (H : Hp), DVs K H xs ds) /\ PyData.canLayAll0 ds = true /\ PyData.depthAll ds <= 1 /\ ds.isEmpty = xs.isEmpty := by
 induction xs with
 | nil=>exact ⟨[],λ_ _ => .nil,rfl,by simp [PyData.depthAll],rfl⟩
 | cons v r ih =>
  obtain ⟨d,h1,h2,h3⟩:=h v (yAR ..);obtain ⟨ds,k1,k2,k3,_⟩:=ih λy hy=>h y (yAO _ hy);refine ⟨d::ds,λK H => .cons (h1 K H) (k1 K H),?_,?_,rfl⟩
  ·show (d.canLay0 && PyData.canLayAll0 ds) = true
   rw [h2,k2]; rfl
  ·simp only [PyData.depthAll]; lia
theorem zTM (ds : List PyData) : PyData.eqv (.list ds) (.list []) = ds.isEmpty := by
 cases ds with
 | nil=>rfl
 | cons a r=>rfl
noncomputable def zFD : Sp:=λvs H Q _=>∃ b a zs,vs = [.ref b,.ref a]/\BoxAt H b/\H a = some (.lst zs)/\zs.length <= 1000/\(∀ v∈zs,Plain v)/\∀ D H' ys,H D = none -> H' D = some (.lst ys) -> ys.Perm zs -> BoxAt H' b -> Away b H H' -> Q (.ref D) H'
theorem scMixed : FnScope ["_law_box_here","_law_some","_law_left","_law_found"] ["_law_box_here","_law_some"] (zA7 zDT):=by trivial
theorem zTA {f a1 : Addr} {fd d1 : FuncData} (F : Fun K "_law_mixed" "_law_mixed" zDT f fd) (T : Txt mg) (D1 : Def P w K mg base 1 "_law_take" ["_law_box_here", "_law_many"] zD7 a1 d1) : FnOk P w K mg base CX0 2 f fd ["_law_box_here", "_law_some"] zFD := by
 refine F.ok scMixed (λvs H Q E h => ?_) (λcdv A outer s H vs Q E hr h => ?_)
 ·obtain ⟨b, a, zs, rfl, _⟩ := h
  rfl
 obtain ⟨b,a,zs,rfl,hb,ha,hz,hs,q⟩:=h
 refine ⟨_, zA3 (zAE (i := 2) scMixed.nd rfl (Or.inl rfl) (zB8 zD3 rfl T.list yBJ (zA0 (pv 1) zA1)))
  (zA3 (zAE (i:=3) scMixed.nd rfl (Or.inl rfl) (zAQ zA1))
  (zA3 (zLG PassesOwn.never (zAM (zUJ hr) (pv 2) (zAQ zA1) (zAO _))
   (zA4 (zCD (zGI yBQ yBu yBt zC1 (pv 3) (zA0 (zGI yBQ PySem.F.slot_list_pop PySem.F.type_list_pop zT0 (pv 2) (zA0 (zA9 D1.ok hr rfl D1.m D1.k D1.b .nil zAD (zA0 (pv 0) (zA0 (zAA zAF rfl T.len yBC (zA0 (pv 2) zA1)) zA1))) zA1)) zA1)))))
  (zA4 (zAB (pv 3))))),?_⟩
 refine ⟨_,rfl,a,zs,rfl,.inl (SqL.of ha),λl hl=>⟨(by show 0 <= sizeLine; decide),λfo hfo => ?_⟩⟩;have g1 : Same H (upd (upd H l (.lst zs)) fo (.lst [])):=(same_new hl _).trans (same_new hfo _);have fl : fo≠l:=λe=>by rw [e,zA2] at hfo; cases hfo
 have l1 : (upd (upd H l (.lst zs)) fo (.lst [])) l = some (.lst zs):=by rw [zA6 fl.symm,zA2]
 have f1 : (upd (upd H l (.lst zs)) fo (.lst [])) fo = some (.lst []):=zA2;have foH : H fo = none:=by rw [zA6 fl] at hfo; exact hfo
 have nbl : b≠l:=hb.ne hl;have nbf : b≠fo:=hb.ne foH;generalize upd (upd H l (.lst zs)) fo (.lst []) = H1 at g1 l1 f1 ⊢;refine ⟨λk σ H'=>∃ ls fs,σ = [some (.ref b),some (.ref a),some (.ref l),some (.ref fo)]/\k = ls.length/\Away b H H'/\BoxAt H' b/\H' l = some (.lst ls)/\H' fo = some (.lst fs)/\(fs++ls).Perm zs,⟨zs.length,zs,[],rfl,rfl,zAN g1,hb.same g1,l1,f1,List.Perm.refl _⟩,?_⟩
 rintro k σ H' ⟨ls,fs,rfl,rfl,aw,bx,hl',hf',pm⟩
 have hlen : fs.length + ls.length = zs.length:=by rw [<- pm.length_eq,yAX]
 obtain ⟨ds,dv,dl,dd,de⟩:=zNS (xs:=ls) λv hv=>hs v (pm.mem_iff.mp (yAP _ hv));refine ⟨_,rfl,(by show 0 <= sizeLine; decide),λe he => ?_⟩;have ge:=same_new he (.lst []);have ce : (upd H' e (.lst [])) e = some (.lst []):=zA2;have be : b≠e:=bx.ne he;generalize upd H' e (.lst []) = H2 at ge ce ⊢
 have dep : (PyData.list ds).depth <= 100 := by
  simp only [PyData.depth];lia
 refine ⟨_,_,.lst (SqL.of (ge _ _ hl')) (dv _ _),.lst (SqL.of ce) .nil,dl,rfl,dep,_,rfl,?_⟩;rw [zTM,de]
 cases ls with
 | nil =>
  refine zBP ⟨_,rfl,?_⟩;rw [yBh] at pm;exact q fo H2 fs foH (ge _ _ hf') pm (bx.same ge) (aw.trans (zAN ge))
 | cons c r =>
  refine zC7 ?_;have bx2:=bx.same ge;have hl2:=ge _ _ hl';have hf2:=ge _ _ hf';refine ⟨λσ' H3=>∃ k',k' < (c::r).length/\∃ ls fs,σ' = [some (.ref b),some (.ref a),some (.ref l),some (.ref fo)]/\k' = ls.length/\Away b H H3/\BoxAt H3 b/\H3 l = some (.lst ls)/\H3 fo = some (.lst fs)/\(fs++ls).Perm zs,λσ' H3 h=>h,?_⟩;refine ⟨_,rfl,.inl ⟨rfl,_,SqL.of hf2⟩,_,rfl,.inl ⟨rfl,_,SqL.of hl2⟩,_,rfl,_,rfl,l,_,rfl,.inl (SqL.of hl2),b,_,rfl,by simp,by simp only [yBA] at hlen ⊢; lia,bx2,λi H3 i0 i1 b3 t3 => ?_⟩;have hl3 : H3 l = some (.lst (c::r)):=(t3 l nbl.symm).trans hl2;have hf3 : H3 fo = some (.lst fs):=(t3 fo nbf.symm).trans hf2;have hk : i.toNat < (c::r).length:=by lia
  have i1' : i < ((c::r).length : Int):=i1;have hsi : seqIndex? i (c::r).length = some i.toNat:=seqIndex_of i0 i1';refine ⟨l,c::r,i,i.toNat,(c::r)[i.toNat],rfl,rfl,hl3,by lia,by lia,hsi,by simp [hk],?_⟩;refine ⟨fo,fs,_,rfl,rfl,by rw [zA6 fl]; exact hf3,by simp only [yBA] at hlen; exact zJ2 (by lia),?_⟩;refine ⟨((c::r).eraseIdx i.toNat).length,by rw [List.length_eraseIdx_of_lt hk]; simp,_,_,rfl,rfl,λx o hx n => ?_,?_,by rw [zA6 fl.symm,zA2],by rw [zA2],?_⟩
  ·rw [zA6 (zA5 hx foH), zA6 (zA5 hx hl)]
   exact ((aw.trans (zAN ge)).trans t3.away) x o hx n
  ·exact (b3.same2 nbl).same2 nbf
  ·refine List.Perm.trans ?_ pm
   rw [yAy];refine List.Perm.append_left fs ?_;exact zH4 _ _ hk
theorem zLV {α β : Type} {f : α -> β} {ys zs : List β} (h : ys.Perm zs) : ∀ l : List α, zs = l.map f -> ∃ l' : List α, l'.Perm l /\ ys = l'.map f := by
 induction h with
 | nil =>
  intro l e
  cases l with
  | nil=>exact ⟨[],List.Perm.refl _,rfl⟩
  | cons _ _=>cases e
 | cons x _ ih =>
  intro l e
  cases l with
  | nil=>cases e
  | cons a l =>
   injection e with e1 e2
   obtain ⟨l',p,q⟩:=ih l e2;exact ⟨a::l',p.cons a,by rw [yAl,<- e1,q]⟩
 | swap x y r =>
  intro l e
  match l,e with
  | a::c::l,e =>
   injection e with e1 e2
   injection e2 with e2 e3
   exact ⟨c::a::l,.swap a c l,by rw [yAl,yAl,<- e1,<- e2,<- e3]⟩
 | trans _ _ ih1 ih2 =>
  intro l e;obtain ⟨l2,p2,q2⟩:=ih2 l e;obtain ⟨l1,p1,q1⟩:=ih1 l2 q2;exact ⟨l1,p1.trans p2,q1⟩
theorem zJ8 : ∀ (ix : List Nat) (c : Nat), ix.foldl (fun acc k => acc + 2 ^ k) c = c + (ix.map (2 ^ ·)).sum
 | [],c=>by simp
 | k::r,c=>by rw [yDu,zJ8 r,yAl,yCr]; lia
theorem zJE (ix : List Nat) : maskN ix = (ix.map (2 ^ ·)).sum:=by unfold maskN; rw [zJ8]; lia
theorem zS8 {a b : List Nat} (h : a.Perm b) : a.sum = b.sum := by
 induction h with
 | nil=>rfl
 | cons x _ ih=>rw [yCr,yCr,ih]
 | swap x y r=>simp only [yCr]; lia
 | trans _ _ h1 h2=>exact h1.trans h2
theorem zNA {a b : List Nat} (h : a.Perm b) : maskN a = maskN b:=by rw [zJE,zJE]; exact zS8 (h.map _)
noncomputable def zB9 (m : Int) : List Nat:=(zE9 m).map Int.toNat
theorem zLS {m : Int} (h0 : 0 <= m) : ∀ i : Nat, ((maskN ((zBR m i).map Int.toNat) : Nat) : Int) = m % 2 ^ i
 | 0=>by
  show ((0 : Nat) : Int) = m % 2 ^ 0;rw [Int.pow_zero]; lia
 | i + 1=>by
  have ih:=zLS h0 i;rw [zC2,yAU];have hp:=pow_pos i
  have e : m % 2 ^ (i + 1) = m % 2 ^ i + 2 ^ i * (m / 2 ^ i % 2) := by
   have h1:=Int.emod_add_mul_ediv m (2 ^ i);have h2:=Int.emod_add_mul_ediv (m / 2 ^ i) 2;have h3:=yCL (m / 2 ^ i) (b:=2) (by decide);have h4:=yBv (m / 2 ^ i) (b:=2) (by decide);have h5:=yCL m (b:=2 ^ i) (by lia);have h6:=yBv m hp
   have key : m = (m % 2 ^ i + 2 ^ i * (m / 2 ^ i % 2)) + 2 ^ (i + 1) * (m / 2 ^ i / 2) := by
    rw [Int.pow_succ];have : (2 : Int) ^ i * 2 * (m / 2 ^ i / 2) = 2 ^ i * (2 * (m / 2 ^ i / 2)):=by rw [Int.mul_assoc]
    rw [this,Int.add_assoc,<- Int.mul_add,h2,h1]
   have hlt : m % 2 ^ i + 2 ^ i * (m / 2 ^ i % 2) < 2 ^ (i + 1) := by
    rw [Int.pow_succ];have h7 : m / 2 ^ i % 2 = 0 \/ m / 2 ^ i % 2 = 1:=by lia
    rcases h7 with z | z
    ·rw [z]; lia
    ·rw [z]; lia
   have hge : 0 <= m % 2 ^ i + 2 ^ i * (m / 2 ^ i % 2) := by
    have:=Int.mul_nonneg (Int.le_of_lt hp) h3
    lia
   conv=>lhs; rw [key]
   rw [Int.add_mul_emod_self_left,Int.emod_eq_of_lt hge hlt]
  have hn : (2 : Int) ^ i = ((2 ^ i : Nat) : Int):=by rw [yBi]; rfl
  by_cases hb : bit m i = true
  ·rw [yAQ hb]
   show ((maskN (_++[((i : Nat) : Int).toNat]) : Nat) : Int) = _;rw [yAf,zDB,e];unfold bit at hb;rw [yAj hb,Int.mul_one,<- ih];rw [hn]; lia
  ·rw [yAN hb, List.map_nil, yBh, e, ih]
   unfold bit at hb;have h3:=yCL (m / 2 ^ i) (b:=2) (by decide);have h4:=yBv (m / 2 ^ i) (b:=2) (by decide);have h7 : m / 2 ^ i % 2≠1:=λz=>hb (yAM z);rw [show m / 2 ^ i % 2 = 0 by lia,Int.mul_zero,Int.add_zero]
theorem zMX {m : Int} (h0 : 0 <= m) (h1 : m < 4096) : ((maskN (zB9 m) : Nat) : Int) = m := by
 have:=zLS h0 12
 rw [Int.emod_eq_of_lt h0 (by simpa using h1)] at this;exact this
theorem zJB (m : Int) (i : Nat) : (zBR m i).map Int.toNat = (List.range i).filter (bit m) := by
 unfold zBR;rw [yBp];have : (Int.toNat ∘ λ(k : Nat)=>(k : Int)) = id:=by funext k; simp
 rw [this,List.map_id]
theorem zHD (m : Int) : (zB9 m).Nodup := by
 unfold zB9 zE9;rw [zJB];exact List.Nodup.sublist List.filter_sublist List.nodup_range
theorem zLP {xs : List V} {m : Int} (h12 : xs.length <= 12) (h0 : 0 <= m) (h1 : m < 2 ^ xs.length) {k : Nat} (hk : k ∈ zB9 m) : k < xs.length := by
 obtain ⟨j,hj,rfl⟩:=yAs.mp hk
 have:=zRO h12 h0 h1 hj
 lia
theorem zFS (xs : List V) (m : Int) : setV xs m = (zB9 m).map fun k => xs.getD k .non := by
 unfold setV zB9;rw [yBp];rfl
theorem zUH {H : Hp} {xs : List V} {v : V} {ys : List V} {m : Int} (hG : GN xs) (h0 : 0 <= m) (h1 : m < 2 ^ xs.length) (hr : Row H v (some ys)) (hp : ys.Perm (setV xs m)) : ∃ ix, LotAt H xs v ix /\ ((maskN ix : Nat) : Int) = m := by
 rw [zFS] at hp;obtain ⟨ix,p,e⟩:=zLV hp _ rfl;have h4:=zXD hG.hi;refine ⟨ix,⟨ys,hr,p.nodup_iff.mpr (zHD m),by rw [e,yAB],λj k hj => ?_⟩,by rw [zNA p]; exact zMX h0 (by lia)⟩;have hk : k < xs.length:=zLP hG.hi h0 h1 (p.mem_iff.mp (yAm hj));refine ⟨xs[k],yAA hk,?_⟩;rw [e,yAe,hj,yCJ,yAo,yAA hk];rfl
theorem zFP {xs : List V} {m : Int} (hG : GN xs) (h0 : 0 <= m) (h1 : m < 2 ^ xs.length) : Strs (setV xs m) := fun v hv => by
 rw [zFS] at hv;obtain ⟨k,hk,rfl⟩:=yAs.mp hv;have hk:=zLP hG.hi h0 h1 hk;have e : xs.getD k .non = xs[k]:=by rw [yAo,yAA hk]; rfl
 rw [e];exact hG.strs _ (yAn hk)
theorem zD8 (xs : List V) (m : Int) : (setV xs m).length <= 12 := by
 unfold setV;rw [yAB];exact zCJ m 12
noncomputable def zID (mask : Int) (ms : List Int) : Option Int:=ms.find? λl=>decide (Builtin.bitAnd l mask = l)
theorem zPR {mask : Int} {ms : List Int} {i : Nat} (h : i < ms.length) (n : ¬ Builtin.bitAnd ms[i] mask = ms[i]) : zID mask (ms.drop i) = zID mask (ms.drop (i + 1)) := by
 rw [yCG h];unfold zID;rw [List.find?_cons_of_neg (by simpa using n)]
theorem zU9 {mask : Int} {ms : List Int} {i : Nat} (h : i < ms.length) (n : Builtin.bitAnd ms[i] mask = ms[i]) : zID mask (ms.drop i) = some ms[i] := by
 rw [yCG h];unfold zID;rw [List.find?_cons_of_pos (by simpa using n)]
noncomputable def ToldOne (H : Hp) (Q : VK) (xs : List V) : Option Int -> Prop
 | none=>∀ H',Same H H' -> Q .non H'
 | some m=>∀ D H',H D = none -> Same H H' -> H' D = some (.lst (setV xs m)) -> Q (.ref D) H'
theorem ToldOne.mono {H H1 : Hp} {Q : VK} {xs : List V} (g : Same H H1) : ∀ {o : Option Int}, ToldOne H Q xs o -> ToldOne H1 Q xs o
 | none,h=>λH' g'=>h H' (g.trans g')
 | some _,h=>λD H' hD g' l=>h D H' (g.free hD) (g.trans g') l
noncomputable def SetAt (H : Hp) (x : V) (xs : List V) (m : Int) : Prop:=∃ ix,LotAt H xs x ix/\((maskN ix : Nat) : Int) = m
theorem SetAt.same {H H' : Hp} {x : V} {xs : List V} {m : Int} (g : Same H H') (h : SetAt H x xs m) : SetAt H' x xs m:=let ⟨ix,r,p⟩:=h; ⟨ix,r.same g,p⟩
theorem SetAt.of_perm {H : Hp} {x : V} {xs ys : List V} {m : Int} (hG : GN xs) (m0 : 0 <= m) (m1 : m < 2 ^ xs.length) (r : Row H x (some ys)) (pm : ys.Perm (setV xs m)) : SetAt H x xs m:=zUH hG m0 m1 r pm
noncomputable def zL1 (CS C : Addr) : Sp:=λvs H Q _=>∃ p xs ms mask,vs = [.ref p,.int mask]/\SysAt CS C H p xs ms/\Ord xs ms/\ToldOne H Q xs (zID mask ms)
noncomputable def zIS (CS C : Addr) : Sp:=λvs H Q _=>∃ p x xs ms m,vs = [.ref p,x]/\SysAt CS C H p xs ms/\Ord xs ms/\SetAt H x xs m/\0 <= m/\m < 2 ^ xs.length/\ToldOne H Q xs (zID m ms)
noncomputable def zGS (CS C : Addr) : Sp:=λvs H Q _=>∃ p x xs ms m,vs = [.ref p,x]/\SysAt CS C H p xs ms/\Ord xs ms/\SetAt H x xs m/\0 <= m/\m < 2 ^ xs.length/\ToldOne H Q xs (zID (Builtin.bitXor (2 ^ xs.length - 1) m) ms)
theorem scFirst : FnScope ["self","mask","lot"] ["self","mask"] (zA7 zQ8):=by trivial
theorem zbX {x y : Int} : decide (V.int x = V.int y) = decide (x = y) := by
 rw [yAg,yAL,yAL];exact ⟨λh=>by injection h,λh=>by rw [h]⟩
theorem zU4 {f a1 CS C : Addr} {fd d1 : FuncData} (F : Fun K "first_lot" "System.first_lot" zQ8 f fd) (clS : Cls K CS) (nG : NoAttr K CS "ground") (nM : NoAttr K CS "masks") (cl : Cls K C) (M1 : Meth K C "set_of" a1) (O1 : FnOk P w K mg base CX0 3 a1 d1 ["self", "mask"] (zHC C)) (b1 : Binds K d1 ["self", "mask"] []) :
  FnOk P w K mg base CX0 4 f fd ["self","mask"] (zL1 CS C):=by
 refine F.ok scFirst (λvs H Q E h => ?_) (λcdv A outer s H vs Q E hr h => ?_)
 ·obtain ⟨p, xs, ms, m, rfl, _⟩ := h
  rfl
 obtain ⟨p,xs,ms,mask,rfl,hS,hO,q⟩:=h;obtain ⟨dx,g,t,hp,hH,ht⟩:=id hS
 refine ⟨_, zA3 (zC8 PassesOwn.never rfl (zC5 (zBF (pv 0) rfl)) (zAH (i := 2) scFirst.nd rfl (Or.inl rfl))
   (zA4 (zB7 (zAM zF3 (zAC zCI (pv 2) (pv 1)) (pv 2) (zAO _)) (zA4 (zAB (zBH (zBF (pv 0) rfl) cl M1 O1 hr b1 .nil zAD (zA0 (pv 2) zA1)))) zAG)))
  (zA4 (zAB zCA)),?_⟩
 refine ⟨_,rfl,p,CS,dx,_,_,rfl,hp,clS,nM,rfl,t,rfl,?_⟩
 refine zEQ (K := K) (ys := IV ms) (.inr (SqT.of ht)) (fun i σ H' => ∃ v2, σ = [some (.ref p), some (.int mask), v2] /\ Same H H' /\ zID mask ms = zID mask (ms.drop i)) ⟨_, rfl, fun _ _ h => h, rfl⟩
  (λi σ H' hP => ?_) (λi σ H' x hi hx hP => ?_) (λσ H' hP => ?_)
 ·obtain ⟨_, _, g', _⟩ := hP
  exact g'.at1 t
 ·obtain ⟨v2, rfl, g1, e1⟩ := hP
  unfold IV at hx hi;rw [yAB] at hi;rw [yAe,yAA hi] at hx
  cases hx
  refine ⟨_,rfl,_,rfl,_,_,rfl,rfl,_,rfl,rfl,_,rfl,?_⟩;rw [zbX];refine zGV (λc => ?_) (λc => ?_)
  ·have c := yAj c
   rw [e1,zU9 hi c] at q;have hH':=hH.same g1;obtain ⟨gx,t',d,h1,h2,h3⟩:=id hH';have m1:=hO.ok ms[i] (yAn hi);exact ⟨_,rfl,p,CS,dx,_,_,rfl,g1 _ _ hp,clS,nG,rfl,g,gx,_,rfl,h1,rfl,_,rfl,g,xs,ms[i],rfl,hH',hO.gn.hi,m1.1,m1.2,λD6 H6 hD6 g6 l6=>q D6 H6 (g1.free hD6) (g1.trans g6) l6⟩
  ·exact ⟨_,rfl,g1,by rw [e1,zPR hi (λz=>c (yAM z))]⟩
 ·obtain ⟨v2, rfl, g1, e1⟩ := hP
  have el : (IV ms).length = ms.length:=by unfold IV; rw [yAB]
  rw [el,List.drop_length] at e1;rw [e1] at q;exact q H' g1
theorem zOR : FnScope ["self","names"] ["self","names"] (zA7 zHP):=by trivial
theorem zJY {H : Hp} {xs : List V} {x : V} {m : Int} (hx : SetAt H x xs m) : ∃ ys ix, Row H x (some ys) /\ ix.Nodup /\ ys.length = ix.length /\ (∀ (j : Nat) (k : Nat), ix[j]? = some k -> ∃ v, xs[k]? = some v /\ ys[j]? = some v) /\ ((maskN ix : Nat) : Int) = m := by
 obtain ⟨ix,⟨ys',r',nd,le,at_⟩,em⟩:=hx;exact ⟨ys',ix,r',nd,le,at_,em⟩
theorem zNQ {f a1 a2 CS C : Addr} {fd d1 d2 : FuncData} (F : Fun K "within" "System.within" zHP f fd) (clS : Cls K CS) (nG : NoAttr K CS "ground") (cl : Cls K C) (M1 : Meth K C "mask" a1) (O1 : FnOk P w K mg base CX0 2 a1 d1 ["self", "names"] (zI7 C)) (b1 : Binds K d1 ["self", "names"] [])
  (M2 : Meth K CS "first_lot" a2) (O2 : FnOk P w K mg base CX0 4 a2 d2 ["self","mask"] (zL1 CS C)) (b2 : Binds K d2 ["self","mask"] []) :
  FnOk P w K mg base CX0 5 f fd ["self","names"] (zIS CS C):=by
 refine F.ok zOR (λvs H Q E h => ?_) (λcdv A outer s H vs Q E hr h => ?_)
 ·obtain ⟨p, x, xs, ms, m, rfl, _⟩ := h
  rfl
 obtain ⟨p,x,xs,ms,m,rfl,hS,hO,hx,m0,m1,q⟩:=h;obtain ⟨dx,g,t,hp,hH,ht⟩:=id hS;have hr2 : Room 2 _:=hr.mono (by decide);obtain ⟨gx,t',d,h1,h2,h3⟩:=id hH;refine ⟨_,zA4 (zAB (zBH (pv 0) clS M2 O2 hr b2 .nil zAD (zA0 (zBH (zBF (pv 0) rfl) cl M1 O1 hr2 b1 .nil zAD (zA0 (pv 1) zA1)) zA1))),?_⟩;refine ⟨_,rfl,p,dx,_,rfl,hp,rfl,_,rfl,p,CS,dx,_,_,rfl,hp,clS,nG,rfl,g,gx,_,rfl,h1,rfl,_,rfl,?_⟩;obtain ⟨ys,ix,k1,k2,k3,k4,em⟩:=zJY hx;refine ⟨g,xs,x,ys,ix,rfl,hH,hO.gn.str,hO.gn.nd,hO.gn.hi,k1,k2,k3,k4,λH' g'=>⟨p,xs,ms,m,(by rw [em]; rfl),hS.same g',hO,q.mono g'⟩⟩
noncomputable def Sb (l m : Nat) : Prop:=∀ k,l.testBit k = true -> m.testBit k = true
theorem sb_iff {l m : Nat} : l &&& m = l ↔ Sb l m := by
 constructor
 ·intro h k hk
  rw [<- h,yCK,yAd] at hk;exact hk.2
 ·intro h
  refine yBT λk => ?_;rw [yCK]
  cases e : l.testBit k with
  | false=>rfl
  | true=>rw [h k e]; rfl
instance (l m : Nat) : Decidable (Sb l m):=decidable_of_iff _ sb_iff
noncomputable def fj (ns : List Nat) (j m : Nat) : Bool:=ns.any λl=>decide (Sb l m)&&decide (l >>> j = m >>> j)
theorem zJK {ns : List Nat} {j m : Nat} : fj ns j m = true ↔ ∃ l ∈ ns, Sb l m /\ l >>> j = m >>> j := by
 unfold fj;rw [yAz];simp only [yAd,yAL]
theorem zX7 (ns : List Nat) (m : Nat) : fj ns 0 m = decide (m ∈ ns) := by
 rw [yAg,zJK,yAL]
 constructor
 ·rintro ⟨l, hl, _, e⟩
  rw [Nat.shiftRight_zero,Nat.shiftRight_zero] at e;rw [<- e]; exact hl
 ·intro h
  exact ⟨m,h,λk hk=>hk,rfl⟩
theorem zZY {ns : List Nat} {n m : Nat} (hn : ∀ l ∈ ns, l < 2 ^ n) (hm : m < 2 ^ n) : fj ns n m = ns.any fun l => decide (Sb l m) := by
 rw [yAg,zJK,yAz]
 constructor
 ·rintro ⟨l, hl, h, _⟩
  exact ⟨l,hl,yAM h⟩
 ·rintro ⟨l, hl, h⟩
  refine ⟨l,hl,yAj h,?_⟩;rw [Nat.shiftRight_eq_div_pow,Nat.shiftRight_eq_div_pow,Nat.div_eq_of_lt (hn l hl),Nat.div_eq_of_lt hm]
theorem zU5 {l m j : Nat} (h : l >>> j = m >>> j) : l >>> (j + 1) = m >>> (j + 1) := by
 rw [Nat.shiftRight_add,Nat.shiftRight_add,h]
theorem zXX {l m j : Nat} (h : l >>> (j + 1) = m >>> (j + 1)) (e : l.testBit j = m.testBit j) : l >>> j = m >>> j := by
 refine yBT λk => ?_;rw [yBd,yBd]
 cases k with
 | zero=>exact e
 | succ k =>
  have : (l >>> (j + 1)).testBit k = (m >>> (j + 1)).testBit k:=by rw [h]
  rw [yBd,yBd] at this;rw [show j + (k + 1) = j + 1 + k by lia];exact this
theorem zIH (m j k : Nat) : (m ^^^ 2 ^ j).testBit k = (m.testBit k ^^ decide (j = k)) := by
 rw [Nat.testBit_xor,yBl]
theorem zW8 (ns : List Nat) (j m : Nat) : fj ns (j + 1) m = (fj ns j m || (m.testBit j && fj ns (j + 1) (m ^^^ 2 ^ j))) := by
 rw [yAg,yDM,yAd,zJK,zJK,zJK]
 constructor
 ·rintro ⟨l, hl, sb, e⟩
  by_cases h : l.testBit j = m.testBit j
  ·exact .inl ⟨l,hl,sb,zXX e h⟩
  ·have l0 : l.testBit j = false := by
    cases z : l.testBit j with
    | false=>rfl
    | true=>exact absurd (z.trans (sb j z).symm) h
   have m1 : m.testBit j = true := by
    cases z : m.testBit j with
    | true=>rfl
    | false=>exact absurd (l0.trans z.symm) h
   refine .inr ⟨m1,l,hl,λk hk => ?_,?_⟩
   ·have nk : j ≠ k := fun z => by rw [<- z, l0] at hk; cases hk
    rw [zIH,yAG nk,yDW];exact sb k hk
   ·refine e.trans (yBT fun k => ?_)
    rw [yBd,yBd,zIH,yAG (by lia),yDW]
 ·rintro (⟨l, hl, sb, e⟩ | ⟨m1, l, hl, sb, e⟩)
  ·exact ⟨l,hl,sb,zU5 e⟩
  ·refine ⟨l, hl, fun k hk => ?_, e.trans (yBT fun k => ?_)⟩
   ·have := sb k hk
    rw [zIH] at this
    by_cases z : j = k
    ·rw [<- z]; exact m1
    ·rw [yAG z,yDW] at this; exact this
   ·rw [yBd,yBd,zIH,yAG (by lia),yDW]
theorem zLD {m j : Nat} (h : m.testBit j = true) : m ^^^ 2 ^ j < m := by
 have hp : 0 < 2 ^ j:=Nat.two_pow_pos j;have h1 : (m ^^^ 2 ^ j) / 2 ^ j = m / 2 ^ j ^^^ 1:=by rw [Nat.xor_div_two_pow,Nat.div_self hp]
 have h2 : m / 2 ^ j % 2 = 1 := by
  rw [yBk] at h;exact yAj h
 have h3 : (m / 2 ^ j ^^^ 1) / 2 = m / 2 ^ j / 2:=by rw [Nat.xor_div_two]; simp
 have h4 : (m / 2 ^ j ^^^ 1) % 2 = 0 := by
  have:=Nat.xor_mod_two_eq_one (a:=m / 2 ^ j) (b:=1)
  have n1 : ¬ (m / 2 ^ j ^^^ 1) % 2 = 1:=λz=>(this.mp z) ⟨λ_=>rfl,λ_=>h2⟩;lia
 rcases yBo (m ^^^ 2 ^ j) m with z | z
 ·exact z
 ·have := Nat.div_le_div_right (c := 2 ^ j) z
  lia
noncomputable def zD2 (n : Nat) (f : Nat -> Bool) : List V:=(List.range (2 ^ n)).map λm=>V.bl (f m)
theorem zBA (n : Nat) (f : Nat -> Bool) : (zD2 n f).length = 2 ^ n:=by unfold zD2; rw [yAB,yCz]
theorem zBY {n : Nat} {f g : Nat -> Bool} (h : ∀ m, m < 2 ^ n -> f m = g m) : zD2 n f = zD2 n g := by
 unfold zD2;refine List.map_congr_left λm hm => ?_;rw [h m (yBM.mp hm)]
theorem zCS {n : Nat} {f : Nat -> Bool} {m : Nat} (h : m < 2 ^ n) : (zD2 n f)[m]? = some (.bl (f m)) := by
 unfold zD2;rw [yAe,List.getElem?_range h]; rfl
theorem zQL {n : Nat} {f : Nat -> Bool} {m : Nat} (h : m < 2 ^ n) : atI (zD2 n f) (m : Int) = some (.bl (f m)):=zFT (zCS h)
theorem zLE {n : Nat} {f : Nat -> Bool} {m : Nat} (h : m < 2 ^ n) : (zD2 n f).set m (.bl true) = zD2 n (fun k => f k || decide (k = m)) := by
 refine yDd λk => ?_;rw [List.getElem?_set]
 by_cases hk : k < 2 ^ n
 ·rw [zCS hk, zCS hk]
  by_cases e : m = k
  ·subst e
   rw [yAQ rfl,yAQ (by rw [zBA]; exact h)]
   simp
  ·rw [yAN e,yAG (λz=>e z.symm),Bool.or_false]
 ·have o1 : (zD2 n f)[k]? = none := yBr (by rw [zBA]; lia)
  have o2 : (zD2 n (λk=>f k||decide (k = m)))[k]? = none:=yBr (by rw [zBA]; lia);rw [o1,o2,yAN (by lia)]
theorem zTH (n : Nat) : (List.replicate (2 ^ n) [V.bl false]).flatten = zD2 n (fun _ => false) := by
 have h : ∀ k, (List.replicate k [V.bl false]).flatten = List.replicate k (V.bl false) := fun k => by
  induction k with
  | zero=>rfl
  | succ k ih=>rw [yCO,yDA,ih]; rfl
 rw [h];unfold zD2;refine yDd λk => ?_;rw [yAe]
 by_cases hk : k < 2 ^ n
 ·rw [yDh,yAQ hk,List.getElem?_range hk]; rfl
 ·rw [yDh,yAN hk,yBr (by rw [yCz]; lia)]; rfl
theorem zPX {n k : Nat} (h : k < n) : ixN n (k : Int) = some k := by
 unfold ixN;rw [yAQ (by lia),yAQ (by lia),yAf]
theorem zBT (x y : Nat) : Builtin.bitAnd ((x : Nat) : Int) ((y : Nat) : Int) = ((x &&& y : Nat) : Int):=rfl
theorem zFW : ∀ (n x y : Nat), x <= n -> (x ^^^ y) + (x &&& y) = x ||| y
 | 0,x,y,h=>by
  obtain rfl : x = 0:=by lia
  simp
 | n + 1,x,y,h=>by
  by_cases hx : x = 0
  ·subst hx; simp
  ·have ih := zFW n (x / 2) (y / 2) (by lia)
   have d1:=Nat.xor_div_two (a:=x) (b:=y);have d2:=Nat.and_div_two (a:=x) (b:=y);have d3:=Nat.or_div_two (a:=x) (b:=y);have m1:=Nat.xor_mod_two_eq_one (a:=x) (b:=y);have m2:=Nat.and_mod_two_eq_one (a:=x) (b:=y);have m3:=Nat.or_mod_two_eq_one (a:=x) (b:=y);rw [<- d1,<- d2,<- d3] at ih;have hx2:=Nat.mod_two_eq_zero_or_one x;have hy2:=Nat.mod_two_eq_zero_or_one y
   rcases hx2 with a | a <;> rcases hy2 with b | b <;> lia
theorem zK3 (x y : Nat) : Builtin.bitXor ((x : Nat) : Int) ((y : Nat) : Int) = ((x ^^^ y : Nat) : Int) := by
 have e : Builtin.bitXor ((x : Nat) : Int) ((y : Nat) : Int) = Builtin.bitOr ((x : Nat) : Int) ((y : Nat) : Int) - Builtin.bitAnd ((x : Nat) : Int) ((y : Nat) : Int):=rfl;rw [e,zUL,zBT]
 have:=zFW x x y (yAE _)
 lia
noncomputable def zDO (ms : List Int) (m : Nat) : Bool:=ms.any λl=>decide (Builtin.bitAnd l (m : Int) = l)
theorem zPB {ms : List Int} (h : ∀ m ∈ ms, 0 <= m) : ∃ ns : List Nat, ms = ns.map fun (n : Nat) => (n : Int) := by
 induction ms with
 | nil=>exact ⟨[],rfl⟩
 | cons m r ih =>
  obtain ⟨ns,e⟩:=ih λx hx=>h x (yAO _ hx);obtain ⟨k,rfl⟩:=yAw (h m (yAR ..));exact ⟨k::ns,by rw [yAl,<- e]⟩
theorem zLB (ns : List Nat) (m : Nat) : zDO (ns.map fun (n : Nat) => (n : Int)) m = ns.any fun l => decide (Sb l m) := by
 unfold zDO;rw [List.any_map]
 congr 1
 funext l
 show decide (Builtin.bitAnd ((l : Nat) : Int) ((m : Nat) : Int) = ((l : Nat) : Int)) = decide (Sb l m);rw [zBT,yAg,yAL,yAL,<- sb_iff];lia
noncomputable def zJM (K : PySem.W.Frag) : Sp:=λvs H Q _=>∃ a n ms,vs = [.ref a,.int ((n : Nat) : Int)]/\n <= 12/\Sq K H a (IV ms)/\H a≠none/\(∀ m∈ms,0 <= m/\m < 2 ^ n)/\∀ D H',H D = none -> Same H H' -> H' D = some (.lst (zD2 n (zDO ms))) -> Q (.ref D) H'
theorem scTableOf : FnScope ["masks","many","table","mask","number","bit"] ["masks","many"] (zA7 zHE):=by trivial
set_option maxHeartbeats 1000000 in
theorem zNE {f : Addr} {fd : FuncData} (F : Fun K "table_of" "table_of" zHE f fd) (T : Txt mg) : FnOk P w K mg base CX0 1 f fd ["masks", "many"] (zJM K) := by
 refine F.ok scTableOf (λvs H Q E h => ?_) (λcdv A outer s H vs Q E hr h => ?_)
 ·obtain ⟨a, n, ms, rfl, _⟩ := h
  rfl
 obtain ⟨a,n,ms,rfl,n12,sq,hne,ok,q⟩:=h;obtain ⟨ns,rfl⟩:=zPB λm hm=>(ok m hm).1
 have okn : ∀ l ∈ ns, l < 2 ^ n := fun l hl => by
  have:=(ok l (yAs.mpr ⟨l,hl,rfl⟩)).2
  exact_mod_cast this
 refine ⟨_, zA3 (zAE (i := 2) scTableOf.nd rfl (Or.inl rfl) (zAC zZD (zAQ (zA0 zDJ zA1)) (zAC zCU zA8 (pv 1))))
  (zA3 (zC8 PassesOwn.never rfl (zC5 (pv 0)) (zAH (i:=3) scTableOf.nd rfl (Or.inl rfl)) (zA4 (zH7 zDJ (zMR (pv 2) (pv 3) zF9))))
  (zA3 (zC8 PassesOwn.never rfl (zC0 rfl T.range (zA0 (pv 1) zA1)) (zAH (i := 4) scTableOf.nd rfl (Or.inl rfl))
   (zA3 (zAE (i:=5) scTableOf.nd rfl (Or.inl rfl) (zAC zCU zA8 (pv 4)))
   (zA4 (zC8 PassesOwn.never rfl (zC0 rfl T.range (zA0 (zAC zCU zA8 (pv 1)) zA1)) (zAH (i := 3) scTableOf.nd rfl (Or.inl rfl))
    (zA4 (zB7 (PW.pt (zRQ (zF8 (zAC zCI (pv 3) (pv 5)) (λ_=>rfl)) (zK7 (zBG (zBQ zB6 (pv 2) (zAC zQ5 (pv 3) (pv 5)) (λ_ _=>rfl)))))) (zA4 (zH7 zDJ (zMR (pv 2) (pv 3) zF9))) zAG))))))
  (zA4 (zAB (pv 2))))),?_⟩
 obtain ⟨N,hN⟩ : ∃ N,N = 2 ^ n:=⟨_,rfl⟩;have p12 : N <= 4096:=by rw [hN]; exact yAx (n:=2) (by decide) n12
 have s1000 : 16000000 <= sizeLine:=by decide
 have hsh : ∀ {k : Int},0 <= k -> k <= 12 -> zXV 1 k:=λh0 h1=>⟨h0,by lia,by decide⟩;have es : (1 : Int) * 2 ^ ((n : Nat) : Int).toNat = ((N : Nat) : Int):=by rw [yAf,yCQ,hN,yBi]; rfl
 refine ⟨(by show 1 <= sizeLine; decide),λl hl => ?_⟩;obtain ⟨H1,g1,c1,e0⟩:=zKI hl (.lst [.bl false]);rw [e0];clear e0;refine ⟨_,rfl,_,_,rfl,rfl,hsh (by lia) (by lia),l,_,_,rfl,rfl,c1,by rw [es]; lia,by rw [es]; lia,?_,λD hD => ?_⟩
 ·rw [es, yAf]
  show 1 * N <= sizeLine;lia
 have g2:=same_new hD (.lst (List.replicate ((1 : Int) * 2 ^ ((n : Nat) : Int).toNat).toNat [V.bl false]).flatten)
 have c2 : (upd H1 D (.lst (List.replicate ((1 : Int) * 2 ^ ((n : Nat) : Int).toNat).toNat [V.bl false]).flatten)) D = some (.lst (zD2 n (fun _ => false))) := by
  rw [zA2,es,yAf,hN,zTH]
 generalize upd H1 D (.lst (List.replicate ((1 : Int) * 2 ^ ((n : Nat) : Int).toNat).toNat [V.bl false]).flatten) = H2 at g2 c2 ⊢;have g12:=g1.trans g2;have hDH : H D = none:=g1.free hD;have naD : a≠D:=λe=>hne (by rw [e]; exact hDH);have el : (IV (ns.map λ(n : Nat)=>(n : Int))).length = ns.length:=by unfold IV; rw [yAB,yAB]
 have sq2 : Sq K H2 a (IV (ns.map λ(n : Nat)=>(n : Int))):=Sq.at1 (g12.at1 a) sq;refine ⟨_,rfl,a,rfl,?_⟩
 refine zEQ (K := K) sq2 (fun i σ H' => ∃ v3, σ = [some (.ref a), some (.int ((n : Nat) : Int)), some (.ref D), v3, none, none] /\ (∀ c, c ≠ D -> H' c = H2 c) /\ H' D = some (.lst (zD2 n (fun m => decide (m ∈ ns.take i))))) ⟨_, rfl, (fun _ _ => rfl), by rw [c2]; simp⟩
  (λi σ H' hP o ho => ?_) (λi σ H' x hi hx hP => ?_) (λσ H' hP => ?_)
 ·obtain ⟨_, _, k, _⟩ := hP
  rw [k a naD]; exact ho
 ·obtain ⟨v3, rfl, k, lD⟩ := hP
  rw [el] at hi
  have ex : x = .int ((ns[i] : Nat) : Int) := by
   unfold IV at hx;rw [yBp,yAe,yAA hi] at hx;exact (Option.some.inj hx).symm
  subst ex;have hlt:=okn ns[i] (yAn hi);refine ⟨_,rfl,_,rfl,D,_,_,ns[i],rfl,rfl,lD,zPX (by rw [zBA]; exact hlt),_,rfl,λc hc=>by rw [zA6 hc]; exact k c hc,?_⟩;rw [zA2,zLE hlt]
  congr 2
  refine zBY λm _ => ?_;have et : ns.take (i + 1) = ns.take i++[ns[i]]:=by rw [List.take_succ,yAA hi]; rfl
  rw [et,yAg,yDM,yAL,yAL,yAL,yAa,yAF]
 ·obtain ⟨v3, rfl, k, lD⟩ := hP
  rw [el,yCj] at lD
  have lD : H' D = some (.lst (zD2 n (fj ns 0))) := by
   rw [lD]
   congr 2
   exact zBY λm _=>(zX7 ns m).symm
  refine ⟨_,rfl,_,rfl,by lia,by lia,?_⟩;refine zCF (lo:=0) (λj σ H'=>∃ v3 v4 v5,σ = [some (.ref a),some (.int ((n : Nat) : Int)),some (.ref D),v3,v4,v5]/\(∀ c,c≠D -> H' c = H2 c)/\H' D = some (.lst (zD2 n (fj ns j)))) ⟨_,_,_,rfl,k,lD⟩ (λj σ H' hj hP => ?_) (λσ H' hP => ?_)
  ·obtain ⟨v3, v4, v5, rfl, k, lD⟩ := hP
   rw [yAf] at hj;have ej : (0 + (j : Int)).toNat = j:=by lia
   have eb : (1 : Int) * 2 ^ (0 + (j : Int)).toNat = ((2 ^ j : Nat) : Int):=by rw [ej,yCQ,yBi]; rfl
   refine ⟨_,rfl,_,_,rfl,rfl,hsh (by lia) (by lia),_,rfl,_,_,rfl,rfl,hsh (by lia) (by lia),_,rfl,by rw [es]; lia,by rw [es]; lia,?_⟩;refine zCF (lo:=0) (λi σ H'=>∃ v3,σ = [some (.ref a),some (.int ((n : Nat) : Int)),some (.ref D),v3,some (.int (0 + (j : Int))),some (.int ((1 : Int) * 2 ^ (0 + (j : Int)).toNat))]/\(∀ c,c≠D -> H' c = H2 c)/\H' D = some (.lst (zD2 n (λm=>if m < i then fj ns (j + 1) m else fj ns j m)))) ⟨_,rfl,k,by rw [lD]; congr 2⟩ (λi σ H' hi hP => ?_) (λσ H' hP => ?_)
   ·obtain ⟨v3, rfl, k, lD⟩ := hP
    rw [es,yAf] at hi;have hi2 : i < 2 ^ n:=by rw [<- hN]; exact hi
    have ei : (0 + (i : Int)) = ((i : Nat) : Int):=Int.zero_add _;have ea : Builtin.bitAnd (0 + (i : Int)) ((1 : Int) * 2 ^ (0 + (j : Int)).toNat) = ((i &&& 2 ^ j : Nat) : Int):=by rw [ei,eb,zBT]
    have ex : Builtin.bitXor (0 + (i : Int)) ((1 : Int) * 2 ^ (0 + (j : Int)).toNat) = ((i ^^^ 2 ^ j : Nat) : Int):=by rw [ei,eb,zK3]
    have hb : decide (((i &&& 2 ^ j : Nat) : Int) ≠ 0) = i.testBit j := by
     rw [yAg,yAL]
     constructor
     ·intro h
      cases z : i.testBit j with
      | true=>rfl
      | false =>
       refine absurd ?_ h
       have : i &&& 2 ^ j = 0 := by
        refine yBT λk => ?_;rw [yCK,yBl,yDF]
        by_cases y : j = k
        ·subst y; rw [z]; rfl
        ·rw [yAG y,Bool.and_false]
       rw [this]; rfl
     ·intro h e
      have : i &&& 2 ^ j = 0:=by lia
      have t : (i &&& 2 ^ j).testBit j = true:=by rw [yCK,yBl,h]; simp
      rw [this,yDF] at t
      cases t
    have next : ∀ c : Bool, c = (i.testBit j && fj ns (j + 1) (i ^^^ 2 ^ j)) -> zD2 n (fun m => (if m < i then fj ns (j + 1) m else fj ns j m) || (c && decide (m = i))) = zD2 n (fun m => if m < i + 1 then fj ns (j + 1) m else fj ns j m) := fun c hc => by
     refine zBY λm _ => ?_
     by_cases e : m = i
     ·subst e
      rw [yAN (yBV _),yAQ (yCi _),zW8 ns j m,hc]
      simp
     ·rw [yAG e, Bool.and_false, Bool.or_false]
      by_cases z : m < i
      ·rw [yAQ z,yAQ (by lia)]
      ·rw [yAN z,yAN (by lia)]
    refine ⟨_,rfl,_,rfl,_,_,rfl,rfl,_,rfl,?_⟩;have put : ∀ c : Bool,c = (i.testBit j&&fj ns (j + 1) (i ^^^ 2 ^ j)) -> ∀ H9 : Hp,(∀ c,c≠D -> H9 c = H2 c) -> H9 D = some (.lst (zD2 n (λm=>(if m < i then fj ns (j + 1) m else fj ns j m)||(c&&decide (m = i))))) -> H9 D = some (.lst (zD2 n (λm=>if m < i + 1 then fj ns (j + 1) m else fj ns j m))):=λc hc H9 _ h=>by rw [h,next c hc]
    have skip : i.testBit j = false \/ fj ns (j + 1) (i ^^^ 2 ^ j) = false -> H' D = some (.lst (zD2 n (fun m => if m < i + 1 then fj ns (j + 1) m else fj ns j m))) := fun h => by
     refine put false ?_ H' k ?_
     ·rcases h with z | z
      ·rw [z]; rfl
      ·rw [z,Bool.and_false]
     ·rw [lD]
      congr 2
      exact zBY λm _=>by rw [yBz,Bool.or_false]
    refine zGV (λc => ?_) (λc => ?_)
    ·have hbit : i.testBit j = true := by
      rw [<- hb,yAL,<- ea]
      simpa using c
     have hlt:=zLD hbit;refine ⟨_,rfl,_,rfl,_,rfl,_,_,rfl,rfl,D,_,_,_,rfl,rfl,SqL.of lD,(by rw [ex]; exact zQL (Nat.lt_trans hlt hi2)),_,rfl,?_⟩;rw [yAQ hlt];refine zGV (λc2 => ?_) (λc2 => ?_)
     ·refine ⟨_, rfl, _, rfl, D, _, _, i, rfl, rfl, lD, (by rw [ei]; exact zPX (by rw [zBA]; exact hi2)), _, rfl, fun c hc => by rw [zA6 hc]; exact k c hc, ?_⟩
      refine put true (by rw [hbit,c2]; rfl) _ (λc hc=>by rw [zA6 hc]; exact k c hc) ?_;rw [zA2,zLE hi2]
      congr 2
     ·refine ⟨_,rfl,k,skip (.inr (by simpa using c2))⟩
    ·refine zBP ⟨_, rfl, k, skip (.inl ?_)⟩
     cases z : i.testBit j with
     | false=>rfl
     | true =>
      rw [<- hb,yAL,<- ea] at z;exact absurd (by simpa using z) c
   ·obtain ⟨v3, rfl, k, lD⟩ := hP
    refine ⟨_,_,_,rfl,k,?_⟩;rw [lD]
    congr 2
    refine zBY λm hm => ?_;rw [es,yAf,hN,yAQ hm]
  ·obtain ⟨v3, v4, v5, rfl, k, lD⟩ := hP
   rw [yAf] at lD;refine ⟨_,rfl,q D H' hDH (λc o hc => ?_) ?_⟩
   ·rw [k c (zA5 hc hDH)]; exact g12 _ _ hc
   ·rw [lD]
    congr 2
    refine zBY λm hm => ?_;rw [zZY okn hm,zLB]
theorem zXF (m k : Nat) : bit ((m : Nat) : Int) k = m.testBit k := by
 unfold bit;rw [yBk,yAg,yAL,yAL]
 have e : ((m : Nat) : Int) / 2 ^ k = ((m / 2 ^ k : Nat) : Int) := by
  rw [Int.natCast_ediv,yBi]; rfl
 rw [e];lia
theorem zCH (m : Nat) : zB9 ((m : Nat) : Int) = (List.range 12).filter fun k => m.testBit k := by
 unfold zB9 zE9;rw [zJB];refine List.filter_congr λk _ => ?_;rw [zXF]
noncomputable def zCE (f : Nat -> Bool) (m : Nat) : Bool:=f m && !((zB9 ((m : Nat) : Int)).any λk=>f (m ^^^ 2 ^ k))
noncomputable def zAK (f : Nat -> Bool) (i : Nat) : List Int:=((List.range i).filter (zCE f)).map λ(k : Nat)=>(k : Int)
theorem zF1 (f : Nat -> Bool) (i : Nat) : zAK f (i + 1) = zAK f i ++ (if zCE f i = true then [((i : Nat) : Int)] else []) := by
 unfold zAK;rw [List.range_succ,yDS,yAU]
 congr 1
 cases h : zCE f i with
 | true=>rw [List.filter_cons_of_pos h]; rfl
 | false=>rw [List.filter_cons_of_neg (by rw [h]; simp)]; rfl
theorem zFY (f : Nat -> Bool) (i : Nat) : (zAK f i).length <= i := by
 unfold zAK;rw [yAB];exact yAk (yDE _ _) (by rw [yCz]; exact yAE _)
noncomputable def zLN : Sp:=λvs H Q _=>∃ a n f,vs = [.ref a]/\n <= 12/\H a = some (.lst (zD2 n f))/\∀ D H',H D = none -> Same H H' -> H' D = some (.lst (IV (zAK f (2 ^ n)))) -> Q (.ref D) H'
theorem scLeastM : FnScope ["table","masks","mask","decides"] ["table"] (zA7 zKY):=by trivial
set_option maxHeartbeats 1000000 in
theorem zRL {f a2 : Addr} {fd d2 : FuncData} (F : Fun K "least_masks" "least_masks" zKY f fd) (me : mg "enumerate" = none) (ma : mg "any" = none) (D2 : Def P w K mg base 1 "numbers_of" ["mask"] zUE a2 d2) : FnOk P w K mg base CX0 2 f fd ["table"] zLN := by
 refine F.ok scLeastM (λvs H Q E h => ?_) (λcdv A outer s H vs Q E hr h => ?_)
 ·obtain ⟨a, n, f, rfl, _⟩ := h
  rfl
 obtain ⟨a,n,tf,rfl,n12,ha,q⟩:=h
 refine ⟨_, zA3 (zAE (i := 1) scLeastM.nd rfl (Or.inl rfl) (zAQ zA1))
  (zA3 (zC8 PassesOwn.never rfl (zHV rfl me (zA0 (pv 0) zA1)) (zPL (n := 2) rfl (zBL (zAH (i := 2) scLeastM.nd rfl (Or.inr rfl)) (zBL (zAH (i := 3) scLeastM.nd rfl (Or.inl rfl)) zG3)))
   (zA4 (zB7 (PW.pt (zRQ (zBG (pv 3)) (zK7 (zBI (zBG (zAA (zTF rfl) rfl ma PyProof.Rows.boot_any (zA0 (zBK (xs := ["number"]) (fv := [("mask", 2), ("table", 0)]) rfl (by decide +kernel) ⟨⟨rfl, Or.inl rfl, rfl⟩, ⟨rfl, Or.inl rfl, rfl⟩, trivial⟩
     (zC5 (zA9 D2.ok hr rfl D2.m D2.k D2.b .nil zAD (zA0 (pv 2) zA1))) (λ_ _ _ _ _=>zAH (i:=0) (ndT (by decide +kernel)) rfl (Or.inl rfl)) (λ_ _ _ _ _=>zBU)
     (λ_ _ _ _ _=>zBQ (zTI (K:=K) rfl) (pv 2) (zAC zQ5 (pv 1) (zAC zCU zA8 (pv 0))) (λ_ _=>rfl))) zA1))))))) (zA4 (zCD (zGI yBQ yBu yBt zC1 (pv 1) (zA0 (pv 2) zA1)))) zAG)))
  (zA4 (zAB (pv 1)))),?_⟩
 obtain ⟨N,hN⟩ : ∃ N,N = 2 ^ n:=⟨_,rfl⟩;have p12 : N <= 4096:=by rw [hN]; exact yAx (n:=2) (by decide) n12
 have s1000 : 16000000 <= sizeLine:=by decide
 refine ⟨(by show 0 <= sizeLine; decide),λM hM => ?_⟩;obtain ⟨H1,g1,c1,e0⟩:=zKI hM (.lst []);rw [e0];clear e0;have ha1:=g1 _ _ ha;refine ⟨_,rfl,a,rfl,?_⟩
 refine zS6 (K := K) (ys := zD2 n tf) (.inl (SqL.of ha1)) (fun i σ H' => ∃ v2 v3, σ = [some (.ref a), some (.ref M), v2, v3] /\ Same H H' /\ H' M = some (.lst (IV (zAK tf i)))) ⟨_, _, rfl, g1, c1⟩
  (λi σ H' hP o ho => ?_) (λi σ H' x r hi hx hP hr' => ?_) (λσ H' hP => ?_)
 ·obtain ⟨_, _, _, g', _⟩ := hP
  rw [ha1] at ho
  cases ho
  exact g' _ _ ha
 ·obtain ⟨v2, v3, rfl, gH, lM⟩ := hP
  rw [zBA] at hi;rw [zCS hi] at hx
  cases hx
  have g2:=same_new hr' (.tup [.int (i : Nat),.bl (tf i)]);have c2 : (upd H' r (.tup [.int (i : Nat),.bl (tf i)])) r = some (.tup [.int (i : Nat),.bl (tf i)]):=zA2;generalize upd H' r (.tup [.int (i : Nat),.bl (tf i)]) = H2 at g2 c2 ⊢;have gH2:=gH.trans g2;have lM2:=g2 _ _ lM;refine ⟨r,_,rfl,SqT.of c2,rfl,_,_,rfl,_,_,rfl,rfl,?_⟩
  have stay : zCE tf i = false -> ∀ H9 : Hp, Same H2 H9 -> H9 M = some (.lst (IV (zAK tf (i + 1)))) := fun h H9 g9 => by
   rw [g9 _ _ lM2,zF1,h]
   simp
  refine ⟨_,rfl,_,rfl,?_⟩;refine zGV (λc => ?_) (λc => ?_)
  ·have okm : OkM ((i : Nat) : Int) := ⟨by lia, by lia⟩
   refine ⟨_,rfl,_,rfl,okm,λr3 H3 g3 hr3 l3=>⟨r3,rfl,?_⟩⟩;have hlen : (zE9 ((i : Nat) : Int)).length <= 12:=zCJ _ 12;have ha3:=g3 _ _ (gH2 _ _ ha);refine zCR (K:=K) (ys:=(zE9 ((i : Nat) : Int)).map V.int) (.inl (SqL.of l3)) (λj D H'=>Same H3 H'/\H' D = some (.lst ((((zB9 ((i : Nat) : Int)).take j).map λk=>tf (i ^^^ 2 ^ k)).map V.bl))) (λD hD=>⟨same_new hD _,zA2⟩) (λj D H' hD hP=>hP.1.at1 r3) (λj D H' x hD hj hx hP => ?_) (λD H' hD hP => ?_)
   ·obtain ⟨g4, lD⟩ := hP
    rw [yAB] at hj;rw [yAe,yAA hj] at hx
    cases hx
    have hjn : j < (zB9 ((i : Nat) : Int)).length:=by unfold zB9; rw [yAB]; exact hj
    obtain ⟨k,hk⟩ : ∃ k : Nat,(zB9 ((i : Nat) : Int))[j] = k:=⟨_,rfl⟩;have kmem : k∈zB9 ((i : Nat) : Int):=by rw [<- hk]; exact yAn hjn
    have ek : (zE9 ((i : Nat) : Int))[j] = ((k : Nat) : Int) := by
     have m0 : ∀ y ∈ zE9 ((i : Nat) : Int), 0 <= y := fun y hy => by
      unfold zE9 zBR at hy;obtain ⟨z,_,rfl⟩:=yAs.mp hy;lia
     have:=m0 _ (yAn hj)
     have e2 : (zB9 ((i : Nat) : Int))[j]? = some (zE9 ((i : Nat) : Int))[j].toNat := by
      unfold zB9;rw [yAe,yAA hj]; rfl
     rw [yAA hjn,hk] at e2
     have:=Option.some.inj e2
     lia
    rw [ek];rw [zCH,yBX,yBM] at kmem;have hlt:=zLD kmem.2;refine ⟨rfl,?_⟩;unfold zJP;dsimp only;rw [yAQ rfl];have es : (1 : Int) * 2 ^ ((k : Nat) : Int).toNat = ((2 ^ k : Nat) : Int):=by rw [yAf,yCQ,yBi]; rfl
    refine ⟨_,rfl,_,rfl,_,rfl,_,_,rfl,rfl,⟨by lia,by lia,by decide⟩,_,_,rfl,rfl,a,_,_,_,rfl,rfl,SqL.of (g4 _ _ ha3),(by rw [es,zK3]; exact zQL (Nat.lt_trans hlt hi)),_,lD,?_,λc o e => ?_,?_⟩
    ·rw [yAB,yAB,yAp]; lia
    ·rw [zA6 (zA5 e hD)]; exact g4 _ _ e
    ·rw [zA2, List.take_succ, yAA hjn, hk, yAU, yAU]
     rfl
   ·obtain ⟨g4, lD⟩ := hP
    rw [yAB] at lD
    have e1 : (zB9 ((i : Nat) : Int)).take (zE9 ((i : Nat) : Int)).length = zB9 ((i : Nat) : Int) := by
     rw [yAt];unfold zB9;rw [yAB]; exact yAE _
    rw [e1] at lD;have g5:=g3.trans g4;refine ⟨D,_,rfl,SqL.of lD,_,rfl,?_⟩;have ea : (((zB9 ((i : Nat) : Int)).map λk=>tf (i ^^^ 2 ^ k)).any id) = (zB9 ((i : Nat) : Int)).any λk=>tf (i ^^^ 2 ^ k):=by rw [List.any_map]; rfl
    rw [ea];have lM5:=g5 _ _ lM2;have big:=zFY tf i;refine zGV (λc2 => ?_) (λc2 => ?_)
    ·have hl : zCE tf i = true := by
      unfold zCE;rw [c,yBn]
      simpa using c2
     refine ⟨_,rfl,.inl ⟨rfl,_,SqL.of lM5⟩,_,rfl,M,_,_,rfl,rfl,lM5,?_,_,_,rfl,λb o e => ?_,?_⟩
     ·unfold IV
      rw [yAB]; lia
     ·rw [zA6 (zA5 e hM)]; exact g5 _ _ (gH2 _ _ e)
     ·rw [zA2, zF1, hl]
      unfold IV;rw [yAU]; rfl
    ·refine ⟨_, _, rfl, gH2.trans g5, stay ?_ _ g5⟩
     unfold zCE;rw [c,yBn]
     simpa using c2
  ·refine zBP ⟨_, _, rfl, gH2, stay ?_ H2 (Same.refl _)⟩
   unfold zCE;rw [show tf i = false by simpa using c]; rfl
 ·obtain ⟨v2, v3, rfl, gH, lM⟩ := hP
  rw [zBA] at lM;exact ⟨_,rfl,q M H' hM gH lM⟩
theorem zGU {H : Hp} {xs : List V} (hG : GN xs) : ∀ (vs : List Addr) (ms : List Int), vs.length = ms.length -> (∀ m ∈ ms, 0 <= m /\ m < 2 ^ xs.length) ->
  (∀ (j : Nat) v m,vs[j]? = some v -> ms[j]? = some m -> ∃ ys,Row H (.ref v) (some ys)/\ys.Perm (setV xs m)) -> ∃ ixs : List (List Nat),zZJ H xs (vs.map V.ref) ixs/\(ixs.map maskN).map (λ(m : Nat)=>(m : Int)) = ms
 | [],[],_,_,_=>⟨[],⟨rfl,λi v ix h=>by cases h⟩,rfl⟩
 | [],_::_,h,_,_=>by cases h
 | _::_,[],h,_,_=>by cases h
 | v::vs,m::ms,h,ok,f=>by
  obtain ⟨ixs,⟨l1,l2⟩,e⟩:=zGU hG vs ms (by simpa using h) (λx hx=>ok x (yAO _ hx)) (λj v m a b=>f (j + 1) v m a b);obtain ⟨ys,r,pm⟩:=f 0 v m rfl rfl;have hm:=ok m (yAR ..);obtain ⟨ix,la,em⟩:=zUH hG hm.1 hm.2 r pm;refine ⟨ix::ixs,⟨by simp at l1 ⊢; exact l1,λi v' ix' a b => ?_⟩,by rw [yAl,yAl,em,e]⟩
  cases i with
  | zero=>cases a; cases b; exact la
  | succ i=>exact l2 i v' ix' (by simpa using a) (by simpa using b)
theorem zMZ {l : List Nat} {ms : List Int} (e : l.map (fun (m : Nat) => (m : Int)) = ms) (nd : ms.Nodup) : l.Nodup := by
 rw [<- e] at nd;exact (yBm.mp nd).imp λh z=>h (by rw [z])
theorem zOA {H : Hp} {xs : List V} (h : GN xs) : ∀ v ∈ xs, Th H v := fun v hv => by
 rw [h.str v hv];show (zAV v).length <= 100000
 have:=h.six v hv
 lia
structure Rows1 (b : Addr) (xs : List V) (ms : List Int) (vs : List Addr) (H0 H : Hp) : Prop where
 len : vs.length = ms.length
 new : ∀ v∈vs,H0 v = none
 rows : ∀ (j : Nat) v m,vs[j]? = some v -> ms[j]? = some m -> ∃ ys,Row H (.ref v) (some ys)/\ys.Perm (setV xs m)
theorem zMO {CS C : Addr} {Hx : Hp} {vx vy : V} {xs : List V} {ms : List Int} {vs : List Addr} {b : Addr} {H0 : Hp} (hG : GN xs) (are : zJO (some xs) = true) (ok : MsOk xs.length ms) (h64 : ms.length <= 1000) (rX : Row Hx vx (some xs)) (rY : Row Hx vy (some (vs.map V.ref))) (R : Rows1 b xs ms vs H0 Hx)
  {p dx : Addr} (hp : Hx p = none) (hdx : Hx dx = none) {Qm : VK} {E : XK} (hQ : ∀ H' zs,Same Hx H' -> SysAt CS C H' p xs zs -> zs.Perm ms -> Ord xs zs -> Qm .non H') :
  zHM CS C [.ref p,vx,vy] (upd (upd Hx dx (.own p)) p (.ins CS dx [])) Qm E:=by
 have k1 : Same Hx (upd (upd Hx dx (.own p)) p (.ins CS dx [])):=λc o hc=>by rw [zA6 (zA5 hc hp),zA6 (zA5 hc hdx)]; exact hc
 obtain ⟨ixs,lo,em⟩:=zGU (H:=Hx) hG vs ms R.len ok.ok R.rows;have lo' : zZJ (upd (upd Hx dx (.own p)) p (.ins CS dx [])) xs (vs.map V.ref) ixs:=⟨lo.1,λi v ix a b=>(lo.2 i v ix a b).same k1⟩;refine ⟨p,dx,vx,vy,xs,vs.map V.ref,ixs,rfl,zA2,rX.same k1,zOA hG,are,rY.same k1,by rw [yAB,R.len]; exact h64,lo',zMZ em ok.nd,λH' zs kp pz O hS => ?_⟩;rw [em] at pz;exact hQ H' zs (λc o hc=>kp c o (k1 _ _ hc) (zA5 hc hp)) hS pz O
theorem Sb.refl (l : Nat) : Sb l l:=λ_ h=>h
theorem Sb.trans {a b c : Nat} (h : Sb a b) (g : Sb b c) : Sb a c:=λk hk=>g k (h k hk)
theorem Sb.le {l m : Nat} (h : Sb l m) : l <= m := by
 have:=sb_iff.mpr h
 rw [<- this];exact Nat.and_le_right
theorem Sb.of_out {l m b : Nat} (hm : m.testBit b = true) (h : Sb l (m ^^^ 2 ^ b)) : Sb l m := fun k hk => by
 have:=h k hk
 rw [zIH] at this
 by_cases z : b = k
 ·rw [<- z]; exact hm
 ·rw [yAG z,yDW] at this; exact this
theorem leastTo_mem {f : Nat -> Bool} {N : Nat} {x : Int} : x ∈ zAK f N ↔ ∃ m : Nat, x = m /\ m < N /\ zCE f m = true := by
 unfold zAK;rw [yAs]
 constructor
 ·rintro ⟨m, hm, rfl⟩
  rw [yBX,yBM] at hm;exact ⟨m,rfl,hm.1,hm.2⟩
 ·rintro ⟨m, rfl, h1, h2⟩
  exact ⟨m,yBX.mpr ⟨yBM.mpr h1,h2⟩,rfl⟩
theorem zN8 (f : Nat -> Bool) (N : Nat) : (zAK f N).Nodup := by
 unfold zAK;refine yBm.mpr ?_;refine ((List.nodup_range (n:=N)).sublist List.filter_sublist).imp λh e=>h ?_;lia
theorem zDD {f : Nat -> Bool} {n m : Nat} (n12 : n <= 12) (hm : m < 2 ^ n) : zCE f m = true ↔ f m = true /\ ∀ b, m.testBit b = true -> f (m ^^^ 2 ^ b) = false := by
 unfold zCE;rw [yAd,zCH];simp only [yBb,yDB,yBX,yBM,Bool.not_eq_true]
 constructor
 ·rintro ⟨h1, h2⟩
  refine ⟨h1,λb hb=>h2 b ⟨?_,hb⟩⟩;have h3:=yCh hb
  rcases yBo b 12 with z | z
  ·exact z
  ·have a1 : 2 ^ n <= 2 ^ 12 := yAx (by decide) n12
   have a2 : 2 ^ 12 <= 2 ^ b:=yAx (by decide) z;lia
 ·rintro ⟨h1, h2⟩
  exact ⟨h1,λb hb=>h2 b hb.2⟩
noncomputable def zXP (ns : List Nat) (m : Nat) : Bool:=ns.any λl=>decide (Sb l m)
theorem decN_iff {ns : List Nat} {m : Nat} : zXP ns m = true ↔ ∃ l ∈ ns, Sb l m := by
 unfold zXP;rw [yAz];simp only [yAL]
theorem zFU {ns : List Nat} {n : Nat} (n12 : n <= 12) (hn : ∀ l ∈ ns, l < 2 ^ n) : ∀ (N l : Nat), l <= N -> l ∈ ns -> ∃ k, k < 2 ^ n /\ zCE (zXP ns) k = true /\ Sb k l
 | N,l,hN,hl=>by
  have hlt:=hn l hl
  by_cases h : zCE (zXP ns) l = true
  ·exact ⟨l,hlt,h,Sb.refl l⟩
  ·have nb : ∃ b, l.testBit b = true /\ zXP ns (l ^^^ 2 ^ b) = true := by
    refine Classical.byContradiction λno=>h ((zDD n12 hlt).mpr ⟨decN_iff.mpr ⟨l,hl,Sb.refl l⟩,λb hb => ?_⟩)
    cases e : zXP ns (l ^^^ 2 ^ b) with
    | false=>rfl
    | true=>exact absurd ⟨b,hb,e⟩ no
   obtain ⟨b,hb,hd⟩:=nb;obtain ⟨l2,hl2,sb⟩:=decN_iff.mp hd;have lt2 : l2 < l:=yDR sb.le (zLD hb)
   match N,hN with
   | 0,hN=>lia
   | N + 1,hN =>
    obtain ⟨k,k1,k2,k3⟩:=zFU n12 hn N l2 (by lia) hl2;exact ⟨k,k1,k2,k3.trans (sb.of_out hb)⟩
structure LeastOf (n : Nat) (ms ls : List Int) : Prop where
 ok : MsOk n ls
 few : ls.length <= ms.length
 sub : ∀ l∈ls,l∈ms
 below : ∀ m∈ms,∃ l∈ls,Builtin.bitAnd l m = l
 least : ∀ l∈ls,∀ m∈ms,Builtin.bitAnd m l = m -> m = l
noncomputable def zOF (CS C : Addr) : Sp:=λvs H Q _=>∃ p xs ms,vs = [.ref p]/\SysAt CS C H p xs ms/\Ord xs ms/\∀ D H',H D = none -> Same H H' -> H' D = some (.lst (zD2 xs.length (zDO ms))) -> Q (.ref D) H'
noncomputable def zJI (CS C : Addr) : Sp := fun vs H Q _ => ∃ nm tb xs f, vs = [.ref nm, .ref tb] /\ H nm = some (.lst xs) /\ zJO (some xs) = true /\ H tb = some (.lst (zD2 xs.length f)) /\ (zAK f (2 ^ xs.length)).length <= 1000 /\
 ∀ p H' zs,H p = none -> Same H H' -> SysAt CS C H' p xs zs -> zs.Perm (zAK f (2 ^ xs.length)) -> Ord xs zs -> Q (.ref p) H'
theorem zWN : FnScope ["self"] ["self"] (zA7 zPD):=by trivial
theorem zTU {f a1 a2 CS C : Addr} {fd d1 d2 : FuncData} (F : Fun K "table" "System.table" zPD f fd) (clS : Cls K CS) (nG : NoAttr K CS "ground") (nM : NoAttr K CS "masks") (cl : Cls K C) (M1 : Meth K C "size" a1) (O1 : FnOk P w K mg base CX0 1 a1 d1 ["self"] (zQH C)) (b1 : Binds K d1 ["self"] [])
  (D2 : Def P w K mg base 1 "table_of" ["masks","many"] (zJM K) a2 d2) : FnOk P w K mg base CX0 2 f fd ["self"] (zOF CS C):=by
 refine F.ok zWN (λvs H Q E h => ?_) (λcdv A outer s H vs Q E hr h => ?_)
 ·obtain ⟨p, xs, ms, rfl, _⟩ := h
  rfl
 obtain ⟨p,xs,ms,rfl,hS,hO,q⟩:=h;obtain ⟨dx,g,t,hp,hH,ht⟩:=id hS;obtain ⟨gx,t',d,h1,h2,h3⟩:=id hH;refine ⟨_,zA4 (zAB (zA9 D2.ok hr rfl D2.m D2.k D2.b .nil zAD (zA0 (zBF (pv 0) rfl) (zA0 (zE6 (zBF (pv 0) rfl) cl M1 O1 hr b1 .nil zAD) zA1)))),?_⟩;refine ⟨_,rfl,p,CS,dx,_,_,rfl,hp,clS,nM,rfl,_,rfl,p,CS,dx,_,_,rfl,hp,clS,nG,rfl,g,gx,_,rfl,h1,rfl,g,xs,rfl,hH,?_⟩;exact ⟨t,xs.length,ms,rfl,hO.gn.hi,.inr (SqT.of ht),by rw [ht]; simp,hO.ok,q⟩
theorem scByTable : FnScope ["names","table","houses"] ["names","table"] (zA7 zHY):=by trivial
set_option maxHeartbeats 1000000 in
theorem zNW {f f1 a1 a2 fS CS C : Addr} {fd e1 d1 d2 dS' : FuncData} (F : Fun K "system_by_table" "system_by_table" zHY f fd) (cl : Cls K C) (MC : Mk K C f1) (OC : FnOk P w K mg base CX0 4 f1 e1 ["self", "names"] (zP9 C)) (bC : Binds K e1 ["self", "names"] []) (mC : mg "Houses" = some (.ref C))
  (M1 : Meth K C "set_of" a1) (O1 : FnOk P w K mg base CX0 3 a1 d1 ["self","mask"] (zHC C)) (b1 : Binds K d1 ["self","mask"] []) (D2 : Def P w K mg base 2 "least_masks" ["table"] zLN a2 d2)
  (MS : Mk K CS fS) (OS : FnOk P w K mg base CX0 6 fS dS' ["self","houses","lots"] (zHM CS C)) (bS : Binds K dS' ["self","houses","lots"] []) (mS : mg "System" = some (.ref CS)) : FnOk P w K mg base CX0 8 f fd ["names","table"] (zJI CS C):=by
 refine F.ok scByTable (λvs H Q E h => ?_) (λcdv A outer s H vs Q E hr h => ?_)
 ·obtain ⟨nm, tb, xs, f, rfl, _⟩ := h
  rfl
 obtain ⟨nm,tb,xs,tf,rfl,hnm,are,htb,h64,q⟩:=h;have hG:=zF6 are;have hr2 : Room 2 _:=hr.mono (by decide);have hr3 : Room 3 _:=hr.mono (by decide);have hr5 : Room 5 _:=hr.mono (by decide)
 refine ⟨_, zA3 (zAE (i := 2) scByTable.nd rfl (Or.inr rfl) (zHF MC OC hr5 rfl mC bC .nil zAD (zA0 (pv 0) zA1)))
  (zA4 (zAB (zHF MS OS hr rfl mS bS .nil zAD (zA0 (pv 0) (zA0 (zBK (xs := ["mask"]) (fv := [("houses", 2)]) rfl (by decide +kernel) ⟨⟨rfl, Or.inl rfl, rfl⟩, trivial⟩ (zC5 (zA9 D2.ok hr2 rfl D2.m D2.k D2.b .nil zAD (zA0 (pv 1) zA1)))
   (λ_ _ _ _ _=>zAH (i:=0) (ndT (by decide +kernel)) rfl (Or.inl rfl)) (λ_ _ _ _ _=>zBU) (λ_ _ _ _ _=>zBH (pv 1) cl M1 O1 hr3 b1 .nil zAD (zA0 (pv 0) zA1))) zA1))))),?_⟩
 refine ⟨_,rfl,λg gx hg hgx ne => ?_⟩;have k1 : Same H (upd (upd H gx (.own g)) g (.ins C gx [])):=λc o hc=>by rw [zA6 (zA5 hc hg),zA6 (zA5 hc hgx)]; exact hc
 have i1 : (upd (upd H gx (.own g)) g (.ins C gx [])) g = some (.ins C gx []):=zA2;generalize upd (upd H gx (.own g)) g (.ins C gx []) = H1 at k1 i1 ⊢;refine ⟨g,gx,_,xs,rfl,i1,.lst (k1 _ _ hnm),zOA hG,by have:=hG.hi; lia,are,λH2 k2 hH2=>⟨rfl,?_⟩⟩;have s2 : Same H H2:=λc o hc=>k2 c o (k1 _ _ hc) (zA5 hc hg)
 have ok : MsOk xs.length (zAK tf (2 ^ xs.length)) := ⟨zN8 _ _, fun m hm => by
  obtain ⟨k,rfl,h,_⟩:=leastTo_mem.mp hm;exact ⟨by lia,by exact_mod_cast h⟩⟩
 refine ⟨_,rfl,_,rfl,tb,xs.length,tf,rfl,hG.hi,s2 _ _ htb,λD H3 hD g3 lD=>⟨D,rfl,?_⟩⟩;have hH3:=hH2.same g3
 refine zCR (K := K) (ys := IV (zAK tf (2 ^ xs.length))) (.inl (SqL.of lD)) (fun i L H' => Same H3 H' /\ ∃ vs : List Addr, H' L = some (.lst (vs.map V.ref)) /\ vs.length = i /\ (∀ v ∈ vs, H3 v = none /\ v ≠ L) /\ ∀ (j : Nat) v m, vs[j]? = some v -> (zAK tf (2 ^ xs.length))[j]? = some m -> H' v = some (.lst (setV xs m)))
  (λL hL=>⟨same_new hL _,[],zA2,rfl,(λ_ h=>nomatch h),λj v m h=>by cases h⟩) (λi L H' hL hP=>hP.1.at1 D) (λi L H' x hL hi hx hP => ?_) (λL H' hL hP => ?_)
 ·obtain ⟨g4, vs, lL, lz, nw, rw'⟩ := hP
  unfold IV at hx hi;rw [yAB] at hi;rw [yAe,yAA hi] at hx
  cases hx
  have hm:=ok.ok _ (yAn hi);have hH4:=hH3.same g4;obtain ⟨gx',t',d,h1,h2,h3⟩:=id hH4;refine ⟨rfl,?_⟩;unfold zJP;dsimp only;rw [yAQ rfl];refine ⟨_,rfl,g,gx',_,rfl,h1,rfl,_,rfl,g,xs,_,rfl,hH4,hG.hi,hm.1,hm.2,λr H5 hr' g5 l5=>⟨_,g5 _ _ lL,?_,λc o e => ?_,vs++[r],?_,?_,?_,?_⟩⟩
  ·rw [yAB]
   have : 1000 < sizeLine:=by decide
   lia
  ·rw [zA6 (zA5 e hL)]; exact (g4.trans g5) _ _ e
  ·rw [zA2,yAU]; rfl
  ·rw [yAX,lz]; rfl
  ·intro v hv
   rcases yAa.mp hv with z | z
   ·exact nw v z
   ·rw [yAF.mp z]
    exact ⟨g4.free hr',λe=>by rw [e,lL] at hr'; cases hr'⟩
  ·intro j v m hj hmj
   rcases yBo j i with c | c
   ·rw [yBR (by lia)] at hj
    rw [zA6 (nw v (yAm hj)).2];exact g5 _ _ (rw' j v m hj hmj)
   ·have ej : j = i := by
     have:=(yAI.mp hj).1
     rw [yAX] at this
     simp at this
     lia
    subst ej;rw [yBP (by lia),lz,yDp] at hj
    cases hj
    rw [yAA hi] at hmj
    cases hmj
    rw [zA6 (λe=>by rw [e,lL] at hr'; cases hr')];exact l5
 ·obtain ⟨g4, vs, lL, lz, nw, rw'⟩ := hP
  have il : (IV (zAK tf (2 ^ xs.length))).length = (zAK tf (2 ^ xs.length)).length:=by unfold IV; rw [yAB]
  intro p dx hp hdx ne';have s4:=(s2.trans g3).trans g4;refine zMO (b:=p) (H0:=H3) hG are ok h64 (.lst (s4 _ _ hnm)) (.lst lL) ⟨by rw [lz,il],λv hv=>(nw v hv).1,λj v m a b=>⟨_,.lst (rw' j v m a b),List.Perm.refl _⟩⟩ hp hdx λH6 zs g6 hS6 pz O=>⟨rfl,?_⟩;exact q p H6 zs (s4.free hp) (s4.trans g6) hS6 pz O
theorem zZ8 : ∀ {xs ys : List V}, Strs xs -> Strs ys -> PyData.eqvAll (dS xs) (dS ys) = decide (xs = ys)
 | [],[],_,_=>by rw [yAM rfl]; rfl
 | [],_::_,_,_=>by rw [yAG (λh=>nomatch h)]; rfl
 | _::_,[],_,_=>by rw [yAG (λh=>nomatch h)]; rfl
 | v::r,u::q,hx,hy=>by
  show ((zAV v == zAV u)&&PyData.eqvAll (dS r) (dS q)) = _;rw [zZ8 (λw hw=>hx w (yAO _ hw)) (λw hw=>hy w (yAO _ hw)),yAg,yAd,yAc,yAL,yAL];have h1:=(hx v (yAR ..)).1;have h2:=(hy u (yAR ..)).1
  constructor
  ·rintro ⟨a, b⟩
   rw [h1,h2,a,b]
  ·intro h
   injection h with a b
   exact ⟨by rw [a],b⟩
theorem zPG {K : PySem.W.Frag} {neg : Bool} {a b : Addr} {xs ys : List V} {H : Hp} {Q : VK} (hx : Strs xs) (hy : Strs ys) (ha : H a = some (.lst xs)) (hb : H b = some (.lst ys)) (h : Q (.bl (if neg then !decide (xs = ys) else decide (xs = ys))) H) : za6 K neg (.ref a) (.ref b) H Q := by
 refine ⟨.list (dS xs),.list (dS ys),.lst (SqL.of ha) (zK9 hx),.lst (SqL.of hb) (zK9 hy),zI4 hx,zI4 hy,?_,?_⟩
 ·have := zGN xs
  simp only [PyData.depth];lia
 ·have e : PyData.eqv (.list (dS xs)) (.list (dS ys)) = decide (xs = ys) := zZ8 hx hy
  rw [e]; exact h
noncomputable def hoL : Option HO -> Option (List V)
 | some (.lst xs)=>some xs
 | _=>none
noncomputable def zCX (H : Hp) : V -> Option (List V)
 | .ref a=>hoL (H a)
 | _=>none
theorem zJ0 {K : PySem.W.Frag} (k : Kit2 K) {H : Hp} {x : V} {r : Option (List V)} (h : Row H x r) : ∃ t, TyOf K H x t /\ PySem.W.kitOne K t (.type "list") = some (zCX H x).isSome := by
 cases h with
 | lst h=>exact ⟨_,.lst h,by show _ = some (hoL (H _)).isSome; rw [h]; rfl⟩
 | tup h=>exact ⟨_,.tup h,by show _ = some (hoL (H _)).isSome; rw [h]; exact k.l_tup⟩
 | dK h=>exact ⟨_,.dK h,by show _ = some (hoL (H _)).isSome; rw [h]; exact k.l_dict⟩
 | non=>exact ⟨_,.non,k.l_non⟩
 | bl b=>exact ⟨_,.bl b,k.l_bool⟩
 | int i=>exact ⟨_,.int i,k.l_int⟩
 | str z=>exact ⟨_,.str z,k.l_str⟩
theorem zER {H : Hp} {x : V} {ys : List V} (h : zCX H x = some ys) : ∃ a, x = .ref a /\ H a = some (.lst ys) := by
 cases x with
 | ref a =>
  refine ⟨a,rfl,?_⟩;have h : hoL (H a) = some ys:=h
  cases e : H a with
  | none=>rw [e] at h; cases h
  | some o =>
   rw [e] at h
   cases o with
   | lst xs=>cases (show some xs = some ys from h); rfl
   | _=>cases h
 | _=>cases h
theorem zRN {m j : Nat} (h : m.testBit j = false) : m ||| 2 ^ j = m + 2 ^ j := by
 have hb : m % 2 ^ j < 2 ^ j:=Nat.mod_lt _ (Nat.two_pow_pos j)
 have e0 : m / 2 ^ j % 2 = 0 := by
  rw [yBk] at h
  have:=yBU h
  lia
 have em : m = 2 ^ (j + 1) * (m / 2 ^ j / 2) + m % 2 ^ j := by
  have h1:=Nat.div_add_mod m (2 ^ j);have h2:=Nat.div_add_mod (m / 2 ^ j) 2;rw [e0,Nat.add_zero] at h2;rw [Nat.pow_succ,Nat.mul_assoc,h2];exact h1.symm
 generalize m / 2 ^ j / 2 = a at em;generalize m % 2 ^ j = b at em hb;have p : 2 ^ (j + 1) = 2 ^ j * 2:=Nat.pow_succ ..;have o1 : 2 ^ (j + 1) * a + b = 2 ^ (j + 1) * a ||| b:=Nat.two_pow_add_eq_or_of_lt (by lia) a;have o2 : 2 ^ j * 1 + b = 2 ^ j * 1 ||| b:=Nat.two_pow_add_eq_or_of_lt hb 1;have o3 : 2 ^ (j + 1) * a + (2 ^ j * 1 + b) = 2 ^ (j + 1) * a ||| (2 ^ j * 1 + b):=Nat.two_pow_add_eq_or_of_lt (by lia) a;rw [em];have e3 : 2 ^ (j + 1) * a + b + 2 ^ j = 2 ^ (j + 1) * a + (2 ^ j * 1 + b):=by lia
 rw [e3,o3,o2,o1,Nat.or_assoc,Nat.mul_one,Nat.or_comm b]
theorem zYZ {m i n : Nat} (hm : m < 2 ^ n) (hi : i < n) (tb : ¬ m.testBit i = true) : m + 2 ^ i < 2 ^ n := by
 rw [<- zRN (by simpa using tb)];exact Nat.or_lt_two_pow hm (Nat.pow_lt_pow_right (by decide) hi)
theorem zLJ {xs : List V} : ∀ (ys : List V) (m m' : Nat), zBX xs ys m = .told m' -> m < 2 ^ xs.length -> m' < 2 ^ xs.length /\ ∀ y ∈ ys, y ∈ xs
 | [],m,m',h,hm=>by cases h; exact ⟨hm,λy hy=>nomatch hy⟩
 | y::ys,m,m',h,hm=>by
  cases e : zAJ xs y with
  | none =>
   exfalso
   have : zBX xs (y :: ys) m = .house y := by
    show (match zAJ xs y with | none=>_ | some i=>_) = _;rw [e]
   rw [this] at h
   cases h
  | some i =>
   have wv : zBX xs (y :: ys) m = if m.testBit i = true then .twice y else zBX xs ys (m + 2 ^ i) := by
    show (match zAJ xs y with | none=>_ | some i=>_) = _;rw [e]
   rw [wv] at h
   by_cases tb : m.testBit i = true
   ·rw [yAQ tb] at h; cases h
   ·rw [yAN tb] at h
    have il : i < xs.length:=(yAI.mp (zAZ e)).1;obtain ⟨a,b⟩:=zLJ ys _ _ h (zYZ hm il tb);refine ⟨a,λz hz => ?_⟩
    rcases yAb.mp hz with rfl | hz
    ·exact yAm (zAZ e)
    ·exact b z hz
noncomputable def zDI (xs ys : List V) : V := match zBX xs ys 0 with
 | .told m=>if setV xs (m : Nat) = ys then .int (m : Nat) else .non
 | _ => .non
noncomputable def zHN (xs : List V) : Option (List V) -> V
 | none => .non
 | some ys=>zDI xs ys
noncomputable def zPT (C : Addr) : Sp:=λvs H Q _=>∃ g x xs r,vs = [.ref g,x]/\HousesAt C H g xs/\GN xs/\Row H x r/\(∀ ys,zCX H x = some ys -> ∀ v∈ys,Th H v)/\∀ H',Same H H' -> Q (zHN xs (zCX H x)) H'
theorem scToldX : FnScope ["houses","thing","mask"] ["houses","thing"] (zA7 zGA):=by trivial
set_option maxHeartbeats 1000000 in
theorem zSW {f a1 a2 C Ch Cs Ct : Addr} {fd d1 d2 : FuncData} (F : Fun K "told_mask" "told_mask" zGA f fd) (T : Txt mg) (k : Kit2 K) (cl : Cls K C) (M1 : Meth K C "mask" a1) (O1 : FnOk P w K mg base (CXE P w) 5 a1 d1 ["self", "names"] (zOG C Ch Cs Ct)) (b1 : Binds K d1 ["self", "names"] [])
  (M2 : Meth K C "set_of" a2) (O2 : FnOk P w K mg base CX0 3 a2 d2 ["self","mask"] (zHC C)) (b2 : Binds K d2 ["self","mask"] []) (mh : mg "NoHouse" = some (.ref Ch)) (mt : mg "Twice" = some (.ref Ct))
  (xh : PySem.W.exmAny K (.ref Ch) [.ref Ch,.ref Ct] = some true) (xt : PySem.W.exmAny K (.ref Ct) [.ref Ch,.ref Ct] = some true) : FnOk P w K mg base CX0 7 f fd ["houses","thing"] (zPT C):=by
 refine F.ok scToldX (λvs H Q E h => ?_) (λcdv A outer s H vs Q E hr h => ?_)
 ·obtain ⟨g, x, xs, r, rfl, _⟩ := h
  rfl
 obtain ⟨g,x,xs,r,rfl,hH,hG,hR,hT,q⟩:=h;have hr5 : Room 5 _:=hr.mono (by decide);have hr3 : Room 3 _:=hr.mono (by decide);obtain ⟨gx,_,_,h1,_⟩:=id hH;obtain ⟨t,ty,ek⟩:=zJ0 k hR
 refine ⟨_, zA3 (zB7 (zBI (zBG (zAA zB3 rfl T.inst yAZ (zA0 (pv 1) (zA0 (zAY (v := .ty "list") rfl T.list yBJ rfl) zA1))))) (zA4 (zAB zCA)) zAG)
  (zA3 (zYS rfl rfl (fun pn E => zA4 (zAE (i := 2) scToldX.nd rfl (Or.inl rfl) (zBH (E := E) (pv 0) cl M1 O1 hr5 b1 .nil zb6 (zA0 (pv 1) zA1))))
   (zW9 rfl mh rfl mt (λe=>zA4 (zAB zCA)) zZ4))
  (zA4 (zAB (zU6 (zAM (zH5 hr) (zBH (pv 0) cl M2 O2 hr3 b2 .nil zAD (zA0 (pv 2) zA1)) (pv 1) (zAO _)) (pv 2) zCA)))),?_⟩
 refine ⟨_,rfl,x,t,"list",_,rfl,ty,ek,_,rfl,?_⟩
 cases hb : zCX H x with
 | none =>
  rw [hb] at q;exact zC7 (q H (Same.refl _))
 | some ys =>
  rw [hb] at q;obtain ⟨D,rfl,lD⟩:=zER hb;refine zBP ?_;refine ⟨λcls od H'=>(cls = .ref Ch \/ cls = .ref Ct)/\Same H H'/\zDI xs ys = .non,?_,λC' dx σ' H' hE hl => ?_⟩
  ·refine ⟨_, rfl, g, gx, _, rfl, h1, rfl, _, rfl, g, xs, .ref D, some ys, rfl, hH, hG.str, hG.nd, hG.hi, .lst lD, fun y hy => by cases hy; exact hT ys hb, (fun z => nomatch z), fun y hy => ?_⟩
   cases hy
   cases hw : zBX xs ys 0 with
   | house v=>exact λdx H' g' _ _=>⟨.inl rfl,g',by unfold zDI; rw [hw]⟩
   | twice v=>exact λdx H' g' _ _=>⟨.inr rfl,g',by unfold zDI; rw [hw]⟩
   | told m =>
    intro H1 g1;obtain ⟨lt,mem⟩:=zLJ ys 0 m hw (Nat.two_pow_pos _)
    have lt' : ((m : Nat) : Int) < 2 ^ xs.length := by
     have:=Int.ofNat_lt.mpr lt
     simpa using this
    have e0 : zDI xs ys = if setV xs (m : Nat) = ys then .int (m : Nat) else .non:=by unfold zDI; rw [hw]
    have st:=zFP hG (yCX m) lt';have sy : Strs ys:=λv hv=>hG.strs v (mem v hv);refine ⟨_,rfl,g,gx,_,rfl,g1 _ _ h1,rfl,_,rfl,g,xs,m,rfl,hH.same g1,hG.hi,yCX m,lt',λD2 H2 hD2 g2 l2=>⟨_,rfl,zPG st sy l2 (g2 _ _ (g1 _ _ lD)) ⟨_,rfl,?_⟩⟩⟩;rw [yAN (by simp : ¬ false = true)];have qq:=q H2 (g1.trans g2)
    by_cases e : setV xs (m : Nat) = ys
    ·rw [yAM e]
     refine zC7 ⟨_,rfl,?_⟩;have e1 : zHN xs (some ys) = .int (m : Nat):=by show zDI xs ys = _; rw [e0,yAQ e]
     rw [e1] at qq;exact qq
    ·rw [yAG e]
     refine zBP ?_;have e1 : zHN xs (some ys) = .non:=by show zDI xs ys = _; rw [e0,yAN e]
     rw [e1] at qq;exact qq
  ·obtain ⟨hc, g1, e0⟩ := hE
   have e1 : zHN xs (some ys) = .non:=e0;rw [e1] at q;refine ⟨true,?_,?_⟩
   ·rcases hc with hc | hc
    ·cases hc; exact xh
    ·cases hc; exact xt
   ·rw [yAQ rfl]
    exact q H' g1
theorem zN3 : FnScope ["self","fallen"] ["self","fallen"] (zA7 zFZ):=by trivial
theorem zKC {f a1 a2 a3 CS C : Addr} {fd d1 d2 d3 : FuncData} (F : Fun K "standing" "System.standing" zFZ f fd) (clS : Cls K CS) (nG : NoAttr K CS "ground") (cl : Cls K C) (M1 : Meth K C "mask" a1) (O1 : FnOk P w K mg base CX0 2 a1 d1 ["self", "names"] (zI7 C)) (b1 : Binds K d1 ["self", "names"] [])
  (M2 : Meth K CS "first_lot" a2) (O2 : FnOk P w K mg base CX0 4 a2 d2 ["self","mask"] (zL1 CS C)) (b2 : Binds K d2 ["self","mask"] []) (D3 : Def P w K mg base 2 "all_of" ["houses"] (zK1 C) a3 d3) :
  FnOk P w K mg base CX0 5 f fd ["self","fallen"] (zGS CS C):=by
 refine F.ok zN3 (λvs H Q E h => ?_) (λcdv A outer s H vs Q E hr h => ?_)
 ·obtain ⟨p, x, xs, ms, m, rfl, _⟩ := h
  rfl
 obtain ⟨p,x,xs,ms,m,rfl,hS,hO,hx,m0,m1,q⟩:=h;obtain ⟨dx,g,t,hp,hH,ht⟩:=id hS;have hr2 : Room 2 _:=hr.mono (by decide);obtain ⟨gx,t',d,h1,h2,h3⟩:=id hH;refine ⟨_,zA4 (zAB (zBH (pv 0) clS M2 O2 hr b2 .nil zAD (zA0 (zAC zQ5 (zA9 D3.ok hr2 rfl D3.m D3.k D3.b .nil zAD (zA0 (zBF (pv 0) rfl) zA1)) (zBH (zBF (pv 0) rfl) cl M1 O1 hr2 b1 .nil zAD (zA0 (pv 1) zA1))) zA1))),?_⟩;refine ⟨_,rfl,p,dx,_,rfl,hp,rfl,_,rfl,p,CS,dx,_,_,rfl,hp,clS,nG,rfl,g,xs,rfl,hH,hO.gn.hi,_,rfl,p,CS,dx,_,_,rfl,hp,clS,nG,rfl,g,gx,_,rfl,h1,rfl,_,rfl,?_⟩;obtain ⟨ys,ix,k1,k2,k3,k4,em⟩:=zJY hx;refine ⟨g,xs,x,ys,ix,rfl,hH,hO.gn.str,hO.gn.nd,hO.gn.hi,k1,k2,k3,k4,λH' g'=>⟨_,m,rfl,(by rw [em]),p,xs,ms,_,rfl,hS.same g',hO,q.mono g'⟩⟩
structure Goods (ls : List (List Nat)) : Prop where
 nd : ls.Nodup
 ok : ∀ l∈ls,zBS (.str (mkS l)) = true
noncomputable abbrev nV (l : List Nat) : V := .str (mkS l)
theorem zTP {ls : List (List Nat)} (h1 : 1 <= ls.length) (h12 : ls.length <= 12) (g : Goods ls) : zJO (some (ls.map nV)) = true := by
 have e : ls.map nV = (List.range ls.length).map fun k => V.str (mkS (ls.getD k [])) := by
  refine List.ext_getElem (by simp) λi h _ => ?_;rw [yAB] at h;rw [List.getElem_map,List.getElem_map,List.getElem_range,yAo,yAA h];rfl
 rw [e];have eg : ∀ {k : Nat} (h : k < ls.length),ls.getD k [] = ls[k]:=λh=>by rw [yAo,yAA h]; rfl
 refine zZR (λk=>ls.getD k []) h1 h12 (λk hk => ?_) (λj k hjk hk z => ?_)
 ·rw [eg hk]
  exact g.ok _ (yAn hk)
 ·rw [eg hk, eg (by lia)] at z
  have:=(yCB g.nd).mp z
  lia
theorem Goods.perm {ls ks : List (List Nat)} (g : Goods ls) (p : ks.Perm ls) : Goods ks:=⟨p.nodup_iff.mpr g.nd,λl hl=>g.ok l (p.mem_iff.mp hl)⟩
theorem Goods.take {ls : List (List Nat)} (g : Goods ls) (n : Nat) : Goods (ls.take n):=⟨g.nd.sublist (yDc n ls),λl hl=>g.ok l (List.mem_of_mem_take hl)⟩
theorem zU2 {ls : List (List Nat)} (g : Goods ls) : ∀ v ∈ ls.map nV, Plain v := fun v hv => by
 obtain ⟨l,hl,rfl⟩:=yAs.mp hv;exact ⟨.str (mkS l),λ_ _ => .str _,zM3 (g.ok l hl),by simp [PyData.depth]⟩
noncomputable def WORDS : List Str:=["lots","many","grid","wall","tree","put","reads","none","all","falls","stand","write"]
noncomputable def ZEDS : List Str:=["z","zz","zzz","zzzz","zzzzz","zzzzzz","y","yz","zy","zyx","yy","yyy"]
noncomputable def SIGNS : Str:="bkpqsuvwxyzm"
noncomputable def TENS : List Nat:=("abcdefghij" : Str).cps.toList
theorem zON : ∀ z∈WORDS,zBS (.str (mkS (z.cps.toList++[113]))) = true:=by decide +kernel
theorem zRH : (WORDS.map λz=>z.cps.toList++[113]).Nodup:=by decide +kernel
theorem zX6 : ∀ z∈ZEDS,zBS (.str (mkS z.cps.toList)) = true:=by decide +kernel
theorem zVT : (ZEDS.map λz=>z.cps.toList).Nodup:=by decide +kernel
theorem zU7 : ∀ c∈TENS,c∈zc3:=by decide +kernel
theorem zR0 : ∀ c∈SIGNS.cps.toList,c∈zc3:=by decide +kernel
theorem signs_nd : SIGNS.cps.toList.Nodup:=by decide +kernel
theorem zVU : ∀ z∈OWN,∃ c∈z.cps.toList,c∉TENS/\c∉SIGNS.cps.toList:=by decide +kernel
noncomputable def zK4 (bs : List Nat) (at' : Nat) (c : Nat) : List Nat:=bs.take at'++[c]++bs.drop at'
theorem zYX : Goods (WORDS.map fun z => z.cps.toList ++ [113]) := ⟨zRH, fun l hl => by
 obtain ⟨z,hz,rfl⟩:=yAs.mp hl;exact zON z hz⟩
theorem zZH : Goods (ZEDS.map fun z => z.cps.toList) := ⟨zVT, fun l hl => by
 obtain ⟨z,hz,rfl⟩:=yAs.mp hl;exact zX6 z hz⟩
theorem zZ3 {bs : List Nat} {at' : Nat} (hb : bs.length <= 5) (hc : ∀ c ∈ bs, c ∈ TENS) : Goods (SIGNS.cps.toList.map (zK4 bs at')) := by
 refine ⟨?_,λl hl => ?_⟩
 ·refine yBm.mpr (signs_nd.imp fun h e => h ?_)
  unfold zK4 at e;rw [yAy,yAy] at e
  have:=List.append_cancel_left e
  rw [List.singleton_append,List.singleton_append] at this
  injection this
 ·obtain ⟨c, hc', rfl⟩ := yAs.mp hl
  have hl : (zK4 bs at' c).length = bs.length + 1 := by
   unfold zK4;simp only [yAX,yAp,yDk,yBq]; lia
  have hm : ∀ d ∈ zK4 bs at' c, d = c \/ d ∈ bs := fun d hd => by
   unfold zK4 at hd;simp only [yAa,yAF] at hd
   rcases hd with (z | z) | z
   ·exact .inr (List.mem_of_mem_take z)
   ·exact .inl z
   ·exact .inr (List.mem_of_mem_drop z)
  refine zU8 (by rw [hl]; lia) (by rw [hl]; lia) (λd hd => ?_) (λz hz e => ?_)
  ·rcases hm d hd with rfl | z
   ·exact zR0 _ hc'
   ·exact zU7 _ (hc d z)
  ·obtain ⟨d, hd, n1, n2⟩ := zVU z hz
   rw [e] at hd
   rcases hm d hd with rfl | w
   ·exact n2 hc'
   ·exact n1 (hc d w)
theorem zZV (ls : List (List Nat)) : ls.length = 12 -> (ls.map nV).length <= 1000:=λh=>by rw [yAB]; lia
theorem zXK (xs : List V) {k : Int} (h0 : 0 <= k) (h1 : k <= (xs.length : Int)) : zQ3 xs none (some k) = xs.take k.toNat := by
 unfold zQ3;have e1 : HT.sIx xs.length 0 none = 0:=rfl
 have e2 : HT.sIx xs.length xs.length (some k) = k.toNat := by
  unfold HT.sIx;show (if k < 0 then (k + (xs.length : Int)).toNat else min k.toNat xs.length) = k.toNat;rw [yAN (by lia)];lia
 rw [e1,e2,List.drop_zero,Nat.sub_zero]
noncomputable def zLF (H : Hp) (a : Addr) : Prop:=∃ ls,H a = some (.lst (ls.map nV))/\ls.length = 12/\Goods ls
noncomputable def zM2 : Sp:=λvs H Q _=>∃ b n,vs = [.ref b,.int ((n : Nat) : Int)]/\1 <= n/\n <= 12/\BoxAt H b/\∀ D H' xs,H D = none -> H' D = some (.lst xs) -> xs.length = n -> zJO (some xs) = true -> BoxAt H' b -> Away b H H' -> Q (.ref D) H'
theorem scLNames : FnScope ["_law_box_here","_law_many","_law_words","_law_some","_law_way","_law_base","_law_at"] ["_law_box_here","_law_many"] (zA7 zK8):=by trivial
set_option maxHeartbeats 4000000 in
theorem zQO {f a1 a2 : Addr} {fd d1 d2 : FuncData} (F : Fun K "_law_names" "_law_names" zK8 f fd) (T : Txt mg) (D1 : Def P w K mg base 1 "_law_take" ["_law_box_here", "_law_many"] zD7 a1 d1) (D2 : Def P w K mg base 2 "_law_mixed" ["_law_box_here", "_law_some"] zFD a2 d2) : FnOk P w K mg base CX0 3 f fd ["_law_box_here", "_law_many"] zM2 := by
 refine F.okH scLNames (λvs H Q E h => ?_) (λcdv A outer s H vs Q E hr h => ?_)
 ·obtain ⟨b, n, rfl, _⟩ := h
  rfl
 obtain ⟨b,n,rfl,n1,n12,hb,q⟩:=h;have hr1 : Room 1 _:=hr.mono (by decide)
 refine ⟨_, zM5 (i := 2) rfl scLNames.nd rfl (Or.inl rfl) (zFC (WORDS.map V.str))
  (zA3 (zLX (i:=3) (xs:=["_law_word"]) (fv:=[]) scLNames.nd rfl rfl rfl (by decide +kernel) trivial (zC5 (pv 2)) (λ_ _ _ _ _=>zAH (i:=0) (ndT (by decide +kernel)) rfl (Or.inl rfl)) (λ_ _ _ _ _=>zBU) (λ_ _ _ _ _=>zAC zEC (pv 0) zBB))
  (zA3 (zAE (i:=4) scLNames.nd rfl (Or.inl rfl) (zA9 D1.ok hr1 rfl D1.m D1.k D1.b .nil zAD (zA0 (pv 0) (zA0 zA8 zA1))))
  (zA3 (zYV (zAM zF3 (pv 4) zA8 (zAO _)) (zM5 (i:=3) rfl scLNames.nd rfl (Or.inl rfl) (zFC (ZEDS.map V.str)) zAG) zAG)
  (zA3 (zB7 (zAM zF3 (pv 4) zA8 (zAO _))
   (zA3 (zAE (i := 5) scLNames.nd rfl (Or.inr rfl) (zGI PySem.F.plainAttrs_str PySem.F.slot_str_join PySem.F.type_str_join zSL zBB (zA0 (zBK (xs := ["_law_k"]) (fv := [("_law_box_here", 0)]) rfl (by decide +kernel) ⟨⟨rfl, Or.inl rfl, rfl⟩, trivial⟩ (zC0 rfl T.range (zA0 (zA9 D1.ok hr1 rfl D1.m D1.k D1.b .nil zAD (zA0 (pv 0) (zA0 zA8 zA1))) zA1)) (fun _ _ _ _ _ => zAH (i := 0) (ndT (by decide +kernel)) rfl (Or.inl rfl)) (fun _ _ _ _ _ => zBU)
     (λ_ _ _ _ _=>zBQ zYT zBB (zA9 D1.ok hr1 rfl D1.m D1.k D1.b .nil zAD (zA0 (pv 1) (zA0 zA8 zA1))) (λ_ _=>rfl))) zA1)))
   (zA3 (zAE (i:=6) scLNames.nd rfl (Or.inr rfl) (zA9 D1.ok hr1 rfl D1.m D1.k D1.b .nil zAD (zA0 (pv 0) (zA0 (zAC zBV (zAA zEU rfl T.len yBC (zA0 (pv 5) zA1)) zA8) zA1))))
   (zA4 (zLX (i := 3) (xs := ["_law_sign"]) (fv := [("_law_at", 6), ("_law_base", 5)]) scLNames.nd rfl rfl rfl (by decide +kernel) ⟨⟨rfl, Or.inl rfl, rfl⟩, ⟨rfl, Or.inl rfl, rfl⟩, trivial⟩ (zV1 zBB) (fun _ _ _ _ _ => zAH (i := 0) (ndT (by decide +kernel)) rfl (Or.inl rfl)) (fun _ _ _ _ _ => zBU)
    (λ_ _ _ _ _=>zAC zEC (zAC zEC (zAU zUX (pv 2) zB2 (zB5 (pv 1))) (pv 0)) (zAU zUX (pv 2) (zB5 (pv 1)) zB2)))))) zAG)
  (zA4 (zAB (zAU zBD (zA9 D2.ok hr rfl D2.m D2.k D2.b .nil zAD (zA0 (pv 0) (zA0 (pv 3) zA1))) zB2 (zB5 (pv 1))))))))),?_⟩
 have s1 : 100000 <= sizeLine:=by decide
 refine ⟨(by show 12 <= sizeLine; decide),λl hl => ?_⟩;have b0:=hb.same (same_new hl (.lst (WORDS.map V.str)));have a0 : Away b H (upd H l (.lst (WORDS.map V.str))):=zAN (same_new hl _);have l0 : (upd H l (.lst (WORDS.map V.str))) l = some (.lst (WORDS.map V.str)):=zA2;generalize upd H l (.lst (WORDS.map V.str)) = H0 at b0 a0 l0 ⊢;refine ⟨_,rfl,l,rfl,?_⟩;refine zCR (K:=K) (ys:=WORDS.map V.str) (.inl (SqL.of l0)) (λi D H'=>Same H0 H'/\H' D = some (.lst (((WORDS.take i).map λz=>z.cps.toList++[113]).map nV))) (λD hD=>⟨same_new hD _,zA2⟩) (λi D H' hD hP=>hP.1.at1 l) (λi D H' x hD hi hx hP => ?_) (λD H1 hD hP => ?_)
 ·obtain ⟨g, hl'⟩ := hP
  rw [yAB] at hi;rw [yAe,yAA hi] at hx
  cases hx
  have w12 : WORDS.length = 12:=rfl;have len6 : ∀ z∈WORDS,z.length <= 5:=by decide +kernel
  have h5:=len6 _ (yAn hi);refine ⟨rfl,?_⟩;unfold zJP
  (try dsimp only)
  rw [yAQ rfl];refine ⟨_,rfl,WORDS[i],mkS [113],rfl,rfl,(by show WORDS[i].length + 1 <= sizeLine; lia),?_⟩
  have em : WORDS[i] ++ mkS [113] = mkS (WORDS[i].cps.toList ++ [113]) := by
   conv=>lhs; rw [<- zYQ WORDS[i]]
   rw [zKF]
  rw [em];refine ⟨_,hl',?_,λb o e => ?_,?_⟩
  ·rw [yAB,yAB,yAp]; lia
  ·rw [zA6 (zA5 e hD)]; exact g _ _ e
  ·rw [zA2,yBF,yAA hi,yAU,yAU]; rfl
 ·obtain ⟨g, hl'⟩ := hP
  have tw : zLF H1 D:=⟨_,hl',rfl,zYX⟩;have b1:=b0.same g;have a1 : Away b H H1:=a0.trans (zAN g);clear hl' g l0 a0 b0 hD;refine ⟨_,rfl,b,3,rfl,by decide,by decide,b1,λway H2 w0 w1 b2 t2 => ?_⟩;have a2:=a1.trans t2.away
  have Db : D ≠ b := fun z => by
   obtain ⟨ls,e1,_,_⟩:=tw;obtain ⟨d,s,c,e2,_⟩:=b1;rw [z,e2] at e1
   cases ls with
   | nil=>cases e1
   | cons=>cases e1
  have tw : zLF H2 D:=let ⟨ls,x,y⟩:=tw; ⟨ls,(t2 D Db).trans x,y⟩;clear t2 b1 a1;refine ⟨_,rfl,rfl,_,rfl,?_⟩;refine zGV (λe => ?A) (λe => ?B)
  case' A =>
   refine ⟨(by show 12 <= sizeLine; decide),λs3 hs3 => ?_⟩;have b3:=b2.same (same_new hs3 (.lst (ZEDS.map V.str)));have a3 : Away b H (upd H2 s3 (.lst (ZEDS.map V.str))):=a2.trans (zAN (same_new hs3 _));have tw3 : zLF (upd H2 s3 (.lst (ZEDS.map V.str))) s3:=⟨ZEDS.map λz=>z.cps.toList,zA2,rfl,zZH⟩;clear tw;generalize upd H2 s3 (.lst (ZEDS.map V.str)) = H3 at b3 a3 tw3 ⊢
  case' B =>
   have b3:=b2;have a3:=a2;have tw3:=tw;clear b2 a2 tw Db;generalize D = s3 at tw3 ⊢;generalize H2 = H3 at b3 a3 tw3 ⊢
  all_goals
   refine ⟨_,rfl,rfl,_,rfl,?_⟩;refine zGV (λc => ?_) (λc => ?_)
   case' refine_1 =>
    refine ⟨rfl,_,rfl,b,6,rfl,by decide,by decide,b3,λm H4 m0 m1 b4 t4=>⟨m,rfl,by lia,by lia,?_⟩⟩;have a4:=a3.trans t4.away;clear tw3 t4 a3 b3;have lC : (("abcdefghij" : Str)).length = 10:=by decide +kernel
    refine zNT (λi D H'=>∃ cs : List Nat,Away b H H'/\BoxAt H' b/\D≠b/\H' D = some (.lst (cs.map λc=>V.str ⟨#[c]⟩))/\cs.length = i/\∀ c∈cs,c∈TENS) (λD hD => ?_) (λi D H' hD hi hP => ?_) (λD H' hD hP => ?_)
    ·exact ⟨[],a4.trans (zAN (same_new hD _)),b4.same (same_new hD _),(b4.ne hD).symm,zA2,rfl,λ_ h=>nomatch h⟩
    ·obtain ⟨cs, a5, b5, nb, l5, hl5, ho⟩ := hP
     refine ⟨rfl,?_⟩;unfold zJP
     (try dsimp only)
     rw [yAQ rfl];refine ⟨_,rfl,b,10,rfl,by decide,by decide,b5,λr H6 r0 r1 b6 t6 => ?_⟩
     have hk : r.toNat < TENS.length := by
      have : TENS.length = 10:=by decide +kernel
      lia
     have hc : atI (("abcdefghij" : Str)).cps.toList r = some TENS[r.toNat] := by
      have q : atI TENS ((r.toNat : Nat) : Int) = some TENS[r.toNat]:=zFT (yAA hk);rw [show ((r.toNat : Nat) : Int) = r by lia] at q;exact q
     have hDn : H D = none:=a4.free b4 hD;refine ⟨_,_,_,rfl,rfl,by rw [lC]; lia,hc,_,(t6 D nb).trans l5,by rw [yAB]; lia,cs++[TENS[r.toNat]],λc' o e n => ?_,b6.same2 (b6.ne2 nb.symm),nb,by rw [zA2,yAU]; rfl,by rw [yAX,hl5]; rfl,λy hy => ?_⟩
     ·rw [zA6 (zA5 e hDn)]
      exact (a5.trans t6.away) c' o e n
     ·rcases yAa.mp hy with zz | zz
      ·exact ho y zz
      ·rw [yAF.mp zz]; exact yAn _
    obtain ⟨cs,a5,b5,nb,l5,hl5,ho⟩:=hP;have hcs : cs.length <= 5:=by lia
    refine ⟨D,cs,rfl,rfl,SqL.of l5,by lia,?_⟩;refine ⟨_,rfl,_,rfl,mkS cs,rfl,by rw [zCB]; lia,_,_,rfl,rfl,b,_,rfl,by lia,by rw [zCB]; lia,b5,λat' H6 at0 at1 b6 t6 => ?_⟩;rw [zCB] at at1;have a6:=a5.trans t6.away;clear t6 a5 b5 l5 a4 b4 hD;refine ⟨SIGNS,rfl,?_⟩;refine zLC (z:=SIGNS) (λi D H'=>Same H6 H'/\H' D = some (.lst (((SIGNS.cps.toList.take i).map (zK4 cs at'.toNat)).map nV))) (λD hD=>⟨same_new hD _,zA2⟩) (λi D H' c hD hc hP => ?_) (λs7 H7 hs7 hP => ?_)
    ·obtain ⟨g, hl'⟩ := hP
     refine ⟨rfl,?_⟩;unfold zJP
     (try dsimp only)
     rw [yAQ rfl];have e1 : Txt.slice (mkS cs) none (some at') = mkS (cs.take at'.toNat):=zT1 at0 (by lia);have e2 : Txt.slice (mkS cs) (some at') none = mkS (cs.drop at'.toNat):=zNB at0 (by lia);have z1 : (cs.take at'.toNat).length <= 5:=by rw [yAp]; lia
     have z2 : (cs.drop at'.toNat).length <= 5:=by rw [yDk]; lia
     refine ⟨_,rfl,_,rfl,_,rfl,mkS cs,rfl,by rw [zCB]; lia,?_⟩;rw [e1];refine ⟨_,rfl,_,mkS [c],rfl,rfl,by rw [zCB,zCB]; simp only [yBq]; lia,?_⟩;rw [zKF];refine ⟨_,rfl,_,rfl,_,rfl,mkS cs,rfl,by rw [zCB]; lia,?_⟩;rw [e2];refine ⟨_,_,rfl,rfl,by rw [zCB,zCB,yAX,yBq]; lia,?_⟩;rw [zKF]
     have hi : i < SIGNS.cps.toList.length := by
      have:=(yBD.mp hc).1
      rw [yBI]; exact this
     have hic : SIGNS.cps.toList[i]? = some c:=by rw [yBN]; exact hc
     have h12 : SIGNS.cps.toList.length = 12:=by decide +kernel
     refine ⟨_,hl',?_,λb o e => ?_,?_⟩
     ·rw [yAB,yAB,yAp]; lia
     ·rw [zA6 (zA5 e hD)]; exact g _ _ e
     ·rw [zA2,yBF,hic,yAU,yAU]; rfl
    obtain ⟨g7,l7⟩:=hP;rw [show SIGNS.cps.toList.take SIGNS.cps.size = SIGNS.cps.toList by decide +kernel] at l7;have tw7 : zLF H7 s7:=⟨_,l7,by rw [yAB]; decide +kernel,zZ3 hcs ho⟩;have b7:=b6.same g7;have a7:=a6.trans (zAN g7);clear l7 g7 b6 a6 hs7
   case' refine_2 =>
    have b7:=b3;have a7:=a3;have tw7:=tw3;clear b3 a3 tw3;generalize s3 = s7 at tw7 ⊢;generalize H3 = H7 at b7 a7 tw7 ⊢
   all_goals
    obtain ⟨ls,l7,h12,gd⟩:=tw7;refine ⟨_,rfl,_,rfl,b,s7,ls.map nV,rfl,b7,l7,zZV ls h12,zU2 gd,λD8 H8 ys hD8 l8 pm b8 a8 => ?_⟩;obtain ⟨ks,pk,rfl⟩:=zLV pm ls rfl;have kl : ks.length = 12:=by rw [pk.length_eq]; exact h12
    refine ⟨_,rfl,_,rfl,D8,_,rfl,SqL.of l8,λp hp => ?_⟩
    have ec : zQ3 (ks.map nV) none (some ((n : Nat) : Int)) = (ks.take n).map nV := by
     rw [zXK _ (by lia) (by rw [yAB]; lia),yAf,List.map_take]
    rw [ec];have tl : (ks.take n).length = n:=by rw [yAp]; lia
    exact q p _ _ ((a7.trans a8).free b8 hp) zA2 (by rw [yAB]; exact tl) (zTP (by lia) (by lia) ((gd.perm pk).take n)) (b8.same (same_new hp _)) ((a7.trans a8).trans (zAN (same_new hp _)))
noncomputable def hoT : Option HO -> Option (List V)
 | some (.tup xs)=>some xs
 | _=>none
noncomputable def zLY (H : Hp) : V -> Option (List V)
 | .ref a=>hoT (H a)
 | _=>none
theorem zM7 {K : PySem.W.Frag} (k : Kit2 K) {H : Hp} {x : V} {r : Option (List V)} (h : Row H x r) : ∃ t, TyOf K H x t /\ PySem.W.kitOne K t (.type "tuple") = some (zLY H x).isSome := by
 cases h with
 | lst h=>exact ⟨_,.lst h,by show _ = some (hoT (H _)).isSome; rw [h]; exact k.t_list⟩
 | tup h=>exact ⟨_,.tup h,by show _ = some (hoT (H _)).isSome; rw [h]; rfl⟩
 | dK h=>exact ⟨_,.dK h,by show _ = some (hoT (H _)).isSome; rw [h]; exact k.t_dict⟩
 | non=>exact ⟨_,.non,k.t_non⟩
 | bl b=>exact ⟨_,.bl b,k.t_bool⟩
 | int i=>exact ⟨_,.int i,k.t_int⟩
 | str z=>exact ⟨_,.str z,k.t_str⟩
theorem zG4 {H : Hp} {x : V} {ys : List V} (h : zLY H x = some ys) : ∃ a, x = .ref a /\ H a = some (.tup ys) := by
 cases x with
 | ref a =>
  refine ⟨a,rfl,?_⟩;have h : hoT (H a) = some ys:=h
  cases e : H a with
  | none=>rw [e] at h; cases h
  | some o =>
   rw [e] at h
   cases o with
   | tup xs=>cases (show some xs = some ys from h); rfl
   | _=>cases h
 | _=>cases h
theorem zD9 {H H' : Hp} (g : Same H H') {x : V} {r : Option (List V)} (h : Row H x r) : zCX H' x = zCX H x := by
 cases h with
 | lst h=>show hoL (H' _) = hoL (H _); rw [h,g _ _ h]
 | tup h=>show hoL (H' _) = hoL (H _); rw [h,g _ _ h]
 | dK h=>show hoL (H' _) = hoL (H _); rw [h,g _ _ h]
 | _=>rfl
noncomputable def zD6 (ms : List Int) (m : Int) (d : PyData) : V -> Bool
 | .int l=>if PyData.eqv d (.str "stands") = true then inV (.int l) (IV ms)&&decide (V.int (Builtin.bitAnd l m) = V.int 0) else PyData.eqv d (.str "falls")&&decide (V.int (Builtin.bitAnd l m) = V.int l)&&ms.all λo=>decide (0 < Builtin.bitAnd l o)
 | _=>false
noncomputable def ShW (K : PySem.W.Frag) (H : Hp) (xs : List V) (ms : List Int) (m : Int) (y : V) (u : Bool) : Prop := match zLY H y with
 | none=>u = false
 | some vs=>(vs.length≠2/\u = false) \/ ∃ a b rb d,vs = [a,b]/\Row H b rb/\(∀ ys,zCX H b = some ys -> ∀ v∈ys,Th H v)/\DV K H a d/\d.canLay0 = true/\d.depth <= 100/\u = zD6 ms m d (zHN xs (zCX H b))
noncomputable def zLH (K : PySem.W.Frag) (CS C : Addr) : Sp:=λvs H Q _=>∃ p x y xs ms m r u,vs = [.ref p,x,y]/\SysAt CS C H p xs ms/\Ord xs ms/\SetAt H x xs m/\0 <= m/\m < 2 ^ xs.length/\Row H y r/\ShW K H xs ms m y u/\∀ H',Same H H' -> Q (.bl u) H'
theorem scShowsX : FnScope ["system","fallen","thing","down","mask"] ["system","fallen","thing"] (zA7 zJV):=by trivial
theorem zRR (ms : List Int) : (IV ms).all zDW = true := by
 rw [yAu]; intro v hv;obtain ⟨i,_,rfl⟩:=yAs.mp hv;rfl
theorem zDS (xs : List V) (r : Option (List V)) : zHN xs r = .non \/ ∃ l : Nat, zHN xs r = .int (l : Nat) := by
 cases r with
 | none=>exact .inl rfl
 | some ys =>
  show zDI xs ys = _ \/ ∃ l : Nat,zDI xs ys = _;unfold zDI
  split
  ·split
   ·exact .inr ⟨_,rfl⟩
   ·exact .inl rfl
  ·exact .inl rfl
set_option maxHeartbeats 2000000 in
theorem zP8 {f a1 a2 CS C : Addr} {fd d1 d2 : FuncData} (F : Fun K "shows_settled" "shows_settled" zJV f fd) (T : Txt mg) (mt : mg "tuple" = none) (k : Kit2 K) (clS : Cls K CS) (nG : NoAttr K CS "ground") (nM : NoAttr K CS "masks") (cl : Cls K C) (M1 : Meth K C "mask" a1) (O1 : FnOk P w K mg base CX0 2 a1 d1 ["self", "names"] (zI7 C)) (b1 : Binds K d1 ["self", "names"] [])
  (D2 : Def P w K mg base 7 "told_mask" ["houses","thing"] (zPT C) a2 d2) : FnOk P w K mg base CX0 8 f fd ["system","fallen","thing"] (zLH K CS C):=by
 refine F.ok scShowsX (λvs H Q E h => ?_) (λcdv A outer s H vs Q E hr h => ?_)
 ·obtain ⟨p, x, y, xs, ms, m, r, u, rfl, _⟩ := h
  rfl
 obtain ⟨p,x,y,xs,ms,m,r,u,rfl,hS,hO,hx,m0,m1,hR,hW,q⟩:=h;have hG:=hO.gn;have hr2 : Room 2 _:=hr.mono (by decide);obtain ⟨dx,g,tt,hp,hH,hm⟩:=id hS;obtain ⟨gx,_,_,h1,_⟩:=id hH;obtain ⟨ty,tyo,ek⟩:=zM7 k hR
 refine ⟨_, zA3 (zAE (i := 3) scShowsX.nd rfl (Or.inl rfl) (zBH (zBF (pv 0) rfl) cl M1 O1 hr2 b1 .nil zAD (zA0 (pv 1) zA1)))
  (zA3 (zB7 (PW.pt (zEA (zBI (zBG (zAA zB3 rfl T.inst yAZ (zA0 (pv 2) (zA0 (zAY (v := .ty "tuple") rfl mt yAv rfl) zA1))))) (zDK (zAM zSH (zAA zAF rfl T.len yBC (zA0 (pv 2) zA1)) zA8 (zAO _))))) (zA4 (zAB zDJ)) zAG)
  (zA3 (zAE (i:=4) scShowsX.nd rfl (Or.inr rfl) (zA9 D2.ok hr rfl D2.m D2.k D2.b .nil zAD (zA0 (zBF (pv 0) rfl) (zA0 (zBQ zF0 (pv 2) zA8 (λ_ _=>rfl)) zA1))))
  (zA3 (zB7 (zAM zUK (pv 4) zCA (zAO _)) (zA4 (zAB zDJ)) zAG)
  (zA3 (zB7 (zAM (zH5 hr) (zBQ zF0 (pv 2) zA8 (λ_ _=>rfl)) zBB (zAO _)) (zA4 (zAB (zDL (zBN zFH (pv 4) (zBF (pv 0) rfl) (by rfl)) (zEW (zBN zF3 (zAC zCI (pv 4) (pv 3)) zA8 (zAO _)))))) zAG)
  (zA4 (zAB (zDL (zBN (zH5 hr) (zBQ zF0 (pv 2) zA8 (fun _ _ => rfl)) zBB (zAO _)) (zDL (zBN zF3 (zAC zCI (pv 4) (pv 3)) (pv 4) (zAO _)) (zEW (zAA (zI2 rfl) rfl T.all yDn (zA0 (zBK (xs := ["lot"]) (fv := [("mask", 4)]) rfl (by decide +kernel) ⟨⟨rfl, Or.inl rfl, rfl⟩, trivial⟩ (zC5 (zBF (pv 0) rfl)) (fun _ _ _ _ _ => zAH (i := 0) (ndT (by decide +kernel)) rfl (Or.inl rfl)) (fun _ _ _ _ _ => zBU)
   (λ_ _ _ _ _=>zBN zPK (zAC zCI (pv 1) (pv 0)) zA8 (zAO _))) zA1))))))))))),?_⟩
 obtain ⟨ys,ix,k1,k2,k3,k4,em⟩:=zJY hx;refine ⟨_,rfl,p,CS,dx,_,_,rfl,hp,clS,nG,rfl,g,gx,_,rfl,h1,rfl,_,rfl,g,xs,x,ys,ix,rfl,hH,hG.str,hG.nd,hG.hi,k1,k2,k3,k4,λH1 g1 => ?_⟩;rw [em];refine ⟨_,rfl,y,ty,"tuple",_,rfl,TyOf.same g1 tyo,ek,_,rfl,?_⟩;unfold ShW at hW
 cases hb : zLY H y with
 | none =>
  rw [hb] at hW;subst hW;exact zC7 (zC7 (q H1 g1))
 | some vs =>
  rw [hb] at hW;obtain ⟨t,rfl,ht⟩:=zG4 hb;have t1:=g1 _ _ ht;refine zBP ?_;refine ⟨_,rfl,t,_,rfl,.inr (SqT.of t1),rfl,_,rfl,?_⟩
  rcases hW with ⟨ne,rfl⟩ | ⟨a,b,rb,d,rfl,hRb,hTb,hd,cl0,dp,rfl⟩
  ·rw [yAG (show ¬ V.int (vs.length : Int) = V.int 2 from fun z => ne (by injection z with z; lia))]
   exact zC7 (q H1 g1)
  refine zBP ?_;refine ⟨_,rfl,p,CS,dx,_,_,rfl,g1 _ _ hp,clS,nG,rfl,_,rfl,t,_,1,_,rfl,rfl,SqT.of t1,rfl,g,b,xs,rb,rfl,hH.same g1,hG,hRb.same g1,?_,λH2 g2 => ?_⟩
  ·rw [zD9 g1 hRb]; exact λys e v hv=>(hTb ys e v hv).mono g1
  rw [zD9 g1 hRb];have g12:=g1.trans g2;have t2:=g12 _ _ ht
  rcases zDS xs (zCX H b) with e | ⟨l,e⟩
  ·rw [e] at q ⊢
   refine ⟨_,rfl,rfl,_,rfl,?_⟩;exact zC7 (q H2 g12)
  rw [e] at q ⊢;refine ⟨_,rfl,rfl,_,rfl,?_⟩;rw [yAG (λz=>nomatch z)];refine zBP ?_;have hd2:=hd.mono g12;refine ⟨_,rfl,t,_,0,_,rfl,rfl,SqT.of t2,rfl,d,.str "stands",hd2,.str _,cl0,(by decide +kernel),dp,_,rfl,?_⟩;rw [yAN (by simp : ¬ false = true)];have hm2:=g12 _ _ hm;have q2:=q H2 g12
  cases es : PyData.eqv d (.str "stands") with
  | true =>
   have ev : zD6 ms m d (.int (l : Nat)) = (inV (.int (l : Nat)) (IV ms) && decide (V.int (Builtin.bitAnd (l : Nat) m) = V.int 0)) := by
    show (if PyData.eqv d (.str "stands") = true then _ else _) = _;rw [es]; rfl
   rw [ev] at q2;refine zC7 ?_;refine ⟨_,rfl,_,rfl,p,CS,dx,_,_,rfl,g12 _ _ hp,clS,nM,rfl,tt,_,rfl,.inr (SqT.of hm2),rfl,zRR ms,_,rfl,?_⟩;rw [yAN (by simp : ¬ false = true)]
   cases hi : inV (.int (l : Nat)) (IV ms) with
   | false=>rw [hi] at q2; exact zBP q2
   | true =>
    rw [hi] at q2;refine zC7 ⟨_,rfl,_,rfl,_,_,rfl,rfl,rfl,?_⟩;rw [yBn] at q2;exact q2
  | false =>
   have ev : zD6 ms m d (.int (l : Nat)) = (PyData.eqv d (.str "falls") && decide (V.int (Builtin.bitAnd (l : Nat) m) = V.int (l : Nat)) && ms.all fun o => decide (0 < Builtin.bitAnd (l : Nat) o)) := by
    show (if PyData.eqv d (.str "stands") = true then _ else _) = _;rw [es]; rfl
   rw [ev] at q2;have qa:=λH' g'=>q H' g';rw [ev] at qa;refine zBP ?_;refine ⟨_,rfl,t,_,0,_,rfl,rfl,SqT.of t2,rfl,d,.str "falls",hd2,.str _,cl0,(by decide +kernel),dp,_,rfl,?_⟩;rw [yAN (by simp : ¬ false = true)]
   cases ef : PyData.eqv d (.str "falls") with
   | false=>rw [ef] at q2; exact zBP q2
   | true =>
    rw [ef] at q2 qa;refine zC7 ⟨_,rfl,_,rfl,_,_,rfl,rfl,_,rfl,rfl,_,rfl,?_⟩
    cases el : decide (V.int (Builtin.bitAnd (l : Nat) m) = V.int (l : Nat)) with
    | false=>rw [el] at q2; exact zBP q2
    | true =>
     rw [el] at qa;refine zC7 ?_;refine ⟨_,rfl,p,CS,dx,_,_,rfl,g12 _ _ hp,clS,nM,rfl,tt,rfl,?_⟩;refine zCR (K:=K) (ys:=IV ms) (.inr (SqT.of hm2)) (λi D H'=>Same H2 H'/\H' D = some (.lst (((ms.take i).map λo=>decide (0 < Builtin.bitAnd (l : Nat) o)).map V.bl))) (λD hD=>⟨same_new hD _,zA2⟩) (λi D H' hD hP=>hP.1.at1 tt) (λi D H' x hD hi hx hP => ?_) (λD H' hD hP => ?_)
     ·obtain ⟨g3, lD3⟩ := hP
      unfold IV at hx hi;rw [yAB] at hi;rw [yAe,yAA hi] at hx
      cases hx
      have few:=hO.few;have s1000 : 1000 < sizeLine:=by decide
      refine ⟨rfl,?_⟩;unfold zJP;dsimp only;rw [yAQ rfl];refine ⟨_,rfl,_,rfl,_,_,rfl,rfl,_,_,rfl,rfl,_,lD3,?_,λb o e => ?_,?_⟩
      ·rw [yAB,yAB,yAp]; lia
      ·rw [zA6 (zA5 e hD)]; exact g3 _ _ e
      ·rw [zA2, List.take_succ_eq_append_getElem hi, yAU, yAU]
       rfl
     ·obtain ⟨g3, lD3⟩ := hP
      refine ⟨D,_,rfl,SqL.of lD3,?_⟩;have e9 : (IV ms).length = ms.length:=by unfold IV; rw [yAB]
      rw [e9,yCj]
      have:=qa H' (g12.trans g3)
      rw [List.all_map];exact this
noncomputable def zF2 (xs : List V) : List V -> List Nat -> Option (List Nat)
 | [],acc=>some acc
 | y::r,acc=>match zAJ xs y with
  | none=>none
  | some i=>if i∈acc then none else zF2 xs r (acc++[i])
noncomputable def zC9 (m : Nat) (acc : List Nat) : Prop:=∀ i,m.testBit i = decide (i∈acc)
theorem zHQ {m i : Nat} {acc : List Nat} (h : zC9 m acc) (hi : i ∉ acc) : zC9 (m + 2 ^ i) (acc ++ [i]) := by
 have tb : m.testBit i = false:=by rw [h i]; exact yAG hi
 intro j;rw [<- zRN tb,Nat.testBit_or,yBl,h j]
 by_cases e : i = j
 ·subst e; simp
 ·simp [e,Ne.symm e]
theorem zE8 (xs : List V) : ∀ (ys : List V) (acc : List Nat) (m : Nat), zC9 m acc -> match zF2 xs ys acc with
  | some ns=>∃ m',zBX xs ys m = .told m'/\zC9 m' ns
  | none=>∀ m',zBX xs ys m ≠ .told m'
 | [],acc,m,h=>⟨m,rfl,h⟩
 | y::r,acc,m,h=>by
  unfold zF2 zBX
  cases zAJ xs y with
  | none=>intro m' z; cases z
  | some i =>
   dsimp only
   by_cases hi : i∈acc
   ·rw [yAQ hi, yAQ (by rw [h i]; exact yAM hi)]
    intro m' z
    cases z
   ·rw [yAN hi, yAN (by rw [h i, yAG hi]; simp)]
    exact zE8 xs r _ _ (zHQ h hi)
theorem zCP (xs : List V) : ∀ (ys : List V) (acc ns : List Nat), zF2 xs ys acc = some ns -> acc.Nodup -> (∀ i ∈ acc, i < xs.length) -> ns.Nodup /\ (∀ i ∈ ns, i < xs.length) /\ ns.map (fun k => xs.getD k .non) = acc.map (fun k => xs.getD k .non) ++ ys
 | [],acc,ns,h,nd,lt=>by
  cases h
  exact ⟨nd,lt,by simp⟩
 | y::r,acc,ns,h,nd,lt=>by
  unfold zF2 at h
  cases e : zAJ xs y with
  | none=>rw [e] at h; cases h
  | some i =>
   rw [e] at h;dsimp only at h
   by_cases hi : i∈acc
   ·rw [yAQ hi] at h; cases h
   ·rw [yAN hi] at h
    have ey:=zAZ e;have il : i < xs.length:=(yAI.mp ey).1
    obtain ⟨a, b, c⟩ := zCP xs r _ ns h (yCd.mpr ⟨nd, by simp, fun x hx z hz => by rw [yAF.mp hz]; exact fun q => hi (q ▸ hx)⟩) (fun j hj => by
     rcases yAa.mp hj with hj | hj
     ·exact lt j hj
     ·rw [yAF.mp hj]; exact il)
    refine ⟨a,b,?_⟩;rw [c,yAU,yAy];show _++([xs.getD i .non]++r) = _;rw [yAo,ey];rfl
theorem zEP {m : Nat} {ns : List Nat} {n : Nat} (h12 : n <= 12) (hb : zC9 m ns) (nd : ns.Nodup) (lt : ∀ i ∈ ns, i < n) : (zB9 (m : Nat)).Perm ns := by
 refine (List.perm_ext_iff_of_nodup (zHD _) nd).mpr λi => ?_;rw [zCH,yBX,yBM,hb i];exact ⟨λh=>yAj h.2,λh=>⟨yAh (lt i h) h12,yAM h⟩⟩
theorem zJA (m : Nat) : (zB9 (m : Nat)).Pairwise (· < ·) := by
 rw [zCH];exact List.Pairwise.filter _ List.pairwise_lt_range
theorem zJX {xs : List V} {ns : List Nat} {m : Nat} (nx : xs.Nodup) (h12 : xs.length <= 12) (hb : zC9 m ns) (nd : ns.Nodup) (lt : ∀ i ∈ ns, i < xs.length) : setV xs (m : Nat) = ns.map (fun k => xs.getD k .non) ↔ zB9 (m : Nat) = ns := by
 rw [zFS];refine ⟨λh => ?_,λh=>by rw [h]⟩;have pm:=zEP h12 hb nd lt;have ltn : ∀ i∈zB9 (m : Nat),i < xs.length:=λi hi=>lt i (pm.mem_iff.mp hi);refine List.ext_getElem pm.length_eq λj h1 h2 => ?_;have e:=congrArg (λl=>l[j]?) h;simp only [yAe,yAA h1,yAA h2,yCJ,Option.some.injEq] at e;have a:=ltn _ (yAn h1);have b:=lt _ (yAn h2);rw [yAo,yAo,yAA a,yAA b] at e;exact (yCB nx).mp e
theorem Row.keep {H H' : Hp} {v : Addr} {ys : List V} (h : At1 v H H') (r : Row H (.ref v) (some ys)) : Row H' (.ref v) (some ys) := by
 generalize hw : V.ref v = u at r
 cases r with
 | lst r'=>cases hw; exact .lst (h _ r')
 | tup r'=>cases hw; exact .tup (h _ r')
 | _=>cases hw
theorem Row.kept {H H' : Hp} {v : Addr} {ys : List V} (h : H' v = H v) (r : Row H (.ref v) (some ys)) : Row H' (.ref v) (some ys):=r.keep λo e=>h.trans e
structure DrawnRows (b : Addr) (xs : List V) (ns : List Int) (vs : List Addr) (L : Addr) (H0 H : Hp) : Prop where
 top : H L = some (.lst (vs.map V.ref))
 new : ∀ v∈vs,H0 v = none/\v≠L
 rows : ∀ (j : Nat) v m,vs[j]? = some v -> ns[j]? = some m -> ∃ ys,Row H (.ref v) (some ys)/\ys.Perm (setV xs m)
theorem DrawnRows.snoc {b : Addr} {xs : List V} {ns : List Int} {vs : List Addr} {L r : Addr} {H0 H H' : Hp} {m : Int} {ys : List V} {i : Nat} (h : DrawnRows b xs ns vs L H0 H) (hb : BoxAt H0 b) (hi : vs.length = i) (hm : ns[i]? = some m) (aw : Away b H0 H) (bx : BoxAt H b) (a2 : Away b H H') (hr : H r = none) (row : Row H' (.ref r) (some ys)) (pm : ys.Perm (setV xs m)) :
  DrawnRows b xs ns (vs++[r]) L H0 (upd H' L (.lst (vs.map V.ref++[.ref r]))):=by
 have nD : r≠L:=λe=>by rw [e,h.top] at hr; cases hr
 have vb : ∀ v∈vs,v≠b:=λv hv e=>hb.ne (h.new v hv).1 e.symm;refine ⟨by rw [zA2,yAU]; rfl,λv hv => ?_,λj v m' hj hmj => ?_⟩
 ·rcases yAa.mp hv with z | z
  ·exact h.new v z
  ·rw [yAF.mp z]
   exact ⟨aw.free bx hr,nD⟩
 ·rcases yBo j i with c | c
  ·rw [yBR (by lia)] at hj
   obtain ⟨ys',r',p'⟩:=h.rows j v m' hj hmj;have mv:=yAm hj;refine ⟨ys',r'.keep λo e => ?_,p'⟩;rw [zA6 (h.new v mv).2];exact a2 v o e (vb v mv)
  ·have ej : j = i := by
    have:=(yAI.mp hj).1
    rw [yAX] at this
    simp at this
    lia
   subst ej;rw [yBP (by lia),hi,yDp] at hj
   cases hj
   rw [hm] at hmj
   cases hmj
   exact ⟨ys,row.kept (zA6 nD),pm⟩
noncomputable def zMG (K : PySem.W.Frag) : Sp := fun vs H Q _ => ∃ b nm M xs ms, vs = [.ref b, .ref nm, .ref M] /\ BoxAt H b /\ nm ≠ b /\ M ≠ b /\ H nm = some (.lst xs) /\ GN xs /\ H M = some (.lst (IV ms)) /\ ms.length <= 100 /\ MsOk xs.length ms /\
 ∀ r H' vs ns,H r = none -> Row H' (.ref r) (some (vs.map V.ref)) -> ns.Perm ms -> Rows1 b xs ns vs H H' -> BoxAt H' b -> Away b H H' -> Q (.ref r) H'
theorem scHanded : FnScope ["_law_box_here","_law_names_here","_law_masks_here","_law_lots_here","_law_mask_here","_law_lot"] ["_law_box_here","_law_names_here","_law_masks_here"] (zA7 zKD):=by trivial
set_option maxHeartbeats 1000000 in
theorem zOT {f a1 a2 a3 : Addr} {fd d1 d2 d3 : FuncData} (F : Fun K "_law_handed" "_law_handed" zKD f fd) (mt : mg "tuple" = none) (D1 : Def P w K mg base 1 "_law_take" ["_law_box_here", "_law_many"] zD7 a1 d1)
  (D2 : Def P w K mg base 2 "_law_mixed" ["_law_box_here","_law_some"] zFD a2 d2) (D3 : Def P w K mg base 1 "_law_set" ["_law_names_here","_law_mask_here"] (zKB K) a3 d3) : FnOk P w K mg base CX0 3 f fd ["_law_box_here","_law_names_here","_law_masks_here"] (zMG K):=by
 refine F.ok scHanded (λvs H Q E h => ?_) (λcdv A outer s H vs Q E hr h => ?_)
 ·obtain ⟨b, nm, M, xs, ms, rfl, _⟩ := h
  rfl
 obtain ⟨b,nm,M,xs,ms,rfl,hb,nmb,Mb,hnm,hG,hM,h100,ok,q⟩:=h;have hr1 : Room 1 _:=hr.mono (by decide)
 refine ⟨_, zA3 (zAE (i := 3) scHanded.nd rfl (Or.inl rfl) (zAQ zA1))
  (zA3 (zC8 PassesOwn.never rfl (zC5 (zA9 D2.ok hr rfl D2.m D2.k D2.b .nil zAD (zA0 (pv 0) (zA0 (pv 2) zA1)))) (zAH (i := 4) scHanded.nd rfl (Or.inl rfl))
   (zA3 (zAE (i:=5) scHanded.nd rfl (Or.inl rfl) (zA9 D2.ok hr rfl D2.m D2.k D2.b .nil zAD (zA0 (pv 0) (zA0 (zA9 D3.ok hr1 rfl D3.m D3.k D3.b .nil zAD (zA0 (pv 1) (zA0 (pv 4) zA1))) zA1))))
   (zA4 (zCD (zGI yBQ yBu yBt zC1 (pv 3) (zA0
    (zBQ zB6 (zAQ (zA0 (pv 5) (zA0 (zB8 zB0 rfl mt yAv (zA0 (pv 5) zA1)) zA1))) (zA9 D1.ok hr1 rfl D1.m D1.k D1.b .nil zAD (zA0 (pv 0) (zA0 zA8 zA1))) (λ_ _=>rfl)) zA1))))))
  (zA4 (zAB (zBQ zB6 (zAQ (zA0 (pv 3) (zA0 (zB8 zB0 rfl mt yAv (zA0 (pv 3) zA1)) zA1))) (zA9 D1.ok hr1 rfl D1.m D1.k D1.b .nil zAD (zA0 (pv 0) (zA0 zA8 zA1))) (λ_ _=>rfl))))),?_⟩
 refine ⟨(by show 0 <= sizeLine; decide),λL hL => ?_⟩;have g1:=same_new hL (.lst []);have c1 : (upd H L (.lst [])) L = some (.lst []):=zA2;have Lb : L≠b:=(hb.ne hL).symm;have nml : nm≠L:=λe=>by rw [e,hL] at hnm; cases hnm
 generalize upd H L (.lst []) = H1 at g1 c1 ⊢;have s1000 : 1000 < sizeLine:=by decide
 refine ⟨_,rfl,_,rfl,b,M,IV ms,rfl,hb.same g1,g1 _ _ hM,by unfold IV; rw [yAB]; lia,λv hv=>by obtain ⟨m,_,rfl⟩:=yAs.mp hv; exact Plain.int m,λD H2 ys hD l2 pm b2 a2 => ?_⟩;obtain ⟨ns,rfl,pn⟩:=zET pm;have nlen : ns.length <= 100:=by rw [pn.length_eq]; exact h100
 have okn : MsOk xs.length ns:=⟨pn.nodup_iff.mpr ok.nd,λm hm=>ok.ok m (pn.mem_iff.mp hm)⟩;have aw2 : Away b H H2:=(zAN g1).trans a2;have Db : D≠b:=((hb.same g1).ne hD).symm;have DL : D≠L:=λe=>by rw [e,c1] at hD; cases hD
 refine ⟨D,rfl,?_⟩
 refine zEQ (K := K) (ys := IV ns) (.inl (SqL.of l2)) (fun i σ H' => ∃ v4 v5 vs, σ = [some (.ref b), some (.ref nm), some (.ref M), some (.ref L), v4, v5] /\ Away b H H' /\ H' D = some (.lst (IV ns)) /\ BoxAt H' b /\ vs.length = i /\ DrawnRows b xs ns vs L H H')
  ⟨_,_,[],rfl,aw2,l2,b2,rfl,⟨(a2 L _ c1 Lb),(λ_ h=>nomatch h),λj v m h=>by cases h⟩⟩ (λi σ H' hP o ho => ?_) (λi σ H' x hi hx hP => ?_) (λσ H' hP => ?_)
 ·obtain ⟨_, _, _, _, _, a, _⟩ := hP
  rw [l2] at ho
  cases ho
  exact a
 ·obtain ⟨v4, v5, vs, rfl, aw, awD, bx, lz, R⟩ := hP
  unfold IV at hx hi;rw [yAB] at hi;rw [yAe,yAA hi] at hx
  cases hx
  have hm:=okn.ok _ (yAn hi);refine ⟨_,rfl,_,rfl,_,rfl,nm,xs,_,rfl,.inl (SqL.of (aw _ _ hnm nmb)),hG.hi,hm.1,hm.2,λS3 H3 hS3 g3 l3 => ?_⟩;refine ⟨b,S3,_,rfl,bx.same g3,l3,yAk (zD8 xs _) (by decide),(zFP hG hm.1 hm.2).plain,λD4 H4 ys hD4 l4 pm4 b4 a4 => ?_⟩;have a14 : Away b H' H4:=(zAN g3).trans a4;have hD4' : H' D4 = none:=g3.free hD4;refine ⟨_,rfl,.inl ⟨rfl,_,SqL.of (a14 _ _ R.top Lb)⟩,_,rfl,_,rfl,D4,ys,rfl,.inl ⟨SqL.of l4,λt ht=>⟨(by show 2 <= sizeLine; decide),λl hl => ?_⟩⟩⟩;have g5:=(same_new ht (.tup ys)).trans (same_new hl (.lst [.ref D4,.ref t]));have t5 : (upd (upd H4 t (.tup ys)) l (.lst [.ref D4,.ref t])) t = some (.tup ys):=same_new hl _ _ _ zA2;have l5 : (upd (upd H4 t (.tup ys)) l (.lst [.ref D4,.ref t])) l = some (.lst [.ref D4,.ref t]):=zA2;have ht' : H' t = none:=a14.free b4 ht;have hl' : H' l = none:=a14.free b4 ((same_new ht (.tup ys)).free hl);generalize upd (upd H4 t (.tup ys)) l (.lst [.ref D4,.ref t]) = H5 at g5 t5 l5 ⊢;refine ⟨_,rfl,b,2,rfl,by decide,by decide,b4.same g5,λk H6 k0 k1 b6 t6 => ?_⟩;have nb : ∀ {c : Addr},H' c = none -> c≠b:=λh=>(bx.ne h).symm;obtain ⟨j,hj,ej,hat⟩:=za5 (xs:=[V.ref D4,V.ref t]) k0 (by show k < 2; lia);refine ⟨l,_,_,_,rfl,rfl,SqL.of ((t6 l (nb hl')).trans l5),hat,?_⟩;have a16 : Away b H' H6:=(a14.trans (zAN g5)).trans t6.away;have small : (vs.map V.ref).length < sizeLine:=by rw [yAB]; lia
  have hmi : ns[i]? = some ns[i]:=yAA hi
  have stepK : ∀ r ys', H' r = none -> Row H6 (.ref r) (some ys') -> ys'.Perm (setV xs ns[i]) -> ∃ v4' v5' vs', [some (V.ref b), some (.ref nm), some (.ref M), some (.ref L), some (.int ns[i]), some (.ref D4)] = [some (.ref b), some (.ref nm), some (.ref M), some (.ref L), v4', v5'] /\ Away b H (upd H6 L (.lst (vs.map V.ref ++ [.ref r]))) /\ (upd H6 L (.lst (vs.map V.ref ++ [.ref r]))) D = some (.lst (IV ns)) /\ BoxAt (upd H6 L (.lst (vs.map V.ref ++ [.ref r]))) b /\ vs'.length = i + 1 /\ DrawnRows b xs ns vs' L H (upd H6 L (.lst (vs.map V.ref ++ [.ref r]))) := fun r ys' hr row pm => by
   refine ⟨_,_,vs++[r],rfl,λc o hc n => ?_,by rw [zA6 DL]; exact a16 _ _ awD Db,b6.same2 Lb.symm,by rw [yAX,lz]; rfl,R.snoc hb lz hmi aw bx a16 hr row pm⟩
   ·rw [zA6 (zA5 hc hL)]; exact a16 c o (aw c o hc n) n
  have hj2 : j = 0 \/ j = 1 := by
   have : j < 2:=hj;lia
  rcases hj2 with rfl | rfl
  ·refine ⟨L, _, _, rfl, rfl, a16 _ _ R.top Lb, small, ?_⟩
   exact stepK D4 ys hD4' (.lst ((t6 D4 (nb hD4')).trans (g5 _ _ l4))) pm4
  ·refine ⟨L, _, _, rfl, rfl, a16 _ _ R.top Lb, small, ?_⟩
   exact stepK t ys ht' (.tup ((t6 t (nb ht')).trans t5)) pm4
 ·obtain ⟨v4, v5, vs, rfl, aw, awD, bx, lz, R⟩ := hP
  have lz : vs.length = ns.length:=by rw [lz]; unfold IV; rw [yAB]
  refine ⟨_,rfl,_,rfl,L,_,rfl,.inl ⟨SqL.of R.top,λt ht=>⟨(by show 2 <= sizeLine; decide),λl hl => ?_⟩⟩⟩;have g5:=(same_new ht (.tup (vs.map V.ref))).trans (same_new hl (.lst [.ref L,.ref t]));have t5 : (upd (upd H' t (.tup (vs.map V.ref))) l (.lst [.ref L,.ref t])) t = some (.tup (vs.map V.ref)):=same_new hl _ _ _ zA2;have l5 : (upd (upd H' t (.tup (vs.map V.ref))) l (.lst [.ref L,.ref t])) l = some (.lst [.ref L,.ref t]):=zA2;have ht' : H t = none:=aw.free bx ht;have hl' : H l = none:=aw.free bx ((same_new ht (.tup (vs.map V.ref))).free hl);generalize upd (upd H' t (.tup (vs.map V.ref))) l (.lst [.ref L,.ref t]) = H5 at g5 t5 l5 ⊢;refine ⟨_,rfl,b,2,rfl,by decide,by decide,bx.same g5,λk H6 k0 k1 b6 t6 => ?_⟩;have nb : ∀ {c : Addr},H c = none -> c≠b:=λh=>(hb.ne h).symm;obtain ⟨j,hj,ej,hat⟩:=za5 (xs:=[V.ref L,V.ref t]) k0 (by show k < 2; lia);refine ⟨l,_,_,_,rfl,rfl,SqL.of ((t6 l (nb hl')).trans l5),hat,?_⟩;have a16 : Away b H' H6:=(zAN g5).trans t6.away
  have R1 : Rows1 b xs ns vs H H6 := ⟨lz, fun v hv => (R.new v hv).1, fun j v m h1 h2 => by
   obtain ⟨ys,r,p⟩:=R.rows j v m h1 h2;have nv:=(R.new v (yAm h1)).1;exact ⟨ys,r.keep λo e=>a16 v o e (nb nv),p⟩⟩
  have hj2 : j = 0 \/ j = 1 := by
   have : j < 2:=hj;lia
  rcases hj2 with rfl | rfl
  ·exact q L H6 vs ns hL (.lst (a16 _ _ R.top Lb)) pn R1 b6 (aw.trans a16)
  ·exact q t H6 vs ns ht' (.tup ((t6 t (nb ht')).trans t5)) pn R1 b6 (aw.trans a16)
theorem zOP {K : PySem.W.Frag} {ns : List Str} {fv : List (Str × Nat)} {g : TG} {tt : TT} {tb : TB} {σ : St} {H1 : Hp} {Q : VK} {a : Addr} {ms : List Int} (p : Int -> Bool) (sq : Sq K H1 a (IV ms)) (hlen : ms.length <= 1000)
  (step : ∀ m, m ∈ ms -> ∀ (D : Addr) (H' : Hp) (N : Hp -> Prop), Same H1 H' -> (∀ H3, Same H' H3 -> if p m = true then (∃ ys, H3 D = some (.lst ys) /\ ys.length < sizeLine /\ N (upd H3 D (.lst (ys ++ [.int m])))) else N H3) ->
   g (.int m) (ρT ns fv σ) H' λσ2 H2=>zI5 ns (ρT ns fv σ) σ2/\tt σ2 H2 λb H3=>if b = true then tb D σ2 H3 N else N H3)
  (hd : ∀ D H',H1 D = none -> Same H1 H' -> H' D = some (.lst (IV (ms.filter p))) -> Q (.ref D) H') :
  (∃ xs,SqL K H1 a xs)/\zCG (.lst []) ns fv g tt tb σ (Itl K a) H1 Q \/ (∃ xs,SqT K H1 a xs)/\zCG (.lst []) ns fv g tt tb σ (Itt K a) H1 Q:=by
 have s1000 : 1000 < sizeLine:=by decide
 refine zCR (K:=K) (ys:=IV ms) sq (λi D H'=>Same H1 H'/\H' D = some (.lst (IV ((ms.take i).filter p)))) (λD hD=>⟨same_new hD _,zA2⟩) (λi D H' hD hP=>hP.1.at1 a) (λi D H' x hD hi hx hP => ?_) (λD H' hD hP => ?_)
 ·obtain ⟨g2, lD⟩ := hP
  unfold IV at hx hi;rw [yAB] at hi;rw [yAe,yAA hi] at hx
  cases hx
  have et : ms.take (i + 1) = ms.take i++[ms[i]]:=by rw [List.take_succ,yAA hi]; rfl
  refine step ms[i] (yAn hi) D H' _ g2 λH3 g3 => ?_;have lD3:=g3 _ _ lD;refine zGV (λc => ?_) (λc => ?_)
  ·refine ⟨_, lD3, ?_, fun b o e => ?_, ?_⟩
   ·unfold IV
    rw [yAB]
    have:=yDE p (ms.take i)
    rw [yAp] at this;lia
   ·rw [zA6 (zA5 e hD)]; exact (g2.trans g3) _ _ e
   ·rw [zA2, et, yDS, List.filter_cons_of_pos c]
    unfold IV;rw [yAU]; rfl
  ·refine ⟨g2.trans g3, ?_⟩
   rw [lD3,et,yDS,List.filter_cons_of_neg c,List.filter_nil,yBh]
 ·obtain ⟨g2, lD⟩ := hP
  have el : (IV ms).length = ms.length:=by unfold IV; rw [yAB]
  rw [el,yCj] at lD;exact hd D H' hD g2 lD
theorem zSJ {K : PySem.W.Frag} {neg : Bool} {a b : Addr} {ms : List Int} {H : Hp} {Q : VK} (ha : H a = some (.lst (IV ms))) (hb : H b = some (.lst [])) (h : Q (.bl (if neg then !ms.isEmpty else ms.isEmpty)) H) : za6 K neg (.ref a) (.ref b) H Q := by
 have lay : ∀ l : List Int, PyData.canLayAll0 (l.map PyData.int) = true := fun l => by
  induction l with
  | nil=>rfl
  | cons m r ih =>
   show (true&&PyData.canLayAll0 (r.map PyData.int)) = true;rw [ih]; rfl
 have dep : ∀ l : List Int, PyData.depthAll (l.map PyData.int) <= 1 := fun l => by
  induction l with
  | nil=>simp [PyData.depthAll]
  | cons m r ih =>
   simp only [yAl,PyData.depthAll,PyData.depth];lia
 refine ⟨.list (ms.map .int),.list [],.lst (SqL.of ha) (DVs.ints ms),.lst (SqL.of hb) .nil,lay ms,rfl,?_,?_⟩
 ·have := dep ms
  simp only [PyData.depth];lia
 ·have e : PyData.eqv (.list (ms.map .int)) (.list []) = ms.isEmpty := by cases ms <;> rfl
  rw [e]; exact h
theorem zQS (p : Int -> Bool) (ms : List Int) : (!(ms.filter p).isEmpty) = ms.any p := by
 rw [yAg,yBb,List.isEmpty_eq_false_iff,ne_eq,List.filter_eq_nil_iff,yAz]
 constructor
 ·intro h
  exact Classical.byContradiction λn=>h λa ha hb=>n ⟨a,ha,hb⟩
 ·rintro ⟨a, ha, hb⟩ h
  exact h a ha hb
theorem zRI (p : Int -> Bool) (ms : List Int) : (ms.filter p).isEmpty = !ms.any p := by
 rw [<- zQS,Bool.not_not]
theorem zSU {ms zs : List Int} (h : zs.Perm ms) (p : Int -> Bool) : zs.any p = ms.any p := by
 rw [yAg,yAz,yAz];exact ⟨λ⟨a,ha,hb⟩=>⟨a,h.mem_iff.mp ha,hb⟩,λ⟨a,ha,hb⟩=>⟨a,h.mem_iff.mpr ha,hb⟩⟩
theorem zP7 {ms zs : List Int} (h : zs.Perm ms) : zDO zs = zDO ms:=funext λm=>zSU h _
noncomputable def zNF (ms : List Int) (m : Int) : Bool := !ms.any λl=>decide (Builtin.bitAnd l m = 0)
noncomputable abbrev zb5 (zs : List Int) : Prop:=zs.Pairwise λa b=>zCK (kOf (.int b)) (kOf (.int a)) = false
structure LeastF (n : Nat) (ms F : List Int) : Prop where
 so : zb5 F
 pm : F.Perm (zAK (zDO ms) (2 ^ n))
noncomputable def zMC (K : PySem.W.Frag) : Sp:=λvs H Q _=>∃ a ms m,vs = [.ref a,.int m]/\Sq K H a (IV ms)/\ms.length <= 1000/\∀ H',Same H H' -> Q (.bl (zNF ms m)) H'
theorem zSP : FnScope ["_law_masks_here","_law_mask_here"] ["_law_masks_here","_law_mask_here"] (zA7 zDU):=by trivial
theorem zRJ {f : Addr} {fd : FuncData} (F : Fun K "_law_meets" "_law_meets" zDU f fd) : FnOk P w K mg base CX0 1 f fd ["_law_masks_here", "_law_mask_here"] (zMC K) := by
 refine F.ok zSP (λvs H Q E h => ?_) (λcdv A outer s H vs Q E hr h => ?_)
 ·obtain ⟨a, ms, m, rfl, _⟩ := h
  rfl
 obtain ⟨a,ms,m,rfl,sq,h1000,q⟩:=h
 refine ⟨_, zA4 (zAB (zBN (zH5 hr) (zBK (xs := ["_law_one"]) (fv := [("_law_mask_here", 1)]) rfl (by decide +kernel) ⟨⟨rfl, Or.inl rfl, rfl⟩, trivial⟩ (zC5 (pv 0)) (fun _ _ _ _ _ => zAH (i := 0) (ndT (by decide +kernel)) rfl (Or.inl rfl))
    (λ_ _ _ _ _=>zQF (zAM zF3 (zAC zCI (pv 0) (pv 1)) zA8 (zAO _))) (λ_ _ _ _ _=>pv 0)) (zAQ zA1) (zAO _))),?_⟩
 refine ⟨_,rfl,a,rfl,?_⟩;refine zOP (λo=>decide (Builtin.bitAnd o m = 0)) sq h1000 (λo ho D2 H2 N2 g2 hN2 => ?_) (λD2 H2 hD2 g2 lD2 => ?_)
 ·refine ⟨rfl, _, rfl, _, rfl, _, _, rfl, rfl, rfl, _, rfl, ?_⟩
  have h:=hN2 H2 (λ_ _ h=>h);dsimp only;rw [zbX];refine zGV (λd => ?_) (λd => ?_)
  ·rw [yAQ d] at h
   exact ⟨_,rfl,h⟩
  ·rw [yAN d] at h
   exact h
 ·refine ⟨(by show 0 <= sizeLine; decide), fun l hl => ?_⟩
  obtain ⟨H3,g3,c3,e0⟩:=zKI hl (.lst []);rw [e0];clear e0;refine zSJ (g3 _ _ lD2) c3 ?_;rw [yAN (by simp : ¬ false = true),zRI];exact q H3 (g2.trans g3)
structure DrawnAt (k : Nat) (CS C b : Addr) (H H' : Hp) (r nm M p : Addr) (xs : List V) (ms zs : List Int) : Prop where
 rb : r≠b
 nmb : nm≠b
 Mb : M≠b
 top : H' r = some (.lst [.ref nm,.ref M,.ref p])
 nmA : H' nm = some (.lst xs)
 are : zJO (some xs) = true
 hi8 : xs.length <= 8
 MA : H' M = some (.lst (IV ms))
 few : ms.length <= k
 ok : MsOk xs.length ms
 sys : SysAt CS C H' p xs zs
 pz : zs.Perm ms
 O : Ord xs zs
 bx : BoxAt H' b
 aw : Away b H H'
noncomputable def zPW (CS C : Addr) : Sp:=λvs H Q _=>∃ b,vs = [.ref b]/\BoxAt H b/\∀ r nm M p H' xs ms zs,DrawnAt 22 CS C b H H' r nm M p xs ms zs -> Q (.ref r) H'
theorem zFG {n m k : Nat} (hm : m < 2 ^ n) : (2 ^ n - 1 - m).testBit k = (decide (k < n) && !m.testBit k) := by
 rw [show 2 ^ n - 1 - m = 2 ^ n - (m + 1) by lia,Nat.testBit_two_pow_sub_succ hm]
theorem zLM {n m : Nat} (hm : m < 2 ^ n) : Builtin.bitXor ((2 ^ n - 1 : Nat) : Int) ((m : Nat) : Int) = ((2 ^ n - 1 - m : Nat) : Int) := by
 rw [zK3]
 congr 1
 refine yBT λk => ?_;rw [Nat.testBit_xor,zFG hm,Nat.testBit_two_pow_sub_one]
 by_cases h : k < n
 ·rw [yAM h]; simp
 ·rw [yAG h]
  have : m.testBit k = false := by
   cases e : m.testBit k with
   | false=>rfl
   | true =>
    have h1:=yCh e;have h2 : 2 ^ n <= 2 ^ k:=yAx (by decide) (by lia);lia
  rw [this]; rfl
theorem scDrawn : FnScope ["_law_box_here","_law_many","_law_names_here","_law_masks_here"] ["_law_box_here"] (zA7 zDX):=by trivial
set_option maxHeartbeats 1000000 in
theorem zSD {f c1 c2 c3 c4 fS CS C : Addr} {fd e1 e2 e3 e4 dS' : FuncData} (F : Fun K "_law_drawn" "_law_drawn" zDX f fd) (DZ : Def P w K mg base 2 "_law_size" ["_law_box_here"] zQE c1 e1) (DN : Def P w K mg base 3 "_law_names" ["_law_box_here", "_law_many"] zM2 c2 e2) (DM : Def P w K mg base 2 "_law_masks" ["_law_box_here", "_law_many"] zO3 c3 e3)
  (DH : Def P w K mg base 3 "_law_handed" ["_law_box_here","_law_names_here","_law_masks_here"] (zMG K) c4 e4) (MS : Mk K CS fS) (OS : FnOk P w K mg base CX0 6 fS dS' ["self","houses","lots"] (zHM CS C)) (bS : Binds K dS' ["self","houses","lots"] []) (mS : mg "System" = some (.ref CS)) :
  FnOk P w K mg base CX0 8 f fd ["_law_box_here"] (zPW CS C):=by
 refine F.ok scDrawn (λvs H Q E h => ?_) (λcdv A outer s H vs Q E hr h => ?_)
 ·obtain ⟨b, rfl, _⟩ := h
  rfl
 obtain ⟨b,rfl,hb,q⟩:=h;have hr2 : Room 2 _:=hr.mono (by decide);have hr3 : Room 3 _:=hr.mono (by decide)
 refine ⟨_, zA3 (zAE (i := 1) scDrawn.nd rfl (Or.inl rfl) (zA9 DZ.ok hr2 rfl DZ.m DZ.k DZ.b .nil zAD (zA0 (pv 0) zA1)))
  (zA3 (zAE (i:=2) scDrawn.nd rfl (Or.inl rfl) (zA9 DN.ok hr3 rfl DN.m DN.k DN.b .nil zAD (zA0 (pv 0) (zA0 (pv 1) zA1))))
  (zA3 (zAE (i:=3) scDrawn.nd rfl (Or.inl rfl) (zA9 DM.ok hr2 rfl DM.m DM.k DM.b .nil zAD (zA0 (pv 0) (zA0 (pv 1) zA1))))
  (zA4 (zAB (zAQ (zA0 (pv 2) (zA0 (pv 3) (zA0 (zHF MS OS hr rfl mS bS .nil zAD (zA0 (pv 2) (zA0 (zA9 DH.ok hr3 rfl DH.m DH.k DH.b .nil zAD (zA0 (pv 0) (zA0 (pv 2) (zA0 (pv 3) zA1)))) zA1))) zA1)))))))),?_⟩
 refine ⟨_,rfl,b,rfl,hb,λr H1 r1 r8 b1 a1 => ?_⟩;obtain ⟨n,rfl⟩:=yAw (show 0 <= r by lia);refine ⟨_,rfl,_,rfl,b,n,rfl,by lia,by lia,b1,λnm H2 xs hnm lnm xl are b2 a2 => ?_⟩;have hG:=zF6 are;have nmb : nm≠b:=(b1.ne hnm).symm;refine ⟨_,rfl,_,rfl,b,n,rfl,by lia,by lia,b2,λM H3 ms hM lM ml ok b3 a3 => ?_⟩;have Mb : M≠b:=(b2.ne hM).symm;have ok : MsOk xs.length ms:=by rw [xl]; exact ok
 refine ⟨_,rfl,_,rfl,_,rfl,_,rfl,_,rfl,_,rfl,b,nm,M,xs,ms,rfl,b3,nmb,Mb,a3 _ _ lnm nmb,hG,lM,by lia,ok,λr4 H4 vs ns hr4 row4 pn R b4 a4 p dx hp hdx ne => ?_⟩;have nm4:=a4 _ _ (a3 _ _ lnm nmb) nmb;have M4:=a4 _ _ lM Mb;have okn : MsOk xs.length ns:=⟨pn.nodup_iff.mpr ok.nd,λm hm=>ok.ok m (pn.mem_iff.mp hm)⟩;refine zMO (b:=b) (H0:=H3) hG are okn (by rw [pn.length_eq]; lia) (.lst nm4) row4 R hp hdx λH5 zs g5 S5 pz O=>⟨rfl,?_⟩;refine ⟨(by show 3 <= sizeLine; decide),λq0 hq0 => ?_⟩;have g6:=same_new hq0 (.lst [.ref nm,.ref M,.ref p]);have aw : Away b H H4:=((a1.trans a2).trans a3).trans a4;have g56:=g5.trans g6;refine q q0 nm M p _ xs ms zs ⟨(b4.ne (g5.free hq0)).symm,nmb,Mb,zA2,g56 _ _ nm4,are,by lia,g56 _ _ M4,by lia,ok,S5.same g6,pz.trans pn,O,b4.same g56,aw.trans (zAN g56)⟩
theorem zR9 {xs : List V} (hk : ∀ v ∈ xs, v = kV (.inr (zAV v))) {z : Str} : inV (.str z) xs = (zAJ xs (.str z)).isSome := by
 unfold inV;rw [yAg,yAz]
 constructor
 ·rintro ⟨y, h1, h2⟩
  have e : y = .str (zAV y):=hk y h1;rw [e] at h2;have e2 : zAV y = z:=yAc.mp h2;rw [e2] at e;subst e
  cases q : zAJ xs (.str z) with
  | none=>exact absurd h1 (placeOf_none.mp q)
  | some i=>rfl
 ·intro h
  obtain ⟨i,hi⟩:=yBf.mp h;exact ⟨.str z,yAm (zAZ hi),by show (z == z) = true; simp⟩
noncomputable def sumP (ns : List Nat) : Nat:=(ns.map λn=>2 ^ n).sum
theorem zI0 (ns : List Nat) (i : Nat) : sumP (ns ++ [i]) = sumP ns + 2 ^ i := by
 unfold sumP; rw [yAU,List.sum_append]; simp
theorem zHG (xs : List V) : ∀ (ys : List V) (acc ns : List Nat) (m : Nat), zF2 xs ys acc = some ns -> zC9 (sumP acc) acc -> zBX xs ys (sumP acc) = .told m -> m = sumP ns
 | [],acc,ns,m,h,_,e=>by cases h; cases e; rfl
 | y::r,acc,ns,m,h,hb,e=>by
  unfold zF2 at h
  cases q : zAJ xs y with
  | none=>rw [q] at h; cases h
  | some i =>
   rw [q] at h;dsimp only at h
   by_cases hi : i∈acc
   ·rw [yAQ hi] at h; cases h
   ·rw [yAN hi] at h
    have wv : zBX xs (y :: r) (sumP acc) = if (sumP acc).testBit i = true then .twice y else zBX xs r (sumP acc + 2 ^ i) := by
     show (match zAJ xs y with | none=>_ | some i=>_) = _;rw [q]
    rw [wv,yAN (by rw [hb i,yAG hi]; simp),<- zI0] at e;exact zHG xs r _ ns m h (by rw [zI0]; exact zHQ hb hi) e
theorem zG8 (xs : List V) : ∀ (ys : List V) (acc : List Nat) (y : V), zF2 xs (ys ++ [y]) acc = match zF2 xs ys acc with
  | none=>none
  | some ns=>match zAJ xs y with
   | none=>none
   | some i=>if i∈ns then none else some (ns++[i])
 | [],acc,y=>by
  show zF2 xs [y] acc = _;unfold zF2
  cases zAJ xs y with
  | none=>rfl
  | some i=>rfl
 | a::r,acc,y=>by
  show zF2 xs (a::(r++[y])) acc = _;unfold zF2
  cases zAJ xs a with
  | none=>rfl
  | some i =>
   dsimp only
   by_cases hi : i∈acc
   ·rw [yAQ hi,yAQ hi]
   ·rw [yAN hi, yAN hi]
    exact zG8 xs r _ y
theorem zSS (xs : List V) (ys : List V) (acc : List Nat) (zs : List V) (h : zF2 xs ys acc = none) : zF2 xs (ys ++ zs) acc = none := by
 induction ys generalizing acc with
 | nil=>cases h
 | cons y r ih =>
  show zF2 xs (y::(r++zs)) acc = none;unfold zF2 at h ⊢
  cases q : zAJ xs y with
  | none=>rfl
  | some i =>
   rw [q] at h;dsimp only at h ⊢
   by_cases hi : i∈acc
   ·rw [yAQ hi]
   ·rw [yAN hi] at h ⊢
    exact ih _ h
noncomputable abbrev nI (ns : List Nat) : List Int:=ns.map λn=>((n : Nat) : Int)
theorem zSF (ms ks : List Int) : PyData.eqv (.list (ms.map PyData.int)) (.list (ks.map PyData.int)) = decide (ms = ks) := by
 rw [PyData.eqv]; exact PySem.W.ked_eqvAll ms ks
noncomputable def zE3 (xs ys : List V) : V := match zF2 xs ys [] with
 | none => .non
 | some ns=>if zB9 (sumP ns : Nat) = ns then .int (sumP ns : Nat) else .non
theorem zEZ {xs ys : List V} (hG : GN xs) : zDI xs ys = zE3 xs ys := by
 have b0 : zC9 0 []:=λi=>by simp
 have w:=zE8 xs ys [] 0 b0;unfold zDI zE3
 cases e : zF2 xs ys [] with
 | none =>
  rw [e] at w;have w : ∀ m',zBX xs ys 0 ≠ .told m':=w
  cases q : zBX xs ys 0 with
  | told m=>exact absurd q (w m)
  | house v=>rfl
  | twice v=>rfl
 | some ns =>
  rw [e] at w;obtain ⟨m,hm,hb⟩ : ∃ m',zBX xs ys 0 = .told m'/\zC9 m' ns:=w;have es:=zHG xs ys [] ns m e b0 hm;obtain ⟨nd,lt,pl⟩:=zCP xs ys [] ns e .nil (λi h=>nomatch h);rw [hm];subst es;dsimp only;have pl : ns.map (λk=>xs.getD k .non) = ys:=pl;have key:=zJX hG.nd hG.hi hb nd lt;rw [pl] at key
  by_cases c : setV xs ((sumP ns : Nat) : Int) = ys
  ·rw [yAQ c,yAQ (key.mp c)]
  ·rw [yAN c,yAN (λz=>c (key.mpr z))]
theorem zHB {xs ys : List V} {ns : List Nat} (hG : GN xs) (e : zF2 xs ys [] = some ns) {ks : List Int} (p : ks.Perm (nI ns)) (s : ks.Pairwise (· <= ·)) : (nI ns = ks) ↔ zB9 (sumP ns : Nat) = ns := by
 have b0 : zC9 0 []:=λi=>by simp
 have w:=zE8 xs ys [] 0 b0;rw [e] at w;obtain ⟨m,hm,hb⟩ : ∃ m',zBX xs ys 0 = .told m'/\zC9 m' ns:=w;have es:=zHG xs ys [] ns m e b0 hm;subst es;obtain ⟨nd,lt,pl⟩:=zCP xs ys [] ns e .nil (λi h=>nomatch h);have pm:=zEP hG.hi hb nd lt;have st : (nI (zB9 (sumP ns : Nat))).Pairwise (· <= ·):=yBm.mpr ((zJA _).imp λh=>by lia);have pk : ks.Perm (nI (zB9 (sumP ns : Nat))):=p.trans (pm.map _).symm;have ek : ks = nI (zB9 (sumP ns : Nat)):=pk.eq_of_pairwise (λa b _ _ x y=>Int.le_antisymm x y) s st;rw [ek]
 constructor
 ·intro h
  have inj : ∀ {as bs : List Nat}, nI as = nI bs -> as = bs := fun {as bs} h => by
   have h2:=congrArg (List.map Int.toNat) h;rw [yBp,yBp] at h2;have f : (Int.toNat ∘ λn : Nat=>(n : Int)) = id:=funext λn=>yAf n;rw [f,List.map_id,List.map_id] at h2;exact h2
  exact (inj h).symm
 ·intro h; rw [h]
noncomputable def zOD : Sp:=λvs H Q _=>∃ a x xs r,vs = [.ref a,x]/\H a = some (.lst xs)/\GN xs/\Row H x r/\(∀ ys,zCX H x = some ys -> ∀ v∈ys,Th H v)/\∀ H',Same H H' -> Q (zHN xs (zCX H x)) H'
theorem zd0 (ns : List Nat) : (ns.map fun n => (1 : Int) * 2 ^ ((n : Nat) : Int).toNat).sum = ((sumP ns : Nat) : Int) := by
 unfold sumP
 induction ns with
 | nil=>rfl
 | cons n r ih =>
  rw [yAl,yAl,yCr,yCr,ih,Int.natCast_add,yBi,yAf,yCQ];rfl
theorem zLU {xs ys : List V} {ns : List Nat} (hG : GN xs) (e : zF2 xs ys [] = some ns) : ns.length <= 12 /\ ∀ n ∈ ns, n < 12 := by
 obtain ⟨nd,lt,_⟩:=zCP xs ys [] ns e .nil (λi h=>nomatch h);have hi:=hG.hi;refine ⟨?_,λn hn=>by have:=lt n hn; lia⟩;have w:=zE8 xs ys [] 0 (λi=>by simp);rw [e] at w;obtain ⟨m,hm,hb⟩ : ∃ m',zBX xs ys 0 = .told m'/\zC9 m' ns:=w;rw [<- (zEP hi hb nd lt).length_eq,zCH]
 have:=yDE (λk=>m.testBit k) (List.range 12)
 rw [yCz] at this;exact this
theorem scLMask : FnScope ["_law_names_here","_law_thing","_law_numbers","_law_one"] ["_law_names_here","_law_thing"] (zA7 zEH):=by trivial
set_option maxHeartbeats 2000000 in
theorem zT9 {f : Addr} {fd : FuncData} (F : Fun K "_law_mask" "_law_mask" zEH f fd) (T : Txt mg) (msr : mg "sorted" = none) (msu : mg "sum" = none) (kk : Kit K) (k2 : Kit2 K) : FnOk P w K mg base CX0 1 f fd ["_law_names_here", "_law_thing"] zOD := by
 refine F.ok scLMask (λvs H Q E h => ?_) (λcdv A outer s H vs Q E hr h => ?_)
 ·obtain ⟨a, x, xs, r, rfl, _⟩ := h
  rfl
 obtain ⟨a,x,xs,r,rfl,ha,hG,hR,hT,q⟩:=h;obtain ⟨t,ty,ek⟩:=zJ0 k2 hR;have s1000 : 1000 < sizeLine:=by decide
 refine ⟨_, zA3 (zB7 (zBI (zBG (zAA zB3 rfl T.inst yAZ (zA0 (pv 1) (zA0 (zAY (v := .ty "list") rfl T.list yBJ rfl) zA1))))) (zA4 (zAB zCA)) zAG)
  (zA3 (zAE (i:=2) scLMask.nd rfl (Or.inl rfl) (zAQ zA1))
  (zA3 (zC8 PassesOwn.never rfl (zC5 (pv 1)) (zAH (i := 3) scLMask.nd rfl (Or.inl rfl))
   (zA3 (zB7 (PW.pt (zEA (zBI (zBG (zAA zB3 rfl T.inst yAZ (zA0 (pv 3) (zA0 (zAY (v := .ty "str") rfl T.str yCa rfl) zA1))))) (zEA (zAM zD0 (pv 3) (pv 0) (by with_unfolding_all rfl))
    (zDK (zAM zFH (zGI yBQ yDg PySem.F.type_list_index zJF (pv 0) (zA0 (pv 3) zA1)) (pv 2) (by with_unfolding_all rfl)))))) (zA4 (zAB zCA)) zAG)
   (zA4 (zCD (zGI yBQ yBu yBt zC1 (pv 2) (zA0 (zGI yBQ yDg PySem.F.type_list_index zJF (pv 0) (zA0 (pv 3) zA1)) zA1))))))
  (zA3 (zB7 (zAM (zUJ hr) (pv 2) (zAA zNZ rfl msr PyProof.Rows.boot_sorted (zA0 (pv 2) zA1)) (zAO _)) (zA4 (zAB zCA)) zAG)
  (zA4 (zAB (zAA (zP1 rfl) rfl msu PyProof.Rows.boot_sum (zA0 (zBK (xs:=["_law_number"]) (fv:=[]) rfl (by decide +kernel) trivial (zC5 (pv 2)) (λ_ _ _ _ _=>zAH (i:=0) (ndT (by decide +kernel)) rfl (Or.inl rfl)) (λ_ _ _ _ _=>zBU) (λ_ _ _ _ _=>zAC zCU zA8 (pv 0))) zA1))))))),?_⟩
 refine ⟨_,rfl,x,t,"list",_,rfl,ty,ek,_,rfl,?_⟩
 cases hb : zCX H x with
 | none =>
  rw [hb] at q;exact zC7 (q H (Same.refl _))
 | some ys =>
  rw [hb] at q;have hTy:=hT ys hb;obtain ⟨b,rfl,hbb⟩:=zER hb;have q : ∀ H',Same H H' -> Q (zDI xs ys) H':=q;rw [zEZ hG] at q;refine zBP ?_;refine ⟨(by show 0 <= sizeLine; decide),λD hD => ?_⟩;have g1:=same_new hD (.lst []);have c1 : (upd H D (.lst [])) D = some (.lst ((nI []).map V.int)):=zA2;generalize upd H D (.lst []) = H1 at g1 c1 ⊢
  have flat : xs.all zDW = true := by
   rw [yAu];intro v hv;have : v = .str (zAV v):=hG.str v hv;rw [this]; rfl
  have nDb : b≠D:=zA5 hbb hD;have nDa : a≠D:=zA5 ha hD;refine ⟨_,rfl,b,rfl,?_⟩;refine zEQ (K:=K) (ys:=ys) (.inl (SqL.of (g1 _ _ hbb))) (λi σ H'=>Same H H'/\∃ (ns : List Nat) (nm : Option V),zF2 xs (ys.take i) [] = some ns/\H' D = some (.lst ((nI ns).map V.int)) /\ σ = [some (.ref a),some (.ref b),some (.ref D),nm]) ⟨g1,[],_,rfl,c1,rfl⟩ (λi σ H' hP o ho=>by rw [g1 _ _ hbb] at ho; cases ho; exact hP.1 _ _ hbb) (λi σ H' v hi hx hP => ?_) (λσ H' hP => ?_)
  ·obtain ⟨g, ns, nm, en, cD, rfl⟩ := hP
   have et : ys.take (i + 1) = ys.take i++[v]:=by rw [yBF,hx]; rfl
   have thv:=(hTy v (yAm hx)).mono g;have ha' : SqL K H' a xs:=SqL.of (g _ _ ha);obtain ⟨l12,lt12⟩:=zLU hG en;have nxt:=zG8 xs (ys.take i) [] v;rw [<- et,en] at nxt;dsimp only at nxt
   have bad : zF2 xs (ys.take (i + 1)) [] = none -> Q .non H' := fun z => by
    have:=zSS xs (ys.take (i + 1)) [] (ys.drop (i + 1)) z
    rw [yCE] at this;have q2:=q H' g;unfold zE3 at q2;rw [this] at q2;exact q2
   obtain ⟨t',ty',ek'⟩:=zHI kk thv;refine ⟨_,rfl,v,t',"str",zUU v,rfl,ty',ek',_,rfl,?_⟩
   cases hsb : zUU v with
   | false =>
    have en : zAJ xs v = none := placeOf_none.mpr fun mm => by
     rw [hG.str v mm] at hsb
     cases hsb
    rw [en] at nxt;exact zC7 (zC7 (bad nxt))
   | true =>
    cases v with
    | str z =>
     refine zBP ⟨_,rfl,_,rfl,a,xs,rfl,.inl ha',rfl,flat,_,rfl,?_⟩;rw [zR9 hG.str]
     cases ep : zAJ xs (.str z) with
     | none =>
      rw [ep] at nxt;exact zC7 (zC7 (bad nxt))
     | some j =>
      rw [ep] at nxt;dsimp only at nxt;have hj:=zAZ ep;have jlt : j < xs.length:=(yAI.mp hj).1;have hi12:=hG.hi;have ixA : ∃ y,xs[j]? = some y/\eqV y (.str z) = true:=⟨_,hj,by show (z == z) = true; simp⟩
      have ixB : ∀ (i : Nat) y, i < j -> xs[i]? = some y -> eqV y (.str z) = false := fun i' y hi' hy => by
       have ey : y = .str (zAV y):=hG.str y (yAm hy)
       cases c : eqV y (.str z) with
       | false=>rfl
       | true =>
        rw [ey] at c;have c' : zAV y = z:=yAc.mp c;have : y = .str z:=by rw [ey,c']
        rw [this] at hy
        have:=zH3 hG.nd hy
        rw [ep] at this
        injection this with this
        lia
      have flI : ((nI ns).map V.int).all zDW = true := by
       rw [yAu]; intro u hu;obtain ⟨k,_,rfl⟩:=yAs.mp hu;rfl
      have inI : inV (.int (j : Nat)) ((nI ns).map V.int) = decide (j ∈ ns) := by
       unfold inV;rw [yAg,yAz,yAL]
       constructor
       ·rintro ⟨y, h1, h2⟩
        obtain ⟨k,hk,rfl⟩:=yAs.mp h1;obtain ⟨n,hn,rfl⟩:=yAs.mp hk;have e2 : ((n : Nat) : Int) = ((j : Nat) : Int):=yAc.mp h2;have : n = j:=by lia
        rw [<- this]; exact hn
       ·intro h
        exact ⟨.int (j : Nat),yAs.mpr ⟨_,yAs.mpr ⟨j,h,rfl⟩,rfl⟩,yAc.mpr rfl⟩
      refine zBP ⟨_,rfl,.inl ⟨rfl,_,ha'⟩,_,rfl,a,xs,.str z,j,rfl,rfl,ha',by lia,flat,rfl,ixA,ixB,_,rfl,D,_,rfl,.inl (SqL.of cD),rfl,flI,_,rfl,?_⟩;rw [yAN (by simp : ¬ false = true),inI]
      by_cases hm : j∈ns
      ·rw [yAQ hm] at nxt
       rw [yAM hm];exact zC7 (bad nxt)
      ·rw [yAN hm] at nxt
       rw [yAG hm];refine zBP ⟨_,rfl,.inl ⟨rfl,_,SqL.of cD⟩,_,rfl,.inl ⟨rfl,_,ha'⟩,_,rfl,a,xs,.str z,j,rfl,rfl,ha',by lia,flat,rfl,ixA,ixB,D,_,_,rfl,rfl,cD,?_,λc o hc => ?_,ns++[j],_,nxt,?_,rfl⟩
       ·rw [yAB,yAB]; lia
       ·rw [zA6 (zA5 hc hD)]; exact g _ _ hc
       ·rw [zA2]
        unfold nI;rw [yAU,yAU]; rfl
    | _=>cases hsb
  ·obtain ⟨g, ns, nm, en, cD, rfl⟩ := hP
   rw [yCj] at en;obtain ⟨l12,lt12⟩:=zLU hG en;unfold zE3 at q;rw [en] at q;dsimp only at q;refine ⟨_,rfl,_,rfl,D,nI ns,rfl,SqL.of cD,(by rw [yAB]; lia),λS2 ks hS2 pk sk => ?_⟩;have g2:=same_new hS2 (.lst (ks.map V.int));have c2 : (upd H' S2 (.lst (ks.map V.int))) S2 = some (.lst (ks.map V.int)):=zA2;generalize upd H' S2 (.lst (ks.map V.int)) = H2 at g2 c2 ⊢;have cD2:=g2 _ _ cD;refine ⟨.list ((nI ns).map .int),.list (ks.map .int),.lst (SqL.of cD2) (DVs.ints _),.lst (SqL.of c2) (DVs.ints ks),zC6 _,zC6 _,?_,?_⟩
   ·have := zCL (nI ns)
    simp only [PyData.depth];lia
   rw [zSF,yAQ rfl];refine ⟨_,rfl,?_⟩;have key:=zHB hG en pk sk
   by_cases c : nI ns = ks
   ·rw [yAM c]
    rw [yAQ (key.mp c)] at q;refine zBP ?_;refine ⟨_,rfl,D,rfl,?_⟩;refine zCR (K:=K) (ys:=(nI ns).map V.int) (.inl (SqL.of cD2)) (λi E' H3=>Same H2 H3/\H3 E' = some (.lst (((ns.take i).map λn=>(1 : Int) * 2 ^ ((n : Nat) : Int).toNat).map V.int))) (λE' hE'=>⟨same_new hE' _,zA2⟩) (λi E' H3 hE' hP=>hP.1.at1 D) (λi E' H3 x hE' hi hx hP => ?_) (λE' H3 hE' hP => ?_)
    ·obtain ⟨g3, l3⟩ := hP
     rw [yAB,yAB] at hi;rw [yAe,yAe,yAA hi] at hx
     cases hx
     have lt:=lt12 _ (yAn hi);refine ⟨rfl,?_⟩;unfold zJP;dsimp only;rw [yAQ rfl];refine ⟨_,rfl,_,_,rfl,rfl,⟨by lia,by lia,by decide⟩,_,l3,?_,λc o hc => ?_,?_⟩
     ·rw [yAB,yAB,yAp]; lia
     ·rw [zA6 (zA5 hc hE')]; exact g3 _ _ hc
     ·rw [zA2,yBF,yAA hi,yAU,yAU]; rfl
    ·obtain ⟨g3, l3⟩ := hP
     rw [yAB,yAB,yCj] at l3;refine ⟨E',_,rfl,SqL.of l3,?_⟩;rw [zd0];exact q H3 ((g.trans g2).trans g3)
   ·rw [yAG c]
    rw [yAN (λz=>c (key.mpr z))] at q;exact zC7 (q H2 (g.trans g2))
noncomputable def FstTh (H : Hp) (y : V) : Prop:=∀ a b,zLY H y = some [a,b] -> Th H a
noncomputable def zUN (K : PySem.W.Frag) : Sp:=λvs H Q _=>∃ a ma xs ms m y r u,vs = [.ref a,.ref ma,.int m,y]/\H a = some (.lst xs)/\GN xs/\Sq K H ma (IV ms)/\ms.length <= 1000/\(∀ o∈ms,0 <= o)/\Row H y r/\FstTh H y/\ShW K H xs ms m y u/\∀ H',Same H H' -> Q (.bl u) H'
theorem zL3 {ms : List Int} {l : Nat} (h0 : ∀ o ∈ ms, 0 <= o) : zNF ms (l : Nat) = ms.all fun o => decide (0 < Builtin.bitAnd (l : Nat) o) := by
 unfold zNF;rw [yAg,yAu,yBb,yDB]
 constructor
 ·intro h o ho
  have:=h o ho
  obtain ⟨x,rfl⟩:=yAw (h0 o ho);rw [zBT,yAL] at this;rw [zBT,yAL,Nat.and_comm];lia
 ·intro h o ho
  have:=h o ho
  obtain ⟨x,rfl⟩:=yAw (h0 o ho);rw [zBT,yAL,Nat.and_comm] at this;rw [zBT,yAL];lia
theorem zIP {K : PySem.W.Frag} {H : Hp} {a : V} {d : PyData} (h : DV K H a d) (e : zUU a = false) (z : Str) : PyData.eqv d (.str z) = false := by
 cases h with
 | str x=>cases e
 | _=>rfl
theorem scLDue : FnScope ["_law_names_here","_law_masks_here","_law_fallen","_law_thing","_law_mask_here"] ["_law_names_here","_law_masks_here","_law_fallen","_law_thing"] (zA7 zFO):=by trivial
set_option maxHeartbeats 2000000 in
theorem zWY {f c1 c2 : Addr} {fd e1 e2 : FuncData} (F : Fun K "_law_due" "_law_due" zFO f fd) (T : Txt mg) (mt : mg "tuple" = none) (kk : Kit K) (k2 : Kit2 K) (DM : Def P w K mg base 1 "_law_mask" ["_law_names_here", "_law_thing"] zOD c1 e1) (DX : Def P w K mg base 1 "_law_meets" ["_law_masks_here", "_law_mask_here"] (zMC K) c2 e2) :
  FnOk P w K mg base CX0 2 f fd ["_law_names_here","_law_masks_here","_law_fallen","_law_thing"] (zUN K):=by
 refine F.ok scLDue (λvs H Q E h => ?_) (λcdv A outer s H vs Q E hr h => ?_)
 ·obtain ⟨a, ma, xs, ms, m, y, r, u, rfl, _⟩ := h
  rfl
 obtain ⟨a,ma,xs,ms,m,y,r,u,rfl,ha,hG,hma,few,h0,hR,hF,hW,q⟩:=h;have hr1 : Room 1 _:=hr.mono (by decide);obtain ⟨ty,tyo,ek⟩:=zM7 k2 hR
 refine ⟨_, zA3 (zB7 (PW.pt (zEA (zBI (zBG (zAA zB3 rfl T.inst yAZ (zA0 (pv 3) (zA0 (zAY (v := .ty "tuple") rfl mt yAv rfl) zA1))))) (zEA (zAM zSH (zAA zAF rfl T.len yBC (zA0 (pv 3) zA1)) zA8 (zAO _))
    (zDK (zBI (zBG (zAA zB3 rfl T.inst yAZ (zA0 (zBQ zF0 (pv 3) zA8 (λ_ _=>rfl)) (zA0 (zAY (v := .ty "str") rfl T.str yCa rfl) zA1))))))))) (zA4 (zAB zDJ)) zAG)
  (zA3 (zAE (i:=4) scLDue.nd rfl (Or.inl rfl) (zA9 DM.ok hr1 rfl DM.m DM.k DM.b .nil zAD (zA0 (pv 0) (zA0 (zBQ zF0 (pv 3) zA8 (λ_ _=>rfl)) zA1))))
  (zA3 (zB7 (zAM zUK (pv 4) zCA (zAO _)) (zA4 (zAB zDJ)) zAG)
  (zA3 (zB7 (zAM (zH5 hr) (zBQ zF0 (pv 3) zA8 (λ_ _=>rfl)) zBB (zAO _)) (zA4 (zAB (zDL (zBN zFH (pv 4) (pv 1) (by rfl)) (zEW (zBN zF3 (zAC zCI (pv 4) (pv 2)) zA8 (zAO _)))))) zAG)
  (zA4 (zAB (zDL (zBN (zH5 hr) (zBQ zF0 (pv 3) zA8 (λ_ _=>rfl)) zBB (zAO _)) (zDL (zBN zF3 (zAC zCI (pv 4) (pv 2)) (pv 4) (zAO _)) (zEW (zA9 DX.ok hr1 rfl DX.m DX.k DX.b .nil zAD (zA0 (pv 1) (zA0 (pv 4) zA1))))))))))),?_⟩
 refine ⟨_,rfl,y,ty,"tuple",_,rfl,tyo,ek,_,rfl,?_⟩;unfold ShW at hW
 cases hb : zLY H y with
 | none =>
  rw [hb] at hW;subst hW;exact zC7 (zC7 (q H (Same.refl _)))
 | some vs =>
  rw [hb] at hW;have hF:=hF;unfold FstTh at hF;rw [hb] at hF;obtain ⟨t,rfl,ht⟩:=zG4 hb;refine zBP ?_;refine ⟨_,rfl,t,_,rfl,.inr (SqT.of ht),rfl,_,rfl,?_⟩
  rcases hW with ⟨ne,rfl⟩ | ⟨x,b,rb,d,rfl,hRb,hTb,hd,cl0,dp,rfl⟩
  ·rw [yAG (show ¬ V.int (vs.length : Int) = V.int 2 from fun z => ne (by injection z with z; lia))]
   exact zC7 (zC7 (q H (Same.refl _)))
  have thx:=hF x b rfl;obtain ⟨tx,tyx,ekx⟩:=zHI kk thx;refine zBP ?_;refine ⟨_,rfl,t,_,0,_,rfl,rfl,SqT.of ht,rfl,x,tx,"str",zUU x,rfl,tyx,ekx,_,rfl,?_⟩
  cases hsx : zUU x with
  | false =>
   have e1:=zIP hd hsx "stands";have e2:=zIP hd hsx "falls"
   have ev : zD6 ms m d (zHN xs (zCX H b)) = false := by
    rcases zDS xs (zCX H b) with e | ⟨l,e⟩
    ·rw [e]; rfl
    ·rw [e]
     show (if PyData.eqv d (.str "stands") = true then _ else _) = _;rw [e1,e2]; rfl
   rw [ev] at q;exact zC7 (q H (Same.refl _))
  | true =>
  refine zBP ?_;refine ⟨_,rfl,_,rfl,t,_,1,_,rfl,rfl,SqT.of ht,rfl,a,b,xs,rb,rfl,ha,hG,hRb,hTb,λH2 g2 => ?_⟩;have t2:=g2 _ _ ht
  rcases zDS xs (zCX H b) with e | ⟨l,e⟩
  ·rw [e] at q ⊢
   refine ⟨_,rfl,rfl,_,rfl,?_⟩;exact zC7 (q H2 g2)
  rw [e] at q ⊢;refine ⟨_,rfl,rfl,_,rfl,?_⟩;rw [yAG (λz=>nomatch z)];refine zBP ?_;have hd2:=hd.mono g2;have hma2 : Sq K H2 ma (IV ms):=hma.at1 (g2.at1 ma);refine ⟨_,rfl,t,_,0,_,rfl,rfl,SqT.of t2,rfl,d,.str "stands",hd2,.str _,cl0,(by decide +kernel),dp,_,rfl,?_⟩;rw [yAN (by simp : ¬ false = true)];have q2:=q H2 g2
  cases es : PyData.eqv d (.str "stands") with
  | true =>
   have ev : zD6 ms m d (.int (l : Nat)) = (inV (.int (l : Nat)) (IV ms) && decide (V.int (Builtin.bitAnd (l : Nat) m) = V.int 0)) := by
    show (if PyData.eqv d (.str "stands") = true then _ else _) = _;rw [es]; rfl
   rw [ev] at q2;refine zC7 ?_;refine ⟨_,rfl,_,rfl,ma,_,rfl,hma2,rfl,zRR ms,_,rfl,?_⟩;rw [yAN (by simp : ¬ false = true)]
   cases hi : inV (.int (l : Nat)) (IV ms) with
   | false=>rw [hi] at q2; exact zBP q2
   | true =>
    rw [hi] at q2;refine zC7 ⟨_,rfl,_,rfl,_,_,rfl,rfl,rfl,?_⟩;rw [yBn] at q2;exact q2
  | false =>
   have ev : zD6 ms m d (.int (l : Nat)) = (PyData.eqv d (.str "falls") && decide (V.int (Builtin.bitAnd (l : Nat) m) = V.int (l : Nat)) && ms.all fun o => decide (0 < Builtin.bitAnd (l : Nat) o)) := by
    show (if PyData.eqv d (.str "stands") = true then _ else _) = _;rw [es]; rfl
   rw [ev] at q2;have qa:=λH' g'=>q H' g';rw [ev] at qa;refine zBP ?_;refine ⟨_,rfl,t,_,0,_,rfl,rfl,SqT.of t2,rfl,d,.str "falls",hd2,.str _,cl0,(by decide +kernel),dp,_,rfl,?_⟩;rw [yAN (by simp : ¬ false = true)]
   cases ef : PyData.eqv d (.str "falls") with
   | false=>rw [ef] at q2; exact zBP q2
   | true =>
    rw [ef] at q2 qa;refine zC7 ⟨_,rfl,_,rfl,_,_,rfl,rfl,_,rfl,rfl,_,rfl,?_⟩
    cases el : decide (V.int (Builtin.bitAnd (l : Nat) m) = V.int (l : Nat)) with
    | false=>rw [el] at q2; exact zBP q2
    | true =>
     rw [el] at qa;refine zC7 ?_;refine ⟨_,rfl,_,rfl,ma,ms,_,rfl,hma2,few,λH3 g3 => ?_⟩;rw [zL3 h0];exact qa H3 (g2.trans g3)
noncomputable def zFV (v : V) : Prop:=v = .non \/ (∃ c,v = .bl c) \/ v = .int 1 \/ ∃ z,v = .str z/\PyData.strOk z = true/\z.length <= 10
noncomputable def zbH (b : Addr) (H : Hp) (v : V) (xs : List V) : Prop:=∃ a,v = .ref a/\a≠b/\(H a = some (.lst xs) \/ H a = some (.tup xs))/\xs.length <= 25
noncomputable def TN (b : Addr) (H : Hp) : Nat -> V -> Prop
 | 0,v=>zFV v
 | n + 1,v=>zFV v \/ ∃ xs,zbH b H v xs/\∀ x∈xs,TN b H n x
theorem TN.away {b : Addr} {H H' : Hp} (g : Away b H H') : ∀ {n : Nat} {v : V}, TN b H n v -> TN b H' n v
 | 0,_,h=>h
 | n + 1,_,.inl h => .inl h
 | n + 1,_,.inr ⟨xs,⟨a,e,ne,c,l⟩,al⟩ => .inr ⟨xs,⟨a,e,ne,c.imp (λh=>g _ _ h ne) (λh=>g _ _ h ne),l⟩,λx hx=>(al x hx).away g⟩
theorem TN.leaf {b : Addr} {H : Hp} : ∀ {n : Nat} {v : V}, zFV v -> TN b H n v
 | 0,_,h=>h
 | _ + 1,_,h => .inl h
theorem TN.up {b : Addr} {H : Hp} : ∀ {n : Nat} {v : V}, TN b H n v -> TN b H (n + 1) v
 | 0,_,h => .inl h
 | _ + 1,_,.inl h => .inl h
 | _ + 1,_,.inr ⟨xs,r,al⟩ => .inr ⟨xs,r,λx hx=>(al x hx).up⟩
theorem zE1 {z : Str} (h : PyData.strOk z = true) (l : z.length <= 10) : zFV (.str z) := .inr (.inr (.inr ⟨z,rfl,h,l⟩))
theorem zII {xs : List V} (hG : GN xs) {v : V} (h : v ∈ xs) : zFV v := by
 have e:=hG.str v h;have a:=hG.sok v h;have l:=hG.six v h;rw [e];exact zE1 a (by lia)
theorem TN.lst {b a : Addr} {H : Hp} {n : Nat} {xs : List V} (h : H a = some (.lst xs)) (ne : a≠b) (l : xs.length <= 25) (al : ∀ x∈xs,TN b H n x) : TN b H (n + 1) (.ref a) := .inr ⟨xs,⟨a,rfl,ne,.inl h,l⟩,al⟩
theorem TN.tup {b a : Addr} {H : Hp} {n : Nat} {xs : List V} (h : H a = some (.tup xs)) (ne : a≠b) (l : xs.length <= 25) (al : ∀ x∈xs,TN b H n x) : TN b H (n + 1) (.ref a) := .inr ⟨xs,⟨a,rfl,ne,.inr h,l⟩,al⟩
noncomputable def TNs (b : Addr) (H : Hp) (n : Nat) (xs : List V) : Prop:=∀ x∈xs,TN b H n x
theorem TNs.away {b : Addr} {H H' : Hp} {n : Nat} {xs : List V} (h : TNs b H n xs) (g : Away b H H') : TNs b H' n xs:=λx hx=>(h x hx).away g
theorem TNs.app {b : Addr} {H : Hp} {n : Nat} {xs ys : List V} (h : TNs b H n xs) (h' : TNs b H n ys) : TNs b H n (xs++ys):=λx hx=>(yAa.mp hx).elim (h x) (h' x)
theorem TNs.cons {b : Addr} {H : Hp} {n : Nat} {x : V} {xs : List V} (h : TN b H n x) (h' : TNs b H n xs) : TNs b H n (x::xs):=λy hy=>(yAb.mp hy).elim (λe=>e ▸ h) (h' y)
theorem TNs.nil {b : Addr} {H : Hp} {n : Nat} : TNs b H n []:=λ_ h=>nomatch h
theorem zT7 {xs : List V} {lo hi : Option Int} {v : V} (h : v ∈ zQ3 xs lo hi) : v ∈ xs := by
 unfold zQ3 at h;exact List.mem_of_mem_drop (List.mem_of_mem_take h)
theorem TNs.cut {b : Addr} {H : Hp} {n : Nat} {xs : List V} (h : TNs b H n xs) (lo hi : Option Int) : TNs b H n (zQ3 xs lo hi):=λx hx=>h x (zT7 hx)
noncomputable def Tg (b : Addr) (H : Hp) (y : V) : Prop:=TN b H 3 y \/ ∃ a,y = .ref a/\a≠b/\H a = some (.dK [])
theorem Tg.away {b : Addr} {H H' : Hp} {y : V} (g : Away b H H') (h : Tg b H y) : Tg b H' y:=h.imp (λh=>h.away g) λ⟨a,e,ne,h⟩=>⟨a,e,ne,g _ _ h ne⟩
noncomputable def Tgs (b : Addr) (H : Hp) (ys : List V) : Prop:=∀ y∈ys,Tg b H y
theorem Tgs.away {b : Addr} {H H' : Hp} {ys : List V} (h : Tgs b H ys) (g : Away b H H') : Tgs b H' ys:=λx hx=>(h x hx).away g
theorem Tgs.app {b : Addr} {H : Hp} {xs ys : List V} (h : Tgs b H xs) (h' : Tgs b H ys) : Tgs b H (xs++ys):=λx hx=>(yAa.mp hx).elim (h x) (h' x)
theorem Tgs.cons {b : Addr} {H : Hp} {x : V} {xs : List V} (h : Tg b H x) (h' : Tgs b H xs) : Tgs b H (x::xs):=λy hy=>(yAb.mp hy).elim (λe=>e ▸ h) (h' y)
theorem Tgs.nil {b : Addr} {H : Hp} : Tgs b H []:=λ_ h=>nomatch h
noncomputable def dOf : Nat -> Nat
 | 0=>10
 | n + 1=>25 * (dOf n + 1)
structure Dd (n : Nat) (d : PyData) : Prop where
 lay : d.canLay0 = true
 shw : d.showable = true
 dep : d.depth <= n + 1
 lvs : d.leavesShort 8 = true
 blk : d.bulk <= dOf n
theorem zIF {K : PySem.W.Frag} {H : Hp} {v : V} (h : zFV v) : ∃ d, DV K H v d /\ Dd 0 d := by
 rcases h with rfl | ⟨c,rfl⟩ | rfl | ⟨z,rfl,ok,l⟩
 ·exact ⟨_,.non,rfl,rfl,by simp only [PyData.depth]; lia,rfl,by simp only [PyData.bulk]; lia⟩
 ·exact ⟨_,.bl c,rfl,rfl,by simp only [PyData.depth]; lia,rfl,by simp only [PyData.bulk]; lia⟩
 ·exact ⟨_,.int 1,rfl,by decide +kernel,by simp only [PyData.depth]; lia,by decide +kernel,by simp only [PyData.bulk]; lia⟩
 ·refine ⟨_, .str z, ?_, rfl, by simp only [PyData.depth]; lia, ?_, ?_⟩
  ·simp only [PyData.canLay0]; exact ok
  ·simp only [PyData.leavesShort, yAu, yAL]
   intro c hc;have h1 : z.cps.all (· < 0x110000) = true:=ok;rw [<- Array.all_toList,yAu] at h1
   have:=yAj (h1 c hc)
   lia
  ·have : z.cps.size = z.length := rfl
   simp only [PyData.bulk];show z.cps.size <= 10;lia
structure Dds (n k : Nat) (ds : List PyData) : Prop where
 lay : PyData.canLayAll0 ds = true
 shw : PyData.showableAll ds = true
 dep : PyData.depthAll ds <= n + 1
 lvs : PyData.leavesShortAll 8 ds = true
 blk : PyData.bulkAll ds <= k * (dOf n + 1)
theorem zUV {K : PySem.W.Frag} {H : Hp} {n : Nat} : ∀ {xs : List V}, (∀ x ∈ xs, ∃ d, DV K H x d /\ Dd n d) -> ∃ ds, DVs K H xs ds /\ Dds n xs.length ds
 | [],_=>⟨[],.nil,rfl,rfl,by simp only [PyData.depthAll]; lia,rfl,by simp only [PyData.bulkAll]; lia⟩
 | x::xs,h=>by
  obtain ⟨d,hd,D⟩:=h x (yAR ..);obtain ⟨ds,hds,E⟩:=zUV λy hy=>h y (yAO _ hy);refine ⟨d::ds,.cons hd hds,?_,?_,?_,?_,?_⟩
  ·simp only [PyData.canLayAll0,D.lay,E.lay]; rfl
  ·simp only [PyData.showableAll,D.shw,E.shw]; rfl
  ·have:=D.dep; have:=E.dep; simp only [PyData.depthAll]; lia
  ·simp only [PyData.leavesShortAll,D.lvs,E.lvs]; rfl
  ·have h1 := D.blk
   have h2:=E.blk;simp only [PyData.bulkAll,yBA];rw [Nat.add_mul];lia
theorem TN.data {K : PySem.W.Frag} {b : Addr} {H : Hp} : ∀ {n : Nat} {v : V}, TN b H n v -> ∃ d, DV K H v d /\ Dd n d
 | 0,_,h=>zIF h
 | n + 1,v,.inl h=>by
  obtain ⟨d,hd,D⟩:=zIF (K:=K) (H:=H) h;refine ⟨d,hd,D.lay,D.shw,by have:=D.dep; lia,D.lvs,?_⟩;have h1:=D.blk
  have : ∀ n, 10 <= dOf n := fun n => by
   induction n with
   | zero=>exact yAE _
   | succ n ih=>show 10 <= 25 * (dOf n + 1); lia
  have:=this (n + 1)
  have h1 : d.bulk <= 10:=h1;lia
 | n + 1,v,.inr ⟨xs,⟨a,e,ne,c,l⟩,al⟩=>by
  obtain ⟨ds,hds,E⟩:=zUV (K:=K) λx hx=>(al x hx).data;subst e
  have bb : PyData.bulkAll ds <= dOf (n + 1) := by
   have h1:=E.blk;have h2:=Nat.mul_le_mul_right (dOf n + 1) l;show _ <= 25 * (dOf n + 1);lia
  have dd : PyData.depthAll ds + 1 <= n + 1 + 1:=by have:=E.dep; lia
  rcases c with h | h
  ·refine ⟨.list ds, .lst (SqL.of h) hds, ?_, ?_, ?_, ?_, ?_⟩
   ·simp only [PyData.canLay0]; exact E.lay
   ·simp only [PyData.showable]; exact E.shw
   ·simp only [PyData.depth]; lia
   ·simp only [PyData.leavesShort]; exact E.lvs
   ·simp only [PyData.bulk]; exact bb
  ·refine ⟨.tuple ds, .tup (SqT.of h) hds, ?_, ?_, ?_, ?_, ?_⟩
   ·simp only [PyData.canLay0]; exact E.lay
   ·simp only [PyData.showable]; exact E.shw
   ·simp only [PyData.depth]; lia
   ·simp only [PyData.leavesShort]; exact E.lvs
   ·simp only [PyData.bulk]; exact bb
theorem TN.th {b : Addr} {H : Hp} {n : Nat} {v : V} (h : TN b H n v) : Th H v := by
 have lf : zFV v -> Th H v := fun h => by
  rcases h with rfl | ⟨c,rfl⟩ | rfl | ⟨z,rfl,ok,l⟩
  ·exact True.intro
  ·exact True.intro
  ·exact True.intro
  ·show z.length <= 100000; lia
 cases n with
 | zero=>exact lf h
 | succ n =>
  rcases h with h | ⟨xs,⟨a,rfl,ne,c,l⟩,al⟩
  ·exact lf h
  ·rcases c with h | h
   ·exact .inl ⟨_,h⟩
   ·exact .inr (.inl ⟨_,h⟩)
theorem TN.row {b : Addr} {H : Hp} {n : Nat} {v : V} (h : TN b H n v) : ∃ r, Row H v r := by
 have lf : zFV v -> ∃ r, Row H v r := fun h => by
  rcases h with rfl | ⟨c,rfl⟩ | rfl | ⟨z,rfl,ok,l⟩
  ·exact ⟨_,.non⟩
  ·exact ⟨_,.bl c⟩
  ·exact ⟨_,.int 1⟩
  ·exact ⟨_,.str z⟩
 cases n with
 | zero=>exact lf h
 | succ n =>
  rcases h with h | ⟨xs,⟨a,rfl,ne,c,l⟩,al⟩
  ·exact lf h
  ·rcases c with h | h
   ·exact ⟨_,.lst h⟩
   ·exact ⟨_,.tup h⟩
theorem zNK {a : Addr} (h : zFV (.ref a)) : False := by
 rcases h with h | ⟨c,h⟩ | h | ⟨z,h,_⟩ <;> cases h
theorem TN.items {b : Addr} {H : Hp} {n : Nat} {y : V} {ys : List V} (h : TN b H (n + 1) y) (e : zCX H y = some ys \/ zLY H y = some ys) : ∀ v ∈ ys, TN b H n v := by
 have go : ∀ a, y = .ref a -> (H a = some (.lst ys) \/ H a = some (.tup ys)) -> ∀ v ∈ ys, TN b H n v := fun a ea ca => by
  subst ea
  rcases h with h | ⟨xs,⟨a',e',ne,c,l⟩,al⟩
  ·exact (zNK h).elim
  ·cases e'
   have : xs = ys := by
    rcases c with c | c <;> rcases ca with ca | ca <;> rw [c] at ca <;> cases ca <;> rfl
   rw [<- this]; exact al
 rcases e with e | e
 ·obtain ⟨a, ea, ha⟩ := zER e
  exact go a ea (.inl ha)
 ·obtain ⟨a, ea, ha⟩ := zG4 e
  exact go a ea (.inr ha)
theorem Tg.use {K : PySem.W.Frag} {b : Addr} {H : Hp} {y : V} (xs : List V) (ms : List Int) (m : Int) (h : Tg b H y) : ∃ r u, Row H y r /\ FstTh H y /\ ShW K H xs ms m y u := by
 rcases h with h | ⟨a,rfl,ne,h⟩
 ·obtain ⟨r, hr⟩ := h.row
  refine ⟨r,?_⟩
  suffices q : ∃ u, ShW K H xs ms m y u by
   obtain ⟨u,hu⟩:=q;exact ⟨u,hr,λa b' e=>((h.items (.inr e)) a (yAR ..)).th,hu⟩
  unfold ShW
  cases e : zLY H y with
  | none=>exact ⟨false,rfl⟩
  | some vs =>
   have it:=h.items (.inr e)
   by_cases l2 : vs.length = 2
   ·obtain ⟨a, b', rfl⟩ : ∃ a b', vs = [a, b'] := by
     match vs,l2 with
     | [a,b'],_=>exact ⟨a,b',rfl⟩
    obtain ⟨d,hd,D⟩:=(it a (yAR ..)).data (K:=K);have hb':=it b' (yAO _ (yAR ..));obtain ⟨rb,hrb⟩:=hb'.row;exact ⟨_,.inr ⟨a,b',rb,d,rfl,hrb,λys ey v hv=>((hb'.items (.inl ey)) v hv).th,hd,D.lay,by have:=D.dep; lia,rfl⟩⟩
   ·exact ⟨false,.inl ⟨l2,rfl⟩⟩
 ·have e0 : zLY H (.ref a) = none := by show hoT (H a) = none; rw [h]; rfl
  refine ⟨_,false,.dK h,λa b' e => ?_,?_⟩
  ·rw [e0] at e; cases e
  ·unfold ShW; rw [e0]
theorem zKE {zs ms : List Int} (p : zs.Perm ms) (m : Int) (d : PyData) (v : V) : zD6 zs m d v = zD6 ms m d v := by
 cases v with
 | int l =>
  show (if _ then _ else _) = (if _ then _ else _)
  have e1 : inV (.int l) (IV zs) = inV (.int l) (IV ms) := by
   unfold inV;rw [yAg,yAz,yAz];exact ⟨λ⟨y,h1,h2⟩=>⟨y,(p.map V.int).mem_iff.mp h1,h2⟩,λ⟨y,h1,h2⟩=>⟨y,(p.map V.int).mem_iff.mpr h1,h2⟩⟩
  have e2 : (zs.all fun o => decide (0 < Builtin.bitAnd l o)) = ms.all fun o => decide (0 < Builtin.bitAnd l o) := by
   rw [yAg,yAu,yAu];exact ⟨λh o ho=>h o (p.mem_iff.mpr ho),λh o ho=>h o (p.mem_iff.mp ho)⟩
  rw [e1,e2]
 | _=>rfl
theorem ShW.perm {K : PySem.W.Frag} {H : Hp} {xs : List V} {zs ms : List Int} {m : Int} {y : V} {u : Bool} (p : zs.Perm ms) (h : ShW K H xs zs m y u) : ShW K H xs ms m y u := by
 unfold ShW at h ⊢
 cases e : zLY H y with
 | none=>rw [e] at h; exact h
 | some vs =>
  rw [e] at h
  rcases h with h | ⟨a,b,rb,d,h1,h2,h3,h4,h5,h6,h7⟩
  ·exact .inl h
  ·exact .inr ⟨a,b,rb,d,h1,h2,h3,h4,h5,h6,by rw [h7,zKE p]⟩
theorem Tg.shown {K : PySem.W.Frag} {b : Addr} {H : Hp} {y : V} (h : Tg b H y) : ∃ z, ∀ H', Same H H' -> ∀ Q : VK, Q (.str z) H' -> RX K [y] H' Q := by
 rcases h with h | ⟨a,rfl,ne,h⟩
 ·obtain ⟨d, hd, D⟩ := h.data (K := K)
  refine ⟨d.shown,λH' g Q q => .mk (.inl ⟨_,d,rfl,hd.mono g,D.shw,PyData.hasDict_of_canLay d D.lay,by have:=D.dep; lia,?_,q⟩)⟩;have q1:=PyData.shown_le_bulk 8 (by decide) _ D.lvs;have q2:=D.blk;have e4 : dOf 3 = 172525:=by decide +kernel
  have z : 16777216 <= sizeLine:=by decide
  lia
 ·refine ⟨(PyData.dict []).shown, fun H' g Q q => .mk (.inr ⟨_, .dict [], rfl, .dct (kvs := []) (g _ _ h) .nil, rfl, by simp only [PyData.depth, PyData.depthKv]; lia, ?_, q⟩)⟩
  have q1:=PyData.shown_le_bulk 8 (by decide) (.dict []) rfl;have e : (PyData.dict []).bulk = 0:=by simp only [PyData.bulk,PyData.bulkKv]
  have z : 16777216 <= sizeLine:=by decide
  lia
structure Pm where
 b : Addr
 nm : Addr
 ma : Addr
 t : Addr
 D : Addr
 xs : List V
 nt : List V
 ms : List Int
 m : Int
 w : Str
structure Pk (p : Pm) : Prop where
 G : GN p.xs
 N : ∀ v∈p.nt,zFV v
 l : p.nt.length <= 12
 w : zFV (.str p.w)
 h8 : p.xs.length <= 8
 m0 : 0 <= p.m
 m1 : p.m < 2 ^ p.xs.length
 e : p.nm≠p.b/\p.ma≠p.b/\p.t≠p.b/\p.D≠p.b
structure Ls (b : Addr) (H : Hp) (n k : Nat) (q : Addr) (zs : List V) : Prop where
 c : H q = some (.lst zs)
 T : TNs b H n zs
 l : zs.length <= k
 e : q≠b
theorem Ls.away {b q : Addr} {H H' : Hp} {n k : Nat} {zs : List V} (h : Ls b H n k q zs) (g : Away b H H') : Ls b H' n k q zs:=⟨g _ _ h.c h.e,h.T.away g,h.l,h.e⟩
structure Fg (p : Pm) (L A : Addr) (la aa : List V) (H : Hp) : Prop where
 bx : BoxAt H p.b
 cn : H p.nm = some (.lst p.xs)
 cm : H p.ma = some (.lst (IV p.ms))
 ct : H p.t = some (.tup [.str p.w,.ref p.D])
 cD : H p.D = some (.lst p.nt)
 cL : Ls p.b H 1 12 L la
 cA : Ls p.b H 1 12 A aa
theorem zE7 {xs : List V} (hG : GN xs) (m : Int) : ∀ v ∈ setV xs m, zFV v := fun v hv => by
 rw [zFS] at hv;obtain ⟨k,_,rfl⟩:=yAs.mp hv;rw [yAo]
 rcases yBo k xs.length with c | c
 ·rw [yAA c]
  exact zII hG (yAn c)
 ·rw [yBr c]
  exact .inl rfl
theorem zTW {b : Addr} {H : Hp} {n : Nat} {xs : List V} (h : ∀ v∈xs,zFV v) : TNs b H n xs:=λx hx=>TN.leaf (h x hx)
noncomputable def zM0 : Sp:=λvs H Q _=>∃ b nm ma t D xs ms m,∃ w : Str,∃ l,vs = [.ref b,.ref nm,.ref ma,.int m,.ref t]/\BoxAt H b/\nm≠b/\ma≠b/\t≠b/\D≠b/\H nm = some (.lst xs)/\GN xs/\xs.length <= 8/\H ma = some (.lst (IV ms))/\ms.length <= 100/\MsOk xs.length ms/\0 <= m/\m < 2 ^ xs.length/\(w = "stands" \/ w = "falls")/\H t = some (.tup [.str w,.ref D])/\H D = some (.lst (setV xs l))/\0 <= l/\l < 2 ^ xs.length/\∀ y H',Away b H H' -> BoxAt H' b -> Tg b H' y -> Q y H'
noncomputable def zSO (p : Pm) (L A : Addr) (one : V) (o11 o12 o13 : Option V) : St:=[some (.ref p.b),some (.ref p.nm),some (.ref p.ma),some (.int p.m),some (.ref p.t),some (.str p.w),some (.ref p.D),some (.int (2 ^ p.xs.length - 1)),some one,some (.ref L),some (.ref A),o11,o12,o13]
noncomputable def cT : Option V -> Option V -> Prop:=λ_ _=>True
noncomputable def cI : Option V -> Option V -> Prop:=λx y=>(∃ a,x = some (.int a))/\∃ a,y = some (.int a)
noncomputable def Iv (p : Pm) (c : Option V -> Option V -> Prop) (σ : St) (H : Hp) : Prop:=∃ L A la aa one o11 o12 o13,σ = zSO p L A one o11 o12 o13/\zFV one/\c o12 o13/\Fg p L A la aa H
section
variable {p : Pm} {c : Option V -> Option V -> Prop} {σ : St} {H H' : Hp} {n k k' : Nat}
theorem Fg.away {L A : Addr} {la aa : List V} (K : Pk p) (f : Fg p L A la aa H) (g : Away p.b H H') (bx : BoxAt H' p.b) : Fg p L A la aa H':=⟨bx,g _ _ f.cn K.e.1,g _ _ f.cm K.e.2.1,g _ _ f.ct K.e.2.2.1,g _ _ f.cD K.e.2.2.2,f.cL.away g,f.cA.away g⟩
theorem Iv.away (K : Pk p) (h : Iv p c σ H) (g : Away p.b H H') (bx : BoxAt H' p.b) : Iv p c σ H':=let ⟨L,A,la,aa,one,a,b,d,e,h1,h2,f⟩:=h; ⟨L,A,la,aa,one,a,b,d,e,h1,h2,f.away K g bx⟩
theorem Iv.bx (h : Iv p c σ H) : BoxAt H p.b:=let ⟨_,_,_,_,_,_,_,_,_,_,_,f⟩:=h; f.bx
theorem zB4 {b q : Addr} {o : HO} (bx : BoxAt H b) (h : H q = none) : Away b H (upd H q o)/\BoxAt (upd H q o) b/\q≠b:=⟨zAN (same_new h o),bx.same (same_new h o),(bx.ne h).symm⟩
theorem Ls.tn {b q : Addr} {zs : List V} (h : Ls b H n k q zs) (hk : k <= 25) : TN b H (n + 1) (.ref q):=TN.lst h.c h.e (yAk h.l hk) h.T
theorem Pk.nt (K : Pk p) {L A : Addr} {la aa : List V} (f : Fg p L A la aa H) : Ls p.b H 1 12 p.D p.nt:=⟨f.cD,zTW K.N,K.l,K.e.2.2.2⟩
theorem Pk.told (K : Pk p) {L A : Addr} {la aa : List V} (f : Fg p L A la aa H) : TNs p.b H 2 [.str p.w,.ref p.D]:=TNs.cons (TN.leaf K.w) (TNs.cons ((K.nt f).tn (by decide)) TNs.nil)
noncomputable def tN (p : Pm) (c : Option V -> Option V -> Prop) (n : Nat) : TE:=λσ H Q=>Iv p c σ H/\∀ v H',Away p.b H H' -> BoxAt H' p.b -> TN p.b H' n v -> Q v H'
noncomputable def tL (p : Pm) (c : Option V -> Option V -> Prop) (k : Nat) : TE:=λσ H Q=>Iv p c σ H/\∀ q zs H',Away p.b H H' -> BoxAt H' p.b -> Ls p.b H' 1 k q zs -> Q (.ref q) H'
noncomputable def tG (p : Pm) (c : Option V -> Option V -> Prop) : TE:=λσ H Q=>Iv p c σ H/\∀ v H',Away p.b H H' -> BoxAt H' p.b -> Tg p.b H' v -> Q v H'
noncomputable def tA (p : Pm) (c : Option V -> Option V -> Prop) (k : Nat) : TA:=λσ H Q=>Iv p c σ H/\∀ vs H',Away p.b H H' -> BoxAt H' p.b -> vs.length = k -> Tgs p.b H' vs -> Q vs H'
noncomputable def tP (p : Pm) (c : Option V -> Option V -> Prop) : TO:=λσ H Q=>Iv p c σ H/\∀ o,Q o H
variable {X : Cx} {e : Expr} {es : List Expr} {eo : Option Expr}
theorem zGK {te te' : TE} (h : PE X e te) (hw : ∀ σ H Q,te' σ H Q -> te σ H Q) : PE X e te':=λpins s σ H Q I h'=>h pins s σ H Q I (hw σ H Q h')
theorem zc1 {te te' : TA} (h : PA X es te) (hw : ∀ σ H Q,te' σ H Q -> te σ H Q) : PA X es te':=λpo pins s σ H Q I h'=>h po pins s σ H Q I (hw σ H Q h')
theorem zY9 {te te' : TO} (h : PO X eo te) (hw : ∀ σ H Q,te' σ H Q -> te σ H Q) : PO X eo te':=λpins s σ H Q I h'=>h pins s σ H Q I (hw σ H Q h')
theorem tyC {v : V} (l : zFV v) (h : PE X e (tC v)) : PE X e (tN p c n):=zGK h λσ H Q ⟨iv,q⟩=>q v H (Away.refl _) iv.bx (TN.leaf l)
theorem tyV {i : Nat} (hv : ∀ σ H,Iv p c σ H -> ∃ v,σ[i]? = some (some v)/\TN p.b H n v) (h : PE X e (zCT i)) : PE X e (tN p c n):=zGK h λσ H Q ⟨iv,q⟩=>let ⟨v,e,t⟩:=hv σ H iv; ⟨v,e,q v H (Away.refl _) iv.bx t⟩
theorem tyW (K : Pk p) (h : PE X e (zCT 5)) : PE X e (tN p c n):=tyV (λ_ _ ⟨_,_,_,_,_,_,_,_,e,_,_,_⟩=>⟨_,by rw [e]; rfl,TN.leaf K.w⟩) h
theorem tyO (h : PE X e (zCT 8)) : PE X e (tN p c n):=tyV (λ_ _ ⟨_,_,_,_,_,_,_,_,e,l,_,_⟩=>⟨_,by rw [e]; rfl,TN.leaf l⟩) h
theorem zaK {i : Nat} (hv : ∀ σ H,Iv p c σ H -> ∃ q zs,σ[i]? = some (some (.ref q))/\Ls p.b H 1 k q zs) (h : PE X e (zCT i)) : PE X e (tL p c k):=zGK h λσ H Q ⟨iv,q⟩=>let ⟨a,zs,e,t⟩:=hv σ H iv; ⟨_,e,q a zs H (Away.refl _) iv.bx t⟩
theorem tyD (K : Pk p) (h : PE X e (zCT 6)) : PE X e (tL p c 12):=zaK (λ_ _ ⟨_,_,_,_,_,_,_,_,e,_,_,f⟩=>⟨_,_,by rw [e]; rfl,K.nt f⟩) h
theorem zbY (h : PE X e (zCT 9)) : PE X e (tL p c 12):=zaK (λ_ _ ⟨_,_,_,_,_,_,_,_,e,_,_,f⟩=>⟨_,_,by rw [e]; rfl,f.cL⟩) h
theorem zbW (h : PE X e (zCT 10)) : PE X e (tL p c 12):=zaK (λ_ _ ⟨_,_,_,_,_,_,_,_,e,_,_,f⟩=>⟨_,_,by rw [e]; rfl,f.cA⟩) h
theorem zGR (h : PE X e (tL p c k)) (hk : k <= 25:=by decide) : PE X e (tN p c 2):=zGK h λσ H Q ⟨iv,q⟩=>⟨iv,λa zs H' g bx l=>q _ H' g bx (l.tn hk)⟩
theorem zaM (h : PE X e (tN p c 3)) : PE X e (tG p c):=zGK h λσ H Q ⟨iv,q⟩=>⟨iv,λv H' g bx l=>q _ H' g bx (.inl l)⟩
theorem zcR (h : PE X e (tL p c k)) (hk : k <= 25:=by decide) : PE X e (tG p c):=zGK h λσ H Q ⟨iv,q⟩=>⟨iv,λa zs H' g bx l=>q _ H' g bx (.inl (l.tn hk).up)⟩
theorem zFK (K : Pk p) (h : PE X e (zaA (zBO (tN p c 2) (zBO (tN p c 2) zFB)))) : PE X e (tG p c) := zGK h fun σ H Q ⟨iv, q⟩ => ⟨iv, fun v H1 g1 b1 l1 => ⟨iv.away K g1 b1, fun u H2 g2 b2 l2 => ⟨(by show 2 <= sizeLine; decide), fun r hr =>
 let ⟨g3,b3,ne⟩:=zB4 (o := .tup [v,u]) b2 hr
 q _ _ ((g1.trans g2).trans g3) b3 (.inl (TN.tup zA2 ne (yCD rfl) (TNs.cons ((l1.away g2).away g3) (TNs.cons (l2.away g3) TNs.nil))))⟩⟩⟩
theorem zcG (h : PE X e (zaA (zBO (tN p c 2) zFB))) : PE X e (tG p c) := zGK h fun σ H Q ⟨iv, q⟩ => ⟨iv, fun v H1 g1 b1 l1 => ⟨(by show 1 <= sizeLine; decide), fun r hr =>
 let ⟨g3,b3,ne⟩:=zB4 (o := .tup [v]) b1 hr
 q _ _ (g1.trans g3) b3 (.inl (TN.tup zA2 ne (yCD rfl) (TNs.cons (l1.away g3) TNs.nil)))⟩⟩
theorem zcO (h : PE X e (zUM zFB)) : PE X e (tL p c 0) := zGK h fun σ H Q ⟨iv, q⟩ => ⟨(by show 0 <= sizeLine; decide), fun r hr =>
 let ⟨g3,b3,ne⟩:=zB4 (o := .lst []) iv.bx hr
 q r [] _ g3 b3 ⟨zA2,TNs.nil,yAE _,ne⟩⟩
theorem zXS (h : PE X e (zUM (zBO (tN p c 1) zFB))) : PE X e (tL p c 1) := zGK h fun σ H Q ⟨iv, q⟩ => ⟨iv, fun v H1 g1 b1 l1 => ⟨(by show 1 <= sizeLine; decide), fun r hr =>
 let ⟨g3,b3,ne⟩:=zB4 (o := .lst [v]) b1 hr
 q r [v] _ (g1.trans g3) b3 ⟨zA2,TNs.cons (l1.away g3) TNs.nil,yAE _,ne⟩⟩⟩
theorem zc7 (h : PE X e (zUM (zBO (zCT 8) zFB))) : PE X e (tN p c 1) := zGK h fun σ H Q ⟨⟨L, A, la, aa, one, o1, o2, o3, e, l, h2, f⟩, q⟩ => ⟨one, by rw [e]; rfl, (by show 1 <= sizeLine; decide), fun r hr =>
 let ⟨g3,b3,ne⟩:=zB4 (o := .lst [one]) f.bx hr
 q _ _ g3 b3 (TN.lst (n:=0) zA2 ne (yCD rfl) (TNs.cons l TNs.nil))⟩
theorem zF5 (K : Pk p) (h : PE X e (tOp zaS (tL p c k) (tL p c k'))) (hk : k + k' <= 1000 := by decide) : PE X e (tL p c (k + k')) := zGK h fun σ H Q ⟨iv, q⟩ => ⟨iv, fun a us H1 g1 b1 l1 => ⟨iv.away K g1 b1, fun a' vs H2 g2 b2 l2 =>
 have l1:=l1.away g2;have l3 : (us++vs).length <= k + k':=by rw [yAX]; exact Nat.add_le_add l1.l l2.l
 ⟨a,a',us,vs,rfl,rfl,l1.c,l2.c,yAk (Nat.add_le_add l1.l l2.l) (yAk hk (by decide)),λr hr =>
  let ⟨g3,b3,ne⟩:=zB4 (o := .lst (us++vs)) b2 hr
  q r _ _ ((g1.trans g2).trans g3) b3 ⟨zA2,(l1.T.app l2.T).away g3,l3,ne⟩⟩⟩⟩
theorem zXY (h : PE X e (zc9 X.K (tL p c k))) : PE X e (tL p c k) := zGK h fun σ H Q ⟨iv, q⟩ => ⟨iv, fun a us H1 g1 b1 l1 => ⟨a, us, rfl, SqL.of l1.c, fun r hr =>
 let ⟨g3,b3,ne⟩:=zB4 (o := .lst us.reverse) b1 hr
 q r _ _ (g1.trans g3) b3 ⟨zA2,λx hx=>(l1.T x (List.mem_reverse.mp hx)).away g3,by rw [List.length_reverse]; exact l1.l,ne⟩⟩⟩
theorem zLT (K : Pk p) (h : PE X e (tSl (zc2 X.K) (tL p c k) (tP p c) (tP p c))) : PE X e (tL p c k) := zGK h fun σ H Q ⟨iv, q⟩ => ⟨iv, fun a us H1 g1 b1 l1 =>
 have iv1:=iv.away K g1 b1
 ⟨iv1,λlo=>⟨iv1,λhi=>⟨a,us,rfl,SqL.of l1.c,λr hr =>
 let ⟨g3,b3,ne⟩:=zB4 (o := .lst (zQ3 us lo hi)) b1 hr
 q r _ _ (g1.trans g3) b3 ⟨zA2,(l1.T.cut lo hi).away g3,yAk (zFJ _ _ _) l1.l,ne⟩⟩⟩⟩⟩
theorem zcU (K : Pk p) (h : PE X e (tCB (fun xs H Q => ∃ p ys, xs = [.ref p] /\ ((SqL X.K H p ys /\ ∀ l, H l = none -> Q (.ref l) (upd H l (.tup ys))) \/ (SqT X.K H p ys /\ Q (.ref p) H))) (zBO (tL p c 12) zFB))) : PE X e (tN p c 2) := zGK h fun σ H Q ⟨iv, q⟩ => ⟨iv, fun a us H1 g1 b1 l1 => ⟨a, us, rfl, .inl ⟨SqL.of l1.c, fun r hr =>
 let ⟨g3,b3,ne⟩:=zB4 (o := .tup us) b1 hr
 q _ _ (g1.trans g3) b3 (TN.tup zA2 ne (yAk l1.l (by decide)) (l1.T.away g3))⟩⟩⟩
theorem zY8 (K : Pk p) (h : PE X e (zCT 4)) : PE X e (tG p c):=zGK h λσ H Q ⟨⟨L,A,la,aa,one,o1,o2,o3,e,l,h2,f⟩,q⟩=>⟨_,by rw [e]; rfl,q _ H (Away.refl _) f.bx (.inl (TN.tup f.ct K.e.2.2.1 (yCD rfl) (K.told f)))⟩
theorem zcQ (K : Pk p) (h : PE X e (tCB (fun xs H Q => ∃ p ys, xs = [.ref p] /\ (SqL X.K H p ys \/ SqT X.K H p ys) /\ ∀ l, H l = none -> Q (.ref l) (upd H l (.lst ys))) (zBO (zCT 4) zFB))) : PE X e (tG p c) := zGK h fun σ H Q ⟨⟨L, A, la, aa, one, o1, o2, o3, e, l, h2, f⟩, q⟩ => ⟨_, by rw [e]; rfl, _, _, rfl, .inr (SqT.of f.ct), fun r hr =>
 let ⟨g3,b3,ne⟩:=zB4 (o := .lst [.str p.w,.ref p.D]) f.bx hr
 q _ _ g3 b3 (.inl (TN.lst zA2 ne (yCD rfl) ((K.told f).away g3)))⟩
theorem zd3 (K : Pk p) (h : PE X e (tOp (zZU X.K) (zCT 4) (zaA (zBO (tC (.int 1)) zFB)))) : PE X e (tG p c) := zGK h fun σ H Q ⟨⟨L, A, la, aa, one, o1, o2, o3, e, l, h2, f⟩, q⟩ => ⟨_, by rw [e]; rfl, (by show 1 <= sizeLine; decide), fun r hr =>
 let ⟨g3,b3,ne⟩:=zB4 (o := .tup [.int 1]) f.bx hr
 have f:=f.away K g3 b3
 ⟨_,r,_,_,rfl,rfl,SqT.of f.ct,SqT.of zA2,(λz=>nomatch z),(by show 3 <= sizeLine; decide),(λz=>nomatch z),λ_ u hu =>
  let ⟨g4,b4,ne4⟩:=zB4 (o := .tup ([.str p.w,.ref p.D]++[.int 1])) b3 hu
  q _ _ (g3.trans g4) b4 (.inl (TN.tup zA2 ne4 (yCD rfl) (((K.told f).app (TNs.cons (TN.leaf (.inr (.inr (.inl rfl)))) TNs.nil)).away g4)))⟩⟩
theorem zcJ (h : PE X e zUO) : PE X e (tG p c) := zGK h fun σ H Q ⟨iv, q⟩ r hr =>
 let ⟨g3,b3,ne⟩:=zB4 (o := .dK []) iv.bx hr
 q _ _ g3 b3 (.inr ⟨_,rfl,ne,zA2⟩)
theorem zV8 (K : Pk p) {L A : Addr} {la aa : List V} {F : PySem.W.Frag} {Q : VK} {H0 : Hp} {x : Int} (f : Fg p L A la aa H) (g : Away p.b H0 H) (x0 : 0 <= x) (x1 : x < 2 ^ p.xs.length) (q : ∀ a zs H', Away p.b H0 H' -> BoxAt H' p.b -> Ls p.b H' 1 12 a zs -> Q (.ref a) H') : zKB F [.ref p.nm, .int x] H Q E0 :=
 ⟨p.nm,p.xs,x,rfl,.inl (SqL.of f.cn),yAk K.h8 (by decide),x0,x1,λD H' hD gg cD=>q D _ H' (g.trans (zAN gg)) (f.bx.same gg) ⟨cD,zTW (zE7 K.G x),zD8 _ _,(f.bx.ne hD).symm⟩⟩
theorem zcW (K : Pk p) {F : PySem.W.Frag} (h : PE X e (zH8 (zKB F) [] E0 (zBO (zCT 1) (zBO (zCT 3) zFB)))) : PE X e (tL p c 12):=zGK h λσ H Q ⟨⟨L,A,la,aa,one,o1,o2,o3,e,l,h2,f⟩,q⟩=>⟨_,by rw [e]; rfl,_,by rw [e]; rfl,zV8 K f (Away.refl _) K.m0 K.m1 q⟩
theorem zVZ (p : Pm) : (2 : Int) ^ p.xs.length - 1 + 1 = 2 ^ p.xs.length:=by lia
theorem zUY (K : Pk p) : 0 < (2 : Int) ^ p.xs.length /\ (2 : Int) ^ p.xs.length < 1073741824 := by
 have:=yAx (n:=2) (by decide) K.h8
 have h : (2 : Int) ^ p.xs.length <= 256:=by exact_mod_cast this
 exact ⟨pow_pos _,by lia⟩
theorem zcD (K : Pk p) {F : PySem.W.Frag} (h : PE X e (zH8 (zKB F) [] E0 (zBO (zCT 1) (zBO (tOp (rI0 fun i j => .int (Builtin.bitOr i j)) (zCT 3) (zH8 zD7 [] E0 (zBO (zCT 0) (zBO (tOp (rI0 fun i j => .int (i + j)) (zCT 7) (tC (.int 1))) zFB)))) zFB)))) : PE X e (tL p c 12) := zGK h fun σ H Q ⟨⟨L, A, la, aa, one, o1, o2, o3, e, l, h2, f⟩, q⟩ => ⟨.ref p.nm, by rw [e]; rfl, .int p.m, by rw [e]; rfl, .ref p.b, by rw [e]; rfl, .int (2 ^ p.xs.length - 1), by rw [e]; rfl, _, _, rfl, rfl, p.b, _, rfl, by rw [zVZ]; exact (zUY K).1, by rw [zVZ]; exact (zUY K).2, f.bx, fun r H' r0 r1 bx w => by
 rw [zVZ] at r1;obtain ⟨q0,q1⟩:=zaT K.m0 K.m1 r0 r1;exact ⟨_,_,rfl,rfl,zV8 K (f.away K w.away bx) w.away q0 q1 q⟩⟩
theorem poN (h : PO X eo zQ4) : PO X eo (tP p c):=zY9 h λσ H Q ⟨iv,q⟩=>q _
theorem poC {i : Int} (h : PO X eo (zPY (tC (.int i)))) : PO X eo (tP p c):=zY9 h λσ H Q ⟨iv,q⟩=>⟨i,rfl,q _⟩
theorem zTY (h : PO X eo (zPY (zCT 12))) : PO X eo (tP p cI):=zY9 h λσ H Q ⟨⟨L,A,la,aa,one,o1,o2,o3,e,l,⟨⟨a,h2⟩,_⟩,f⟩,q⟩=>⟨.int a,by rw [e,h2]; rfl,a,rfl,q _⟩
theorem zcH (h : PO X eo (zPY (zCT 13))) : PO X eo (tP p cI):=zY9 h λσ H Q ⟨⟨L,A,la,aa,one,o1,o2,o3,e,l,⟨_,⟨a,h2⟩⟩,f⟩,q⟩=>⟨.int a,by rw [e,h2]; rfl,a,rfl,q _⟩
theorem zXW (h : PO X eo (zPY (tOp (rI0 λi j => .int (i + j)) (zCT 12) (tC (.int 1))))) : PO X eo (tP p cI):=zY9 h λσ H Q ⟨⟨L,A,la,aa,one,o1,o2,o3,e,l,⟨⟨a,h2⟩,_⟩,f⟩,q⟩=>⟨.int a,by rw [e,h2]; rfl,a,1,rfl,rfl,a + 1,rfl,q _⟩
theorem taN (h : PA X es zFB) : PA X es (tA p c 0):=zc1 h λσ H Q ⟨iv,q⟩=>q [] H (Away.refl _) iv.bx rfl Tgs.nil
theorem taC (K : Pk p) (h : PA X es (zBO (tG p c) (tA p c k))) : PA X es (tA p c (k + 1)):=zc1 h λσ H Q ⟨iv,q⟩=>⟨iv,λv H1 g1 b1 l1=>⟨iv.away K g1 b1,λvs H2 g2 b2 lv l2=>q (v::vs) H2 (g1.trans g2) b2 (by rw [yBA,lv]) (Tgs.cons (l1.away g2) l2)⟩⟩
end
structure Sv (p : Pm) (S : Addr) (ys : List V) (n : Nat) (H : Hp) : Prop where
 e : S≠p.b
 c : H S = some (.lst ys)
 l : ys.length = n
 T : Tgs p.b H ys
theorem Sv.away {p : Pm} {Z : Addr} {ys : List V} {n : Nat} {H H' : Hp} (s : Sv p Z ys n H) (g : Away p.b H H') : Sv p Z ys n H':=⟨s.e,g _ _ s.c s.e,s.l,s.T.away g⟩
noncomputable def tD0 (p : Pm) (c : Option V -> Option V -> Prop) (k : Nat) : TS:=λDe σ H=>∃ L A la aa one o11 o12 o13,σ = zSO p L A one o11 o12 o13/\zFV one/\c o12 o13/\Fg p L A la aa H/\∀ S ys H',Away p.b H H' -> Sv p S ys k H' -> Fg p L A la aa H' -> De.nx (zSO p L A one (some (.ref S)) o12 o13) H'
noncomputable def tD (p : Pm) (c : Option V -> Option V -> Prop) (n k : Nat) : TS:=λDe σ H=>∃ L A la aa one S ys o12 o13,σ = zSO p L A one (some (.ref S)) o12 o13/\zFV one/\c o12 o13/\Sv p S ys n H/\Fg p L A la aa H/\∀ S ys H',Away p.b H H' -> Sv p S ys (n + k) H' -> Fg p L A la aa H' -> De.nx (zSO p L A one (some (.ref S)) o12 o13) H'
noncomputable def tT (i : Bool) (p : Pm) (n : Nat) : TS:=λDe σ H=>∃ L A la aa one S ys o12 o13,σ = zSO p L A one (some (.ref S)) o12 o13/\Sv p S ys n H/\Fg p L A la aa H/\∀ r H',Away p.b H H' -> Sv p S ys n H' -> Fg p L A la aa H' -> De.nx (if i = true then zSO p L A one (some (.ref S)) (some (.int r)) o13 else zSO p L A one (some (.ref S)) o12 (some (.int r))) H'
noncomputable def tR (p : Pm) (n : Nat) : TS:=λDe σ H=>∃ L A la aa one S ys o12 o13,σ = zSO p L A one (some (.ref S)) o12 o13/\Sv p S ys n H/\Fg p L A la aa H/\∀ y H',Away p.b H H' -> BoxAt H' p.b -> Tg p.b H' y -> De.rt y H'
section
variable {X : Cx} {p : Pm} {c : Option V -> Option V -> Prop} {st : Stmt} {n k : Nat}
theorem zZG {ts ts' : TS} (h : PS X st ts) (hw : ∀ De σ H,ts' De σ H -> ts De σ H) : PS X st ts':=λpins s σ H De I h'=>h pins s σ H De I (hw De σ H h')
theorem zd2 (K : Pk p) (h : PS X st (zUT (zUM (tA p c k)) (zEB 11))) (hk : k <= 100 := by decide) : PS X st (tD0 p c k) := zZG h fun De σ H ⟨L, A, la, aa, one, o1, o2, o3, e, hone, hc, f, q⟩ => ⟨⟨L, A, la, aa, one, o1, o2, o3, e, hone, hc, f⟩, fun vs H1 g bx lv T => ⟨yAk (by rw [lv]; exact hk) (by decide), fun r hr => by
 obtain ⟨g3,b3,ne⟩:=zB4 (o := .lst vs) bx hr;subst e;exact q r vs _ (g.trans g3) ⟨ne,zA2,lv,T.away g3⟩ (f.away K (g.trans g3) b3)⟩⟩
theorem psD (K : Pk p) (h : PS X st (zUT (tOp zaS (zCT 11) (zUM (tA p c k))) (zEB 11))) (hk : n + k <= 100 := by decide) : PS X st (tD p c n k) := zZG h fun De σ H ⟨L, A, la, aa, one, S, ys, o2, o3, e, hone, hc, s, f, q⟩ => ⟨.ref S, by rw [e]; rfl, ⟨L, A, la, aa, one, _, o2, o3, e, hone, hc, f⟩, fun vs H1 g bx lv T => ⟨yAk (by rw [lv]; lia) (by decide : 100 <= sizeLine), fun r hr => by
 obtain ⟨g3,b3,ne⟩:=zB4 (o := .lst vs) bx hr;have s:=(s.away g).away g3;refine ⟨S,r,ys,vs,rfl,rfl,s.c,zA2,yAk (by rw [s.l,lv]; lia) (by decide : 100 <= sizeLine),λu hu => ?_⟩;obtain ⟨g4,b4,ne4⟩:=zB4 (o := .lst (ys++vs)) b3 hu;subst e;exact q u (ys++vs) _ ((g.trans g3).trans g4) ⟨ne4,zA2,by rw [yAX,s.l,lv],(s.T.app (T.away g3)).away g4⟩ (f.away K ((g.trans g3).trans g4) b4)⟩⟩
noncomputable abbrev teT (X : Cx) : TE:=zH8 zD7 [] E0 (zBO (zCT 0) (zBO (tOp (rI0 λi j => .int (i + j)) (tCB (λxs H Q=>∃ p ys,xs = [.ref p]/\(SqL X.K H p ys \/ SqT X.K H p ys)/\Q (.int ys.length) H) (zBO (zCT 6) zFB)) (tC (.int 1))) zFB))
theorem zaR (K : Pk p) (h : PS X st (zUT (teT X) (zEB 12))) : PS X st (tT true p n) := zZG h fun De σ H ⟨L, A, la, aa, one, S, ys, o2, o3, e, s, f, q⟩ => by
 subst e;have l:=K.l;refine ⟨_,rfl,_,rfl,_,_,rfl,.inl (SqL.of f.cD),_,_,rfl,rfl,p.b,_,rfl,by lia,by lia,f.bx,λr H' r0 r1 bx w => ?_⟩;exact q r H' w.away (s.away w.away) (f.away K w.away bx)
theorem zaI (K : Pk p) (h : PS X st (zUT (teT X) (zEB 13))) : PS X st (tT false p n) := zZG h fun De σ H ⟨L, A, la, aa, one, S, ys, o2, o3, e, s, f, q⟩ => by
 subst e;have l:=K.l;refine ⟨_,rfl,_,rfl,_,_,rfl,.inl (SqL.of f.cD),_,_,rfl,rfl,p.b,_,rfl,by lia,by lia,f.bx,λr H' r0 r1 bx w => ?_⟩;exact q r H' w.away (s.away w.away) (f.away K w.away bx)
theorem psR (K : Pk p) (h : PS X st (zbO (tOp (zaW X.K) (zCT 11) (zH8 zD7 [] E0 (zBO (zCT 0) (zBO (tCB (fun xs H Q => ∃ p ys, xs = [.ref p] /\ (SqL X.K H p ys \/ SqT X.K H p ys) /\ Q (.int ys.length) H) (zBO (zCT 11) zFB)) zFB)))))) (h0 : 0 < n := by decide) (hn : n <= 100 := by decide) : PS X st (tR p n) := zZG h fun De σ H ⟨L, A, la, aa, one, S, ys, o2, o3, e, s, f, q⟩ => by
 subst e;have l:=s.l;refine ⟨_,rfl,_,rfl,_,rfl,_,_,rfl,.inl (SqL.of s.c),p.b,_,rfl,by lia,by lia,f.bx,λr H' r0 r1 bx w => ?_⟩;have s:=s.away w.away;obtain ⟨j9,hj9,ej9,at9⟩:=za5 r0 r1;exact ⟨S,ys,r,_,rfl,rfl,SqL.of s.c,at9,q _ _ w.away bx (s.T _ (yAn hj9))⟩
end
theorem scForged : FnScope ["_law_box_here","_law_names_here","_law_masks_here","_law_fallen","_law_told","_law_word","_law_names_told","_law_last","_law_one","_law_lot","_law_any_set","_law_some","_law_at","_law_other_here"] ["_law_box_here","_law_names_here","_law_masks_here","_law_fallen","_law_told"] (zA7 zD5):=by trivial
set_option maxHeartbeats 8000000 in
theorem zRS {f c1 c2 : Addr} {fd e1 e2 : FuncData} (F : Fun K "_law_forged" "_law_forged" zD5 f fd) (T : Txt mg) (mt : mg "tuple" = none) (DT : Def P w K mg base 1 "_law_take" ["_law_box_here", "_law_many"] zD7 c1 e1) (DS : Def P w K mg base 1 "_law_set" ["_law_names_here", "_law_mask_here"] (zKB K) c2 e2) :
  FnOk P w K mg base CX0 2 f fd ["_law_box_here","_law_names_here","_law_masks_here","_law_fallen","_law_told"] zM0:=by
 refine F.ok scForged (λvs H Q E h => ?_) (λcdv A outer s H vs Q E hr h => ?_)
 ·obtain ⟨b, nm, ma, t, D, xs, ms, m, w, l, rfl, _⟩ := h
  rfl
 obtain ⟨b,nm,ma,t,D,xs,ms,m,w,l,rfl,hb,nb,mb,tb,Db,hnm,hG,h8,hma,few,ok,m0,m1,hww,ht,hD,l0,l1,q⟩:=h;have hr1 : Room 1 _:=hr.mono (by decide);have hl:=zE7 hG l;have nl:=zD8 xs l;generalize setV xs l = nt at hl nl hD ⊢;have hx12 : xs.length <= 12:=by lia
 have lo:=hG.lo;have s1000 : 1000 < sizeLine:=by decide
 have lf : zFV (.str "falls"):=zE1 (by decide +kernel) (by decide +kernel);have ls : zFV (.str "stands"):=zE1 (by decide +kernel) (by decide +kernel);have lfa : zFV (.str "fall"):=zE1 (by decide +kernel) (by decide +kernel);have lqq : zFV (.str "q.q"):=zE1 (by decide +kernel) (by decide +kernel)
 have hw : zFV (.str w) := by
  rcases hww with rfl | rfl
  ·exact ls
  ·exact lf
 obtain ⟨p,ep⟩ : ∃ p : Pm,p = ⟨b,nm,ma,t,D,xs,nt,ms,m,w⟩:=⟨_,rfl⟩;have K : Pk p:=by subst ep; exact ⟨hG,hl,nl,hw,h8,m0,m1,nb,mb,tb,Db⟩
 have pow8 : (2 : Int) ^ xs.length <= 256 := by
  have:=yAx (n:=2) (by decide) h8
  exact_mod_cast this
 have hsh : zXV 1 ((xs.length : Nat) : Int):=⟨by lia,by lia,by decide⟩;have es : (1 : Int) * 2 ^ ((xs.length : Nat) : Int).toNat = 2 ^ xs.length:=by rw [yAf,yCQ]
 have el : (2 : Int) ^ xs.length - 1 + 1 = 2 ^ xs.length:=by lia
 have ivl : (IV ms).length = ms.length:=by unfold IV; rw [yAB]
 have eIV : IV ms++[V.int 0] = (ms++[0]).map V.int:=by unfold IV; rw [yAU]; rfl
 refine ⟨_, zA3 (zH7 (pv 4) (zPL rfl (zBL (zAH (i := 5) scForged.nd rfl (Or.inl rfl)) (zBL (zAH (i := 6) scForged.nd rfl (Or.inl rfl)) zG3))))
  (zA3 (zAE (i:=7) scForged.nd rfl (Or.inl rfl) (zAC zRA (zAC zCU zA8 (zAA zAF rfl T.len yBC (zA0 (pv 1) zA1))) zA8))
  (zA3 (zAE (i:=8) scForged.nd rfl (Or.inl rfl) (zBQ zB6 (pv 1) (zA9 DT.ok hr1 rfl DT.m DT.k DT.b .nil zAD (zA0 (pv 0) (zA0 (zAA zAF rfl T.len yBC (zA0 (pv 1) zA1)) zA1))) (λ_ _=>rfl)))
  (zA3 (zAE (i:=9) scForged.nd rfl (Or.inl rfl) (zA9 DS.ok hr1 rfl DS.m DS.k DS.b .nil zAD (zA0 (pv 1) (zA0 (zBQ zB6 (zAC zBE (pv 2) (zAQ (zA0 zA8 zA1))) (zA9 DT.ok hr1 rfl DT.m DT.k DT.b .nil zAD (zA0 (pv 0) (zA0 (zAC zBV (zAA zAF rfl T.len yBC (zA0 (pv 2) zA1)) zA8) zA1))) (λ_ _=>rfl)) zA1))))
  (zA3 (zAE (i:=10) scForged.nd rfl (Or.inl rfl) (zA9 DS.ok hr1 rfl DS.m DS.k DS.b .nil zAD (zA0 (pv 1) (zA0 (zA9 DT.ok hr1 rfl DT.m DT.k DT.b .nil zAD (zA0 (pv 0) (zA0 (zAC zBV (pv 7) zA8) zA1))) zA1))))
  (zA3 (zd2 K (p:=p) (c:=cT) (zAE (i:=11) scForged.nd rfl (Or.inl rfl) (zAQ (taC K (zA0 (zY8 K (pv 4)) (taC K (zA0 (zcQ K (zB8 zD3 rfl T.list yBJ (zA0 (pv 4) zA1))) (taC K (zA0 (zcG (zAS (zA0 (tyW K (pv 5)) zA1))) (taC K (zA0 (zFK K (zAS (zA0 (tyW K (pv 5)) (zA0 (zcU K (zB8 zB0 rfl mt yAv (zA0 (tyD K (pv 6)) zA1))) zA1)))) (taC K (zA0 (zFK K (zAS (zA0 (tyW K (pv 5)) (zA0 (zGR (zXY (zOW (p4:=⟨0,0,0,0⟩) (tyD K (pv 6))))) zA1)))) (taC K (zA0 (zFK K (zAS (zA0 (tyW K (pv 5)) (zA0 (zGR (zF5 K (zAC zBE (tyD K (pv 6)) (zXS (zAQ (zA0 (tyO (pv 8)) zA1)))))) zA1)))) (taN zA1))))))))))))))))
  (zA3 (psD K (c:=cT) (zAE (i:=11) scForged.nd rfl (Or.inl rfl) (zAC zBE (pv 11) (zAQ (taC K (zA0 (zFK K (zAS (zA0 (tyC lf zBB) (zA0 (zGR (zbW (pv 10))) zA1)))) (taC K (zA0 (zFK K (zAS (zA0 (tyC ls zBB) (zA0 (zGR (zbW (pv 10))) zA1)))) (taC K (zA0 (zFK K (zAS (zA0 (tyC ls zBB) (zA0 (zGR (zbY (pv 9))) zA1)))) (taC K (zA0 (zFK K (zAS (zA0 (tyC lf zBB) (zA0 (zGR (zcW K (zA9 DS.ok hr1 rfl DS.m DS.k DS.b .nil zAD (zA0 (pv 1) (zA0 (pv 3) zA1))))) zA1)))) (taC K (zA0 (zaM (tyC (.inl rfl) zCA)) (taN zA1)))))))))))))) (n:=6))
  (zA3 (psD K (c:=cT) (zAE (i:=11) scForged.nd rfl (Or.inl rfl) (zAC zBE (pv 11) (zAQ (taC K (zA0 (zFK K (zAS (zA0 (tyC lfa zBB) (zA0 (zGR (tyD K (pv 6))) zA1)))) (taC K (zA0 (zFK K (zAS (zA0 (tyW K (pv 5)) (zA0 (zGR (zF5 K (zAC zBE (tyD K (pv 6)) (zLT K (zAU zBD (tyD K (pv 6)) (poN zB2) (poC (zB5 zA8))))))) zA1)))) (taC K (zA0 (zFK K (zAS (zA0 (tyW K (pv 5)) (zA0 (zGR (zLT K (zAU zBD (tyD K (pv 6)) (poC (zB5 zA8)) (poN zB2)))) zA1)))) (taC K (zA0 (zd3 K (zAC zWA (pv 4) (zAS (zA0 zA8 zA1)))) (taC K (zA0 (zcJ zMB) (taN zA1)))))))))))))) (n:=11))
  (zA3 (psD K (c:=cT) (zAE (i:=11) scForged.nd rfl (Or.inl rfl) (zAC zBE (pv 11) (zAQ (taC K (zA0 (zFK K (zAS (zA0 (tyC ls zBB) (zA0 (zGR (zXY (zOW (p4:=⟨0,0,0,0⟩) (zbY (pv 9))))) zA1)))) (taC K (zA0 (zFK K (zAS (zA0 (tyW K (pv 5)) (zA0 (zGR (zF5 K (zAC zBE (tyD K (pv 6)) (zXS (zAQ (zA0 (tyC lqq zBB) zA1)))))) zA1)))) (taC K (zA0 (zFK K (zAS (zA0 (tyW K (pv 5)) (zA0 (tyC (.inl rfl) zCA) zA1)))) (taC K (zA0 (zFK K (zAS (zA0 (zGR (tyD K (pv 6))) (zA0 (tyW K (pv 5)) zA1)))) (taC K (zA0 (zcR (zcO (zAQ zA1))) (taC K (zA0 (zaM (tyC (.inr (.inl ⟨_,rfl⟩)) zDJ)) (taN zA1)))))))))))))))) (n:=16))
  (zA3 (psD K (c:=cT) (zAE (i:=11) scForged.nd rfl (Or.inl rfl) (zAC zBE (pv 11) (zAQ (taC K (zA0 (zFK K (zAS (zA0 (tyC lf zBB) (zA0 (zGR (zcD K (zA9 DS.ok hr1 rfl DS.m DS.k DS.b .nil zAD (zA0 (pv 1) (zA0 (zAC zaG (pv 3) (zA9 DT.ok hr1 rfl DT.m DT.k DT.b .nil zAD (zA0 (pv 0) (zA0 (zAC zBV (pv 7) zA8) zA1)))) zA1))))) zA1)))) (taC K (zA0 (zFK K (zAS (zA0 (tyW K (pv 5)) (zA0 (zGR (zXS (zAQ (zA0 (zc7 (zAQ (zA0 (pv 8) zA1))) zA1)))) zA1)))) (taC K (zA0 (zFK K (zAS (zA0 (tyW K (pv 5)) (zA0 (tyO (pv 8)) zA1)))) (taC K (zA0 (zaM (tyW K (pv 5))) (taN zA1)))))))))))) (n:=22))
  (zA3 (zaR K (zAE (i:=12) scForged.nd rfl (Or.inl rfl) (zA9 DT.ok hr1 rfl DT.m DT.k DT.b .nil zAD (zA0 (pv 0) (zA0 (zAC zBV (zAA zAF rfl T.len yBC (zA0 (pv 6) zA1)) zA8) zA1)))) (n:=26))
  (zA3 (zaI K (zAE (i:=13) scForged.nd rfl (Or.inl rfl) (zA9 DT.ok hr1 rfl DT.m DT.k DT.b .nil zAD (zA0 (pv 0) (zA0 (zAC zBV (zAA zAF rfl T.len yBC (zA0 (pv 6) zA1)) zA8) zA1)))) (n:=26))
  (zA3 (psD K (c:=cI) (zAE (i:=11) scForged.nd rfl (Or.inl rfl) (zAC zBE (pv 11) (zAQ (taC K (zA0 (zFK K (zAS (zA0 (tyW K (pv 5)) (zA0 (zGR (zF5 K (zAC zBE (zLT K (zAU zBD (tyD K (pv 6)) (poN zB2) (zTY (zB5 (pv 12))))) (zLT K (zAU zBD (tyD K (pv 6)) (zXW (zB5 (zAC zBV (pv 12) zA8))) (poN zB2)))))) zA1)))) (taC K (zA0 (zFK K (zAS (zA0 (tyW K (pv 5)) (zA0 (zGR (zF5 K (zAC zBE (zF5 K (zAC zBE (zLT K (zAU zBD (tyD K (pv 6)) (poN zB2) (zTY (zB5 (pv 12))))) (zXS (zAQ (zA0 (tyO (pv 8)) zA1))))) (zLT K (zAU zBD (tyD K (pv 6)) (zTY (zB5 (pv 12))) (poN zB2)))))) zA1)))) (taN zA1)))))))) (n:=26))
  (zA3 (psD K (c:=cI) (zAE (i:=11) scForged.nd rfl (Or.inl rfl) (zAC zBE (pv 11) (zAQ (taC K (zA0 (zFK K (zAS (zA0 (tyW K (pv 5)) (zA0 (zGR (zF5 K (zAC zBE (zF5 K (zAC zBE (zLT K (zAU zBD (tyD K (pv 6)) (poN zB2) (zTY (zB5 (pv 12))))) (zXS (zAQ (zA0 (zc7 (zAQ (zA0 (pv 8) zA1))) zA1))))) (zLT K (zAU zBD (tyD K (pv 6)) (zXW (zB5 (zAC zBV (pv 12) zA8))) (poN zB2)))))) zA1)))) (taC K (zA0 (zFK K (zAS (zA0 (tyW K (pv 5)) (zA0 (zGR (zF5 K (zAC zBE (zLT K (zAU zBD (tyD K (pv 6)) (zTY (zB5 (pv 12))) (poN zB2))) (zLT K (zAU zBD (tyD K (pv 6)) (poN zB2) (zTY (zB5 (pv 12)))))))) zA1)))) (taN zA1)))))))) (n:=28))
  (zA3 (psD K (c:=cI) (zAE (i:=11) scForged.nd rfl (Or.inl rfl) (zAC zBE (pv 11) (zAQ (taC K (zA0 (zFK K (zAS (zA0 (tyW K (pv 5)) (zA0 (zGR (zF5 K (zAC zBE (zLT K (zAU zBD (tyD K (pv 6)) (poN zB2) (zTY (zB5 (pv 12))))) (zLT K (zAU zBD (tyD K (pv 6)) (zcH (zB5 (pv 13))) (poN zB2)))))) zA1)))) (taC K (zA0 (zFK K (zAS (zA0 (tyW K (pv 5)) (zA0 (zGR (zF5 K (zAC zBE (zF5 K (zAC zBE (zLT K (zAU zBD (tyD K (pv 6)) (poN zB2) (zTY (zB5 (pv 12))))) (zXS (zAQ (zA0 (tyC (.inl rfl) zCA) zA1))))) (zLT K (zAU zBD (tyD K (pv 6)) (zTY (zB5 (pv 12))) (poN zB2)))))) zA1)))) (taN zA1)))))))) (n:=30))
  (zA4 (psR K (zAB (zBQ zB6 (pv 11) (zA9 DT.ok hr1 rfl DT.m DT.k DT.b .nil zAD (zA0 (pv 0) (zA0 (zAA zAF rfl T.len yBC (zA0 (pv 11) zA1)) zA1))) (λ_ _=>rfl))) (n:=32))))))))))))))))),?_⟩
 subst ep;refine ⟨_,rfl,t,_,rfl,SqT.of ht,rfl,_,_,rfl,_,_,rfl,rfl,?_⟩;refine ⟨_,rfl,nm,xs,rfl,.inl (SqL.of hnm),_,_,rfl,rfl,hsh,_,_,rfl,rfl,?_⟩;rw [es];refine ⟨_,rfl,_,rfl,_,rfl,nm,xs,rfl,.inl (SqL.of hnm),b,_,rfl,(by lia),(by lia),hb,λr1 H1 z1 u1 bx1 w1 => ?_⟩;have aw:=w1.away;obtain ⟨j1,hj1,ej1,at1⟩:=za5 z1 u1;refine ⟨nm,xs,r1,xs[j1],rfl,rfl,SqL.of (aw _ _ hnm nb),at1,?_⟩;have hone : zFV xs[j1]:=zII hG (yAn hj1);generalize xs[j1] = one at hone ⊢;refine ⟨_,rfl,_,rfl,(by show 1 <= sizeLine; decide),λp2 h2 => ?_⟩;obtain ⟨g2,bx2,n2⟩:=zB4 (o := .lst [.int 0]) bx1 h2;have c2 : (upd H1 p2 (.lst [.int 0])) p2 = some (.lst [.int 0]):=zA2;generalize upd H1 p2 (.lst [.int 0]) = H2 at g2 c2 bx2 ⊢;have aw:=aw.trans g2;refine ⟨ma,p2,IV ms,_,rfl,rfl,aw _ _ hma mb,c2,(by rw [ivl]; show ms.length + 1 <= sizeLine; lia),λp3 h3 => ?_⟩;obtain ⟨g3,bx3,n3⟩:=zB4 (o := .lst (IV ms++[.int 0])) bx2 h3;have c3 : (upd H2 p3 (.lst (IV ms++[.int 0]))) p3 = some (.lst (IV ms++[.int 0])):=zA2;generalize upd H2 p3 (.lst (IV ms++[.int 0])) = H3 at g3 c3 bx3 ⊢;have aw:=aw.trans g3;refine ⟨_,rfl,_,rfl,ma,_,rfl,.inl (SqL.of (aw _ _ hma mb)),_,_,rfl,rfl,b,_,rfl,(by rw [ivl]; lia),(by rw [ivl]; lia),bx3,λr4 H4 z4 u4 bx4 w4 => ?_⟩;have aw:=aw.trans w4.away;have c3:=w4.away _ _ c3 n3;rw [ivl] at u4;obtain ⟨v4,m4,at4⟩:=zMS (ms:=ms++[0]) z4 (by rw [yAX]; exact u4);rw [<- eIV] at at4
 obtain ⟨v40, v41⟩ : 0 <= v4 /\ v4 < 2 ^ xs.length := by
  rcases yAa.mp m4 with q1 | q1
  ·exact ok.ok v4 q1
  ·rw [yAF.mp q1]; exact ⟨Int.le_refl _,pow_pos _⟩
 refine ⟨p3,_,r4,.int v4,rfl,rfl,SqL.of c3,at4,?_⟩;refine ⟨nm,xs,v4,rfl,.inl (SqL.of (aw _ _ hnm nb)),hx12,v40,v41,λL H5 hL g5 cL => ?_⟩;have aw:=aw.trans (zAN g5);have bx5:=bx4.same g5;have nL : L≠b:=(bx4.ne hL).symm;refine ⟨_,rfl,_,rfl,_,rfl,_,_,rfl,rfl,b,_,rfl,(by rw [el]; exact pow_pos _),(by rw [el]; lia),bx5,λr6 H6 z6 u6 bx6 w6 => ?_⟩;rw [el] at u6;have aw:=aw.trans w6.away;have cL:=w6.away _ _ cL nL;refine ⟨nm,xs,r6,rfl,.inl (SqL.of (aw _ _ hnm nb)),hx12,z6,u6,λA H7 hA g7 cA => ?_⟩;have aw:=aw.trans (zAN g7);have f : Fg ⟨b,nm,ma,t,D,xs,nt,ms,m,w⟩ L A (setV xs v4) (setV xs r6) H7:=⟨bx6.same g7,aw _ _ hnm nb,aw _ _ hma mb,aw _ _ ht tb,aw _ _ hD Db,⟨g7 _ _ cL,zTW (zE7 hG v4),zD8 _ _,nL⟩,⟨cA,zTW (zE7 hG r6),zD8 _ _,(bx6.ne hA).symm⟩⟩;generalize setV xs v4 = la at f;generalize setV xs r6 = aa at f;clear c2 c3 cL cA g2 g3 g5 g7 w1 w4 w6 bx1 bx2 bx3 bx4 bx5 bx6;refine ⟨L,A,la,aa,one,_,_,_,rfl,hone,trivial,f,λS ys H8 w8 sv f => ?_⟩;have aw:=aw.trans w8;refine ⟨L,A,la,aa,one,S,ys,_,_,rfl,hone,trivial,sv,f,λS ys H8 w8 sv f => ?_⟩;have aw:=aw.trans w8;refine ⟨L,A,la,aa,one,S,ys,_,_,rfl,hone,trivial,sv,f,λS ys H8 w8 sv f => ?_⟩;have aw:=aw.trans w8;refine ⟨L,A,la,aa,one,S,ys,_,_,rfl,hone,trivial,sv,f,λS ys H8 w8 sv f => ?_⟩;have aw:=aw.trans w8;refine ⟨L,A,la,aa,one,S,ys,_,_,rfl,hone,trivial,sv,f,λS ys H8 w8 sv f => ?_⟩;have aw:=aw.trans w8;refine ⟨L,A,la,aa,one,S,ys,_,_,rfl,sv,f,λa12 H8 w8 sv f => ?_⟩;have aw:=aw.trans w8;refine ⟨L,A,la,aa,one,S,ys,_,_,rfl,sv,f,λa13 H8 w8 sv f => ?_⟩;have aw:=aw.trans w8;refine ⟨L,A,la,aa,one,S,ys,_,_,rfl,hone,⟨⟨_,rfl⟩,⟨_,rfl⟩⟩,sv,f,λS ys H8 w8 sv f => ?_⟩;have aw:=aw.trans w8;refine ⟨L,A,la,aa,one,S,ys,_,_,rfl,hone,⟨⟨_,rfl⟩,⟨_,rfl⟩⟩,sv,f,λS ys H8 w8 sv f => ?_⟩;have aw:=aw.trans w8;refine ⟨L,A,la,aa,one,S,ys,_,_,rfl,hone,⟨⟨_,rfl⟩,⟨_,rfl⟩⟩,sv,f,λS ys H8 w8 sv f => ?_⟩;have aw:=aw.trans w8;exact ⟨L,A,la,aa,one,S,ys,_,_,rfl,sv,f,λy H9 w9 bx9 tg=>q y _ (aw.trans w9) bx9 tg⟩
noncomputable def zOK (n : Nat) (f : Nat -> Bool) (m : Nat) : Bool := !f (2 ^ n - 1 - m)
theorem zT2 (n : Nat) (f : Nat -> Bool) : (zD2 n f).reverse = zD2 n fun m => f (2 ^ n - 1 - m) := by
 have p0:=Nat.two_pow_pos n;refine yDd λi => ?_
 rcases yBo i (2 ^ n) with h | h
 ·rw [List.getElem?_reverse (by rw [zBA]; exact h),zBA,zCS (show 2 ^ n - 1 - i < 2 ^ n by lia),zCS h]
 ·rw [yBr (by rw [List.length_reverse,zBA]; exact h),yBr (by rw [zBA]; exact h)]
noncomputable def zMN : Sp:=λvs H Q _=>∃ a n f,vs = [.ref a]/\n <= 12/\H a = some (.lst (zD2 n f))/\∀ D H',H D = none -> Same H H' -> H' D = some (.lst (zD2 n (zOK n f))) -> Q (.ref D) H'
noncomputable def zbN (n : Nat) (ms : List Int) : Prop:=(zAK (zOK n (zDO ms)) (2 ^ n)).length <= 1000
theorem zTL : FnScope ["table"] ["table"] (zA7 zKL):=by trivial
theorem zOQ {f : Addr} {fd : FuncData} (F : Fun K "other_table" "other_table" zKL f fd) : FnOk P w K mg base CX0 1 f fd ["table"] zMN := by
 refine F.ok zTL (λvs H Q E h => ?_) (λcdv A outer s H vs Q E hr h => ?_)
 ·obtain ⟨a, n, f, rfl, _⟩ := h
  rfl
 obtain ⟨a,n,tf,rfl,n12,ha,q⟩:=h;have p12 : 2 ^ n <= 4096:=yAx (n:=2) (by decide) n12;have s1000 : 16000000 <= sizeLine:=by decide
 refine ⟨_,zA4 (zAB (zBK (xs:=["decides"]) (fv:=[]) rfl (by decide +kernel) trivial (zC5 (zOW (p4:=⟨0,0,0,0⟩) (pv 0))) (λ_ _ _ _ _=>zAH (i:=0) (ndT (by decide +kernel)) rfl (Or.inl rfl)) (λ_ _ _ _ _=>zBU) (λ_ _ _ _ _=>zUS (pv 0)))),?_⟩;refine ⟨_,rfl,a,_,rfl,SqL.of ha,λR hR => ?_⟩;rw [zT2];obtain ⟨H1,g1,c1,e0⟩:=zKI hR (.lst (zD2 n λm=>tf (2 ^ n - 1 - m)));rw [e0];clear e0;refine ⟨R,rfl,?_⟩;refine zCR (K:=K) (ys:=zD2 n λm=>tf (2 ^ n - 1 - m)) (.inl (SqL.of c1)) (λi D H'=>Same H1 H'/\H' D = some (.lst ((List.range i).map λm=>V.bl (zOK n tf m)))) (λD hD=>⟨same_new hD _,zA2⟩) (λi D H' hD hP=>hP.1.at1 R) (λi D H' x hD hi hx hP => ?_) (λD H' hD hP => ?_)
 ·obtain ⟨g2, lD⟩ := hP
  rw [zBA] at hi;rw [zCS hi] at hx
  cases hx
  refine ⟨rfl,?_⟩;unfold zJP;dsimp only;rw [yAQ rfl];refine ⟨_,rfl,_,rfl,_,lD,?_,λb o e => ?_,?_⟩
  ·rw [yAB,yCz]; lia
  ·rw [zA6 (zA5 e hD)]; exact g2 _ _ e
  ·rw [zA2,List.range_succ,yAU]; rfl
 ·obtain ⟨g2, lD⟩ := hP
  rw [zBA] at lD;exact q D H' (g1.free hD) (g1.trans g2) lD
noncomputable def zP3 (CS C : Addr) : Sp:=λvs H Q _=>∃ p xs ms,vs = [.ref p]/\SysAt CS C H p xs ms/\Ord xs ms/\zJO (some xs) = true/\zbN xs.length ms/\∀ p' H' zs,H p' = none -> Same H H' -> SysAt CS C H' p' xs zs -> zs.Perm (zAK (zOK xs.length (zDO ms)) (2 ^ xs.length)) -> Ord xs zs -> Q (.ref p') H'
theorem zX3 : FnScope ["system"] ["system"] (zA7 zPE):=by trivial
theorem zTG {f a1 a2 a3 a4 CS C : Addr} {fd d1 d2 d3 d4 : FuncData} (F : Fun K "other_side" "other_side" zPE f fd) (clS : Cls K CS) (M1 : Meth K CS "houses" a1) (O1 : FnOk P w K mg base CX0 2 a1 d1 ["self"] (zIY CS C)) (b1 : Binds K d1 ["self"] [])
  (M2 : Meth K CS "table" a2) (O2 : FnOk P w K mg base CX0 2 a2 d2 ["self"] (zOF CS C)) (b2 : Binds K d2 ["self"] []) (D3 : Def P w K mg base 8 "system_by_table" ["names","table"] (zJI CS C) a3 d3) (D4 : Def P w K mg base 1 "other_table" ["table"] zMN a4 d4) : FnOk P w K mg base CX0 9 f fd ["system"] (zP3 CS C):=by
 refine F.ok zX3 (λvs H Q E h => ?_) (λcdv A outer s H vs Q E hr h => ?_)
 ·obtain ⟨p, xs, ms, rfl, _⟩ := h
  rfl
 obtain ⟨p,xs,ms,rfl,hS,hO,are,few,q⟩:=h;have hr1 : Room 1 _:=hr.mono (by decide);have hr2 : Room 2 _:=hr.mono (by decide);obtain ⟨dx,g,t,hp,hH,ht⟩:=id hS;refine ⟨_,zA4 (zAB (zA9 D3.ok hr rfl D3.m D3.k D3.b .nil zAD (zA0 (zE6 (pv 0) clS M1 O1 hr2 b1 .nil zAD) (zA0 (zA9 D4.ok hr1 rfl D4.m D4.k D4.b .nil zAD (zA0 (zE6 (pv 0) clS M2 O2 hr2 b2 .nil zAD) zA1)) zA1)))),?_⟩;refine ⟨_,rfl,p,dx,_,rfl,hp,rfl,p,xs,ms,rfl,hS,λl hl => ?_⟩;obtain ⟨H1,g1,c1,e0⟩:=zKI hl (.lst xs);rw [e0];clear e0;refine ⟨_,rfl,p,dx,_,rfl,g1 _ _ hp,rfl,p,xs,ms,rfl,hS.same g1,hO,λD H2 hD g2 lD => ?_⟩;refine ⟨D,xs.length,zDO ms,rfl,hO.gn.hi,lD,λD3 H3 hD3 g3 lD3 => ?_⟩;have g13:=(g1.trans g2).trans g3;exact ⟨l,D3,xs,_,rfl,g3 _ _ (g2 _ _ c1),are,lD3,few,λp' H4 zs hp' g4 hS4 pz O=>q p' H4 zs (g13.free hp') (g13.trans g4) hS4 pz O⟩
end
end S
namespace L2
open PySem PySem.Spec PyProof.Rows
section
variable {X : Cx}
theorem zQA : OpR X (compareOp .IsNot) (fun x y H Q => ∃ a b, x = .bl a /\ y = .bl b /\ Q (.bl (a != b)) H) := by
 intro pins s σ H x y v u Q I rx ry h;obtain ⟨a,b,rfl,rfl,q⟩:=h
 cases rx
 cases ry
 exact isnot_bool (zAP I q rfl)
end
end L2
namespace S
open PySem L2
theorem SysAt.away {CS C b p : Addr} {H H' : Hp} {xs : List V} {zs : List Int} (bx : BoxAt H b) (g : Away b H H') (h : SysAt CS C H p xs zs) : SysAt CS C H' p xs zs := by
 obtain ⟨d,s,c,hl,_⟩:=bx;have kn : ∀ c o,H c = some o -> (∀ xs,o ≠ .lst xs) -> H' c = some o:=λc o hc n=>g c o hc λe=>by rw [e,hl] at hc; cases hc; exact n _ rfl
 obtain ⟨dx,gg,t,h1,⟨ex,rt,dd,k1,k2,k3⟩,h3⟩:=h;exact ⟨dx,gg,t,kn _ _ h1 (λ_ z=>nomatch z),⟨ex,rt,dd,kn _ _ k1 (λ_ z=>nomatch z),kn _ _ k2 (λ_ z=>nomatch z),kn _ _ k3 (λ_ z=>nomatch z)⟩,kn _ _ h3 (λ_ z=>nomatch z)⟩
noncomputable abbrev dT (zs : List (List V)) : List PyData:=zs.map λz => .tuple (dS z)
section
variable {K : PySem.W.Frag} {H : Hp}
end
theorem zVS {ms : List Int} (h0 : ∀ m ∈ ms, 0 <= m) {a c : Nat} (sb : Sb a c) (h : zDO ms a = true) : zDO ms c = true := by
 obtain ⟨ns,rfl⟩:=zPB h0;rw [zLB] at h ⊢;rw [yAz] at h ⊢;obtain ⟨l,hl,e⟩:=h;exact ⟨l,hl,yAM ((yAj e).trans sb)⟩
theorem zHR {n : Nat} (n12 : n <= 12) {f g : Nat -> Bool} (h : ∀ m, m < 2 ^ n -> f m = g m) : zAK f (2 ^ n) = zAK g (2 ^ n) := by
 unfold zAK
 congr 1
 refine List.filter_congr λm hm => ?_;have hm:=yBM.mp hm;rw [yAg,zDD n12 hm,zDD n12 hm,h m hm];refine and_congr_right λ_=>forall_congr' λk=>forall_congr' λhk => ?_;rw [h _ (Nat.lt_trans (zLD hk) hm)]
theorem zSB {n : Nat} (n12 : n <= 12) {f : Nat -> Bool} (mono : ∀ m k, m < 2 ^ n -> k < 2 ^ n -> Sb m k -> f m = true -> f k = true) {zs : List Int} (pz : zs.Perm (zAK f (2 ^ n))) {m : Nat} (hm : m < 2 ^ n) : zDO zs m = f m := by
 have e1 : ∀ m, m < 2 ^ n -> zXP ((List.range (2 ^ n)).filter f) m = f m := fun m hm => by
  rw [yAg,decN_iff]
  constructor
  ·rintro ⟨l, hl, sb⟩
   rw [yBX,yBM] at hl;exact mono l m hl.1 hm sb hl.2
  ·exact λh=>⟨m,yBX.mpr ⟨yBM.mpr hm,h⟩,Sb.refl m⟩
 rw [zP7 pz,yAg];unfold zDO;rw [yAz]
 constructor
 ·rintro ⟨x, hx, e⟩
  obtain ⟨k,rfl,hk,lk⟩:=leastTo_mem.mp hx;have e:=yAj e;rw [zBT] at e;exact mono k m hk hm (sb_iff.mp (by lia)) ((zDD n12 hk).mp lk).1
 ·intro h
  obtain ⟨k,k1,k2,k3⟩:=zFU (ns:=(List.range (2 ^ n)).filter f) n12 (λl hl=>yBM.mp (yBX.mp hl).1) m m (yAE _) (yBX.mpr ⟨yBM.mpr hm,h⟩);refine ⟨((k : Nat) : Int),?_,?_⟩
  ·rw [<- zHR n12 e1]
   exact leastTo_mem.mpr ⟨k,rfl,k1,k2⟩
  ·refine yAM ?_
   rw [zBT,sb_iff.mpr k3]
theorem zVQ {n m k : Nat} (hm : m < 2 ^ n) (hk : k < 2 ^ n) (h : Sb m k) : Sb (2 ^ n - 1 - k) (2 ^ n - 1 - m) := fun j hj => by
 rw [zFG hk,yAd,yBb] at hj;rw [zFG hm,yAd,yBb];refine ⟨hj.1,?_⟩
 cases e : m.testBit j with
 | false=>rfl
 | true=>rw [h j e] at hj; exact absurd hj.2 (by simp)
theorem zS2 {n : Nat} {ms : List Int} (h0 : ∀ m ∈ ms, 0 <= m) : ∀ m k, m < 2 ^ n -> k < 2 ^ n -> Sb m k -> zOK n (zDO ms) m = true -> zOK n (zDO ms) k = true := fun m k hm hk sb h => by
 unfold zOK at h ⊢;rw [yBb] at h ⊢
 cases e : zDO ms (2 ^ n - 1 - k) with
 | false=>rfl
 | true=>rw [zVS h0 (zVQ hm hk sb) e] at h; cases h
theorem zIR {n : Nat} (n12 : n <= 12) {ms zs : List Int} (h0 : ∀ m∈ms,0 <= m) (pz : zs.Perm (zAK (zOK n (zDO ms)) (2 ^ n))) {m : Nat} (hm : m < 2 ^ n) : zDO zs m = !zDO ms (2 ^ n - 1 - m):=zSB n12 (zS2 h0) pz hm
theorem zYW {n : Nat} (n9 : n <= 9) (ms : List Int) : zbN n ms := by
 unfold zbN
 have:=zFY (zOK n (zDO ms)) (2 ^ n)
 have p : 2 ^ n <= 2 ^ 9:=yAx (n:=2) (by decide) n9;lia
theorem zIZ {n : Nat} {ms : List Int} (ok : ∀ m ∈ ms, 0 <= m /\ m < 2 ^ n) {m : Nat} (hm : m < 2 ^ n) : zNF ms ((m : Nat) : Int) = !zDO ms (2 ^ n - 1 - m) := by
 unfold zNF zDO
 congr 1
 rw [yAg,yAz,yAz];refine exists_congr λl=>and_congr_right λhl => ?_;rw [yAL,yAL];obtain ⟨k,rfl⟩:=yAw (ok l hl).1;have hk : k < 2 ^ n:=by have:=(ok _ hl).2; exact_mod_cast this
 rw [zBT,zBT]
 constructor
 ·intro h
  have h : k &&& m = 0:=by lia
  have : Sb k (2 ^ n - 1 - m) := fun j hj => by
   rw [zFG hm,yAd,yBb];have t : (k &&& m).testBit j = false:=by rw [h,yDF]
   rw [yCK,hj,yBn] at t;refine ⟨yAM ?_,t⟩
   rcases yBo j n with z | z
   ·exact z
   ·have h1 := yCh hj
    have h2 : 2 ^ n <= 2 ^ j:=yAx (by decide) z;lia
  rw [sb_iff.mpr this]
 ·intro h
  have sb : Sb k (2 ^ n - 1 - m):=sb_iff.mp (by lia)
  have : k &&& m = 0 := by
   refine yBT λj => ?_;rw [yCK,yDF]
   cases e : k.testBit j with
   | false=>rfl
   | true =>
    have:=sb j e
    rw [zFG hm,yAd,yBb] at this;rw [this.2]; rfl
  rw [this]; rfl
theorem zRT (zs : List Int) (m : Nat) : (zID ((m : Nat) : Int) zs).isSome = zDO zs m := by
 unfold zID zDO;rw [yAg,List.find?_isSome,yAz]
section
variable {P : Program} {w : World} {K : PySem.W.Frag} {mg : Str -> Option Value} {base : Heap}
theorem scSettled : FnScope ["system","fallen","lot"] ["system","fallen"] (zA7 zHX):=by trivial
noncomputable def zc4 (n : Nat) (ms : List Int) (m : Int) (w : Str) (l : Int) : Prop :=
 (w = "stands"/\l∈ms/\Builtin.bitAnd l m = 0) \/ (w = "falls"/\Builtin.bitAnd l m = l/\∀ o∈ms,0 < Builtin.bitAnd l o)
noncomputable def zGT (CS C : Addr) : Sp := fun vs H Q _ => ∃ p x xs ms m, vs = [.ref p, x] /\ SysAt CS C H p xs ms /\ Ord xs ms /\ zJO (some xs) = true /\ xs.length <= 9 /\ SetAt H x xs m /\ 0 <= m /\ m < 2 ^ xs.length /\
 ∀ w l t D H',zc4 xs.length ms m w l -> 0 <= l -> l < 2 ^ xs.length -> Same H H' -> H t = none -> H D = none -> H' t = some (.tup [.str w,.ref D]) -> H' D = some (.lst (setV xs l)) -> Q (.ref t) H'
theorem zPN {xs : List V} {ms : List Int} (h : Ord xs ms) : ∀ m∈ms,0 <= m/\m < 2 ^ xs.length:=λm hm=>h.ok m hm
theorem zKZ {n : Nat} {ms : List Int} (ok : ∀ m ∈ ms, 0 <= m /\ m < 2 ^ n) {m l : Int} (m0 : 0 <= m) (m1 : m < 2 ^ n) (h : zID (Builtin.bitXor (2 ^ n - 1) m) ms = some l) : l ∈ ms /\ Builtin.bitAnd l m = 0 := by
 have hm:=yDV h;have hl:=List.find?_some h;have hl:=yAj hl;obtain ⟨x,rfl⟩:=yAw m0;have hx : x < 2 ^ n:=by exact_mod_cast m1
 have e1 : (2 : Int) ^ n - 1 = ((2 ^ n - 1 : Nat) : Int) := by
  have:=Nat.two_pow_pos n
  rw [Int.natCast_sub (by lia),yBi]; rfl
 rw [e1,zLM hx] at hl
 have d : zDO [l] (2 ^ n - 1 - x) = true := by
  unfold zDO;rw [yAz];exact ⟨l,yAF.mpr rfl,yAM hl⟩
 have e:=zIZ (ms:=[l]) (λm hm'=>by rw [yAF.mp hm']; exact ok l hm) hx;rw [d] at e;unfold zNF at e;refine ⟨hm,?_⟩
 by_cases c : Builtin.bitAnd l ((x : Nat) : Int) = 0
 ·exact c
 ·exfalso
  have : ([l].any fun l => decide (Builtin.bitAnd l ((x : Nat) : Int) = 0)) = false := by
   rw [yDB];intro o ho;rw [yAF.mp ho,yAL];exact c
  rw [this] at e
  cases e
theorem zNY {n : Nat} (n12 : n <= 12) {ms zs : List Int} (ok : ∀ m ∈ ms, 0 <= m /\ m < 2 ^ n) (okz : ∀ m ∈ zs, 0 <= m /\ m < 2 ^ n) (pz : zs.Perm (zAK (zOK n (zDO ms)) (2 ^ n))) {m l : Int} (h : zID m zs = some l) : Builtin.bitAnd l m = l /\ ∀ o ∈ ms, 0 < Builtin.bitAnd l o := by
 have hm:=yDV h;have hl:=List.find?_some h;have hl:=yAj hl;refine ⟨hl,λo ho => ?_⟩;obtain ⟨k,rfl⟩:=yAw (okz l hm).1;have hk : k < 2 ^ n:=by have:=(okz _ hm).2; exact_mod_cast this
 have d1 : zDO zs k = true := by
  unfold zDO;rw [yAz];exact ⟨_,hm,yAM (by rw [zBT,Nat.and_self])⟩
 rw [zIR n12 (λm h=>(ok m h).1) pz hk] at d1;have e:=zIZ ok hk;rw [d1,zL3 (λo h=>(ok o h).1)] at e;exact yAj ((yAu.mp e) o ho)
theorem zTV {n : Nat} (n12 : n <= 12) {ms zs : List Int} (ok : ∀ m ∈ ms, 0 <= m /\ m < 2 ^ n) (pz : zs.Perm (zAK (zOK n (zDO ms)) (2 ^ n))) {m : Int} (m0 : 0 <= m) (m1 : m < 2 ^ n) (h : zID (Builtin.bitXor (2 ^ n - 1) m) ms = none) : ∃ l, zID m zs = some l := by
 obtain ⟨x,rfl⟩:=yAw m0;have hx : x < 2 ^ n:=by exact_mod_cast m1
 have e1 : (2 : Int) ^ n - 1 = ((2 ^ n - 1 : Nat) : Int) := by
  have:=Nat.two_pow_pos n
  rw [Int.natCast_sub (by lia),yBi]; rfl
 rw [e1,zLM hx] at h;have d:=zRT ms (2 ^ n - 1 - x);rw [h] at d;have d2:=zIR n12 (λm h=>(ok m h).1) pz hx;rw [<- d] at d2;have d3:=zRT zs x;rw [d2] at d3;exact yBf.mp d3
set_option maxHeartbeats 1000000 in
theorem zKO {f a1 a2 a3 CS C : Addr} {fd d1 d2 d3 : FuncData} (F : Fun K "settled" "settled" zHX f fd) (clS : Cls K CS) (M1 : Meth K CS "standing" a1) (O1 : FnOk P w K mg base CX0 5 a1 d1 ["self", "fallen"] (zGS CS C)) (b1 : Binds K d1 ["self", "fallen"] [])
  (M2 : Meth K CS "within" a2) (O2 : FnOk P w K mg base CX0 5 a2 d2 ["self","names"] (zIS CS C)) (b2 : Binds K d2 ["self","names"] []) (D3 : Def P w K mg base 9 "other_side" ["system"] (zP3 CS C) a3 d3) : FnOk P w K mg base CX0 10 f fd ["system","fallen"] (zGT CS C):=by
 refine F.ok scSettled (λvs H Q E h => ?_) (λcdv A outer s H vs Q E hr h => ?_)
 ·obtain ⟨p, x, xs, ms, m, rfl, _⟩ := h
  rfl
 obtain ⟨p,x,xs,ms,m,rfl,hS,hO,are,n9,hx,m0,m1,q⟩:=h;have hr5 : Room 5 _:=hr.mono (by decide);have okm:=zPN hO;obtain ⟨dx,_,_,hp,_⟩:=id hS
 refine ⟨_, zA3 (zAE (i := 2) scSettled.nd rfl (Or.inl rfl) (zBH (pv 0) clS M1 O1 hr5 b1 .nil zAD (zA0 (pv 1) zA1)))
  (zA3 (zB7 (zAM zWI (pv 2) zCA (zAO _)) (zA4 (zAB (zAS (zA0 zBB (zA0 (pv 2) zA1))))) zAG)
  (zA4 (zAB (zAS (zA0 zBB (zA0 (zBH (zA9 D3.ok hr rfl D3.m D3.k D3.b .nil zAD (zA0 (pv 0) zA1)) clS M2 O2 hr5 b2 .nil zAD (zA0 (pv 1) zA1)) zA1)))))),?_⟩
 refine ⟨_,rfl,p,dx,_,rfl,hp,rfl,_,rfl,p,x,xs,ms,m,rfl,hS,hO,hx,m0,m1,?_⟩
 cases e : zID (Builtin.bitXor (2 ^ xs.length - 1) m) ms with
 | some l =>
  obtain ⟨f1,f2⟩:=zKZ okm m0 m1 e;have okl:=okm l f1;intro D H1 hD g1 lD;refine ⟨_,rfl,rfl,_,rfl,?_⟩;rw [yAG (λz=>nomatch z)];refine zC7 ⟨_,rfl,(by show 2 <= sizeLine; decide),λt ht => ?_⟩;have g2:=same_new ht (.tup [.str "stands",.ref D]);exact q "stands" l t D _ (.inl ⟨rfl,f1,f2⟩) okl.1 okl.2 (g1.trans g2) (g1.free ht) hD zA2 (g2 _ _ lD)
 | none =>
  intro H1 g1;refine ⟨_,rfl,rfl,_,rfl,zBP ?_⟩;refine ⟨_,rfl,p,xs,ms,rfl,hS.same g1,hO,are,zYW n9 ms,λo H2 zs ho g2 S2 p2 W2 => ?_⟩;obtain ⟨dx2,_,_,hp2,_⟩:=id S2;have okz:=zPN W2;obtain ⟨l,el⟩:=zTV (zs:=zs) (by lia) okm p2 m0 m1 e;obtain ⟨f1,f2⟩:=zNY (by lia) okm okz p2 el;have okl:=okz l (yDV el);refine ⟨o,dx2,_,rfl,hp2,rfl,_,rfl,o,x,xs,zs,m,rfl,S2,W2,(hx.same g1).same g2,m0,m1,?_⟩;rw [el];intro D H3 hD g3 lD;refine ⟨(by show 2 <= sizeLine; decide),λt ht => ?_⟩;have g4:=same_new ht (.tup [.str "falls",.ref D]);have g12:=g1.trans g2;exact q "falls" l t D _ (.inr ⟨rfl,f1,f2⟩) okl.1 okl.2 ((g12.trans g3).trans g4) ((g12.trans g3).free ht) (g12.free hD) zA2 (g4 _ _ lD)
theorem zMK {xs : List V} (nd : xs.Nodup) : ∀ (ns acc : List Nat), (acc ++ ns).Nodup -> (∀ k ∈ ns, k < xs.length) -> zF2 xs (ns.map fun k => xs.getD k .non) acc = some (acc ++ ns)
 | [],acc,_,_=>by rw [yBh]; rfl
 | k::r,acc,h,lt=>by
  have hk:=lt k (yAR ..);have e : xs[k]? = some (xs.getD k .non):=by rw [yAo,yAA hk]; rfl
  have pk:=zH3 nd e;rw [yAl];unfold zF2;rw [pk];dsimp only;have ni : k∉acc:=λhm=>(yCd.mp h).2.2 k hm k (yAR ..) rfl;rw [yAN ni,zMK nd r (acc++[k]) (by rw [yAy]; exact h) (λj hj=>lt j (yAO _ hj)),yAy];rfl
theorem zIU : ∀ (ns acc : List Nat), (acc ++ ns).Nodup -> zC9 (sumP acc) acc -> zC9 (sumP (acc ++ ns)) (acc ++ ns)
 | [],acc,_,h=>by rw [yBh]; exact h
 | k::r,acc,nd,h=>by
  have ni : k∉acc:=λhm=>(yCd.mp nd).2.2 k hm k (yAR ..) rfl;have q:=zIU r (acc++[k]) (by rw [yAy]; exact nd) (by rw [zI0]; exact zHQ h ni);rw [yAy] at q;exact q
theorem zRE {xs : List V} (hG : GN xs) {l : Int} (l0 : 0 <= l) (l1 : l < 2 ^ xs.length) : zDI xs (setV xs l) = .int l := by
 obtain ⟨x,rfl⟩:=yAw l0;have hx : x < 2 ^ xs.length:=by exact_mod_cast l1
 have hi:=hG.hi;rw [zEZ hG];unfold zE3;have nd:=zHD ((x : Nat) : Int)
 have small : ∀ i, x.testBit i = true -> i < xs.length := fun i hb => by
  have h1:=yCh hb
  rcases yBo i xs.length with z | z
  ·exact z
  ·have h2 : 2 ^ xs.length <= 2 ^ i := yAx (by decide) z
   lia
 have mem : ∀ i, i ∈ zB9 ((x : Nat) : Int) ↔ x.testBit i = true := fun i => by
  rw [zCH,yBX,yBM];exact ⟨λh=>h.2,λh=>⟨by have:=small i h; lia,h⟩⟩
 have e:=zMK hG.nd (zB9 ((x : Nat) : Int)) [] nd (λk hk=>small k ((mem k).mp hk));rw [zFS,e];dsimp only;rw [yDt];have hb:=zIU (zB9 ((x : Nat) : Int)) [] nd (λi=>by show (0 : Nat).testBit i = _; simp);rw [yDt] at hb
 have es : sumP (zB9 ((x : Nat) : Int)) = x := yBT fun i => by
  rw [hb i,yAg,yAL]; exact mem i
 rw [es,yAQ rfl]
theorem zT3 {ms : List Int} {m l : Int} {d : PyData} (h : PyData.eqv d (.str "stands") = true) : zD6 ms m d (.int l) = (inV (.int l) (IV ms) && decide (V.int (Builtin.bitAnd l m) = V.int 0)) := by
 show (if PyData.eqv d (.str "stands") = true then _ else _) = _;rw [yAQ h]
theorem zSK {ms : List Int} {m l : Int} {d : PyData} (h : ¬ PyData.eqv d (.str "stands") = true) : zD6 ms m d (.int l) = (PyData.eqv d (.str "falls") && decide (V.int (Builtin.bitAnd l m) = V.int l) && ms.all fun o => decide (0 < Builtin.bitAnd l o)) := by
 show (if PyData.eqv d (.str "stands") = true then _ else _) = _;rw [yAN h]
theorem zNH {K : PySem.W.Frag} {H : Hp} {t D : Addr} {xs : List V} {ms : List Int} {m l : Int} {w : Str} (hG : GN xs) (l0 : 0 <= l) (l1 : l < 2 ^ xs.length) (ht : H t = some (.tup [.str w, .ref D])) (hD : H D = some (.lst (setV xs l))) (h : zc4 xs.length ms m w l) : ShW K H xs ms m (.ref t) true := by
 have e0 : zLY H (.ref t) = some [.str w,.ref D]:=by show hoT (H t) = _; rw [ht]; rfl
 have e1 : zCX H (.ref D) = some (setV xs l):=by show hoL (H D) = _; rw [hD]; rfl
 unfold ShW;rw [e0];refine .inr ⟨_,_,_,.str w,rfl,.lst hD,λys ey v hv => ?_,.str w,?_,by simp only [PyData.depth]; lia,?_⟩
 ·rw [e1] at ey
  cases ey
  exact (TN.leaf (n:=0) (b:=0) (H:=H) (zE7 hG l v hv)).th
 ·rcases h with ⟨rfl,_⟩ | ⟨rfl,_⟩ <;> decide +kernel
 ·rw [e1]
  show true = zD6 ms m (.str w) (zDI xs (setV xs l));rw [zRE hG l0 l1]
  rcases h with ⟨rfl,h1,h2⟩ | ⟨rfl,h1,h2⟩
  ·rw [zT3 (by decide +kernel), h2, yAM rfl, Bool.and_true]
   refine (Eq.symm ?_);unfold inV;rw [yAz];exact ⟨.int l,yAs.mpr ⟨l,h1,rfl⟩,yAc.mpr rfl⟩
  ·rw [zSK (by decide +kernel), h1, yAM rfl, show PyData.eqv (.str "falls") (.str "falls") = true by decide +kernel]
   refine (Eq.symm ?_);rw [Bool.and_true,yBn,yAu];exact λo ho=>yAM (h2 o ho)
noncomputable def spLaw (K : PySem.W.Frag) : Sp:=λvs H Q _=>∃ (a : Addr) (ns : List Int),vs = [.ref a]/\SqL K H a (ns.map V.int)/\ns.length <= 63/\∀ H',Q (.bl true) H'
theorem zLR {K : PySem.W.Frag} {H H' : Hp} (g : Same H H') {x : V} {r : Option (List V)} (h : Row H x r) : zLY H' x = zLY H x := by
 cases h with
 | lst h=>show hoT (H' _) = hoT (H _); rw [h,g _ _ h]
 | tup h=>show hoT (H' _) = hoT (H _); rw [h,g _ _ h]
 | dK h=>show hoT (H' _) = hoT (H _); rw [h,g _ _ h]
 | _=>rfl
theorem FstTh.same {K : PySem.W.Frag} {H H' : Hp} (g : Same H H') {y : V} {r : Option (List V)} (hr : Row H y r) (h : FstTh H y) : FstTh H' y := fun a b e => by
 rw [zLR (K:=K) g hr] at e;exact (h a b e).mono g
theorem ShW.same {K : PySem.W.Frag} {H H' : Hp} {xs : List V} {ms : List Int} {m : Int} {y : V} {u : Bool} (g : Same H H') {r : Option (List V)} (hr : Row H y r) (h : ShW K H xs ms m y u) : ShW K H' xs ms m y u := by
 unfold ShW at h ⊢;rw [zLR (K:=K) g hr]
 cases e : zLY H y with
 | none=>rw [e] at h; exact h
 | some vs =>
  rw [e] at h
  rcases h with h | ⟨a,b,rb,d,h1,h2,h3,h4,h5,h6,h7⟩
  ·exact .inl h
  ·refine .inr ⟨a, b, rb, d, h1, h2.same g, ?_, h4.mono g, h5, h6, ?_⟩
   ·rw [zD9 g h2]; exact λys ey v hv=>(h3 ys ey v hv).mono g
   ·rw [zD9 g h2]; exact h7
theorem scLaw : FnScope ["_law_script","_law_k","_law_box_here","_law_names_here","_law_masks_here","_law_system","_law_turn","_law_fallen","_law_some","_law_told","_law_lap","_law_thing","_law_kept","_law_found"] ["_law_script"] (zA7 zRZ):=by trivial
set_option maxHeartbeats 4000000 in
theorem zZM {f c1 c2 c3' c4 c5 c6 c7 c8 c9 c10 CS C : Addr} {fd e1 e2 e3 e4 e5 e6 e7 e8 e9 e10 : FuncData} (F : Fun K "law" "law" zRZ f fd) (T : Txt mg) (mt : mg "tuple" = none) (mx : mg "max" = none) (mn : mg "min" = none) (kk : Kit K)
  (DC : Def P w K mg base 1 "_law_cell" ["_law_script","_law_k"] (zV5 K) c1 e1) (DB : Def P w K mg base 1 "_law_box" ["_law_cell_here"] zZA c2 e2) (DT : Def P w K mg base 1 "_law_take" ["_law_box_here","_law_many"] zD7 c3' e3) (DD : Def P w K mg base 8 "_law_drawn" ["_law_box_here"] (zPW CS C) c4 e4)
  (DX : Def P w K mg base 2 "_law_mixed" ["_law_box_here","_law_some"] zFD c5 e5) (DS : Def P w K mg base 1 "_law_set" ["_law_names_here","_law_mask_here"] (zKB K) c6 e6) (DE : Def P w K mg base 10 "settled" ["system","fallen"] (zGT CS C) c7 e7) (DF : Def P w K mg base 2 "_law_forged" ["_law_box_here","_law_names_here","_law_masks_here","_law_fallen","_law_told"] zM0 c8 e8)
  (DH : Def P w K mg base 8 "shows_settled" ["system","fallen","thing"] (zLH K CS C) c9 e9) (DU : Def P w K mg base 2 "_law_due" ["_law_names_here","_law_masks_here","_law_fallen","_law_thing"] (zUN K) c10 e10) : FnOk P w K mg base CX0 11 f fd ["_law_script"] (spLaw K):=by
 refine F.ok scLaw (λvs H Q E h => ?_) (λcdv A outer s H vs Q E hr h => ?_)
 ·obtain ⟨a, ns, rfl, _⟩ := h
  rfl
 obtain ⟨a,ns,rfl,hS,h63,q⟩:=h;have hr1 : Room 1 _:=hr.mono (by decide);have hr2 : Room 2 _:=hr.mono (by decide);have hr8 : Room 8 _:=hr.mono (by decide);have hr10 : Room 10 _:=hr.mono (by decide)
 refine ⟨_, zA3 (zC8 PassesOwn.never rfl (zC0 rfl T.range (zA0 (zAA (zJH rfl) rfl mx PyProof.Rows.boot_max (zA0 zA8 (zA0 (zAA (zOH rfl) rfl mn PyProof.Rows.boot_min (zA0 (zAA zAF rfl T.len yBC (zA0 (pv 0) zA1)) (zA0 zA8 zA1))) zA1))) zA1)) (zAH (i := 1) scLaw.nd rfl (Or.inl rfl))
   (zA3 (zAE (i:=2) scLaw.nd rfl (Or.inl rfl) (zA9 DB.ok hr1 rfl DB.m DB.k DB.b .nil zAD (zA0 (zA9 DC.ok hr1 rfl DC.m DC.k DC.b .nil zAD (zA0 (pv 0) (zA0 (pv 1) zA1))) zA1)))
   (zA3 (zH7 (zA9 DD.ok hr8 rfl DD.m DD.k DD.b .nil zAD (zA0 (pv 2) zA1)) (zVK rfl (zBL (zAH (i:=3) scLaw.nd rfl (Or.inl rfl)) (zBL (zAH (i:=4) scLaw.nd rfl (Or.inl rfl)) (zBL (zAH (i:=5) scLaw.nd rfl (Or.inl rfl)) zG3)))))
   (zA4 (zC8 PassesOwn.never rfl (zC0 rfl T.range (zA0 zA8 zA1)) (zAH (i := 6) scLaw.nd rfl (Or.inl rfl))
    (zA3 (zAE (i:=7) scLaw.nd rfl (Or.inl rfl) (zA9 DT.ok hr1 rfl DT.m DT.k DT.b .nil zAD (zA0 (pv 2) (zA0 (zAC zCU zA8 (zAA zAF rfl T.len yBC (zA0 (pv 3) zA1))) zA1))))
    (zA3 (zAE (i:=8) scLaw.nd rfl (Or.inl rfl) (zA9 DX.ok hr2 rfl DX.m DX.k DX.b .nil zAD (zA0 (pv 2) (zA0 (zA9 DS.ok hr1 rfl DS.m DS.k DS.b .nil zAD (zA0 (pv 3) (zA0 (pv 7) zA1))) zA1))))
    (zA3 (zAE (i:=9) scLaw.nd rfl (Or.inl rfl) (zA9 DE.ok hr10 rfl DE.m DE.k DE.b .nil zAD (zA0 (pv 5) (zA0 (pv 8) zA1))))
    (zA3 (zC8 PassesOwn.never rfl (zC0 rfl T.range (zA0 zA8 zA1)) (zAH (i := 10) scLaw.nd rfl (Or.inl rfl))
     (zA3 (zAE (i:=11) scLaw.nd rfl (Or.inl rfl) (zA9 DF.ok hr2 rfl DF.m DF.k DF.b .nil zAD (zA0 (pv 2) (zA0 (pv 3) (zA0 (pv 4) (zA0 (pv 7) (zA0 (pv 9) zA1)))))))
     (zA3 (zAE (i:=12) scLaw.nd rfl (Or.inl rfl) (zAA (zH1 hr) rfl T.repr PyProof.Rows.boot_repr (zA0 (pv 11) zA1)))
     (zA3 (zAE (i:=13) scLaw.nd rfl (Or.inl rfl) (zA9 DH.ok hr8 rfl DH.m DH.k DH.b .nil zAD (zA0 (pv 5) (zA0 (zBQ zB6 (zAQ (zA0 (pv 8) (zA0 (zB8 zB0 rfl mt yAv (zA0 (pv 8) zA1)) zA1))) (zAC zG0 (pv 10) zA8) (λ_ _=>rfl)) (zA0 (pv 11) zA1)))))
     (zA4 (zB7 (PW.pt (zEA (zBI (zBG (zAA zB3 rfl T.inst yAZ (zA0 (pv 13) (zA0 (zAY (v := .ty "bool") rfl T.bool PyProof.Rows.boot_bool rfl) zA1))))) (zEA (zAM zSH (pv 13) (zA9 DU.ok hr2 rfl DU.m DU.k DU.b .nil zAD (zA0 (pv 3) (zA0 (pv 4) (zA0 (pv 7) (zA0 (pv 11) zA1))))) (zAO _))
       (zDK (zAM zSH (zAA (zH1 hr) rfl T.repr PyProof.Rows.boot_repr (zA0 (pv 11) zA1)) (pv 12) (zAO _)))))) (zA4 (zAB zDJ)) zAG))))))
    (zA4 (zB7 (zAM zQA (zA9 DH.ok hr8 rfl DH.m DH.k DH.b .nil zAD (zA0 (pv 5) (zA0 (pv 8) (zA0 (pv 9) zA1)))) zDJ (zAO _)) (zA4 (zAB zDJ)) zAG)))))))))))
  (zA4 (zAB zDJ)),?_⟩
 have s1000 : 1000 < sizeLine:=by decide
 refine ⟨_,rfl,a,_,rfl,.inl hS,_,_,rfl,_,_,rfl,_,rfl,?_,?_,?_⟩
 ·split <;> (try split) <;> (try simp only [yAB]) <;> lia
 ·split <;> (try split) <;> (try simp only [yAB]) <;> lia
 refine zCF (lo:=0) (λi σ H'=>∃ k v2 v3 v4 v5 v6 v7 v8 v9 v10 v11 v12 v13,σ = [some (.ref a),k,v2,v3,v4,v5,v6,v7,v8,v9,v10,v11,v12,v13]/\Same H H') ⟨_,_,_,_,_,_,_,_,_,_,_,_,_,rfl,Same.refl H⟩ ?_ ?_
 ·rintro i σ H' hi ⟨k, v2, v3, v4, v5, v6, v7, v8, v9, v10, v11, v12, v13, rfl, g⟩
  refine ⟨_,rfl,_,rfl,a,ns,_,rfl,g.seq hS,by lia,λn=>⟨n,rfl,λb H2 g2 hb hb2 => ?_⟩⟩;have hbH : H b = none:=g.free hb;have fin : ∀ H9,Away b H2 H9 -> Same H H9:=λH9 aw c o hc=>aw c o (g2 _ _ (g _ _ hc)) (zA5 hc hbH);refine ⟨_,rfl,b,rfl,hb2,λrr nn MM pp H6 xs ms zs dw => ?_⟩;obtain ⟨rb,nmb,Mb,top,nmA,are,h8,MA,h22,ok,sys,pz,O,bx6,aw6⟩:=dw;have hG:=zF6 are;have n12:=hG.hi;have n1:=hG.lo;have okz:=zPN O
  have pow8 : (2 : Int) ^ xs.length <= 256 := by
   have:=yAx (n:=2) (by decide) h8
   exact_mod_cast this
  have hsh : zXV 1 ((xs.length : Nat) : Int):=⟨by lia,by lia,by decide⟩;have es : (1 : Int) * 2 ^ ((xs.length : Nat) : Int).toNat = 2 ^ xs.length:=by rw [yAf,yCQ]
  refine ⟨rr,_,rfl,SqL.of top,rfl,?_⟩;refine ⟨_,_,rfl,_,_,rfl,_,_,rfl,rfl,?_⟩;refine ⟨3,rfl,by decide,by decide,?_⟩;refine zCF (lo:=0) (λj σ H7=>∃ vk v6 v7 v8 v9 v10 v11 v12 v13,σ = [some (.ref a),vk,some (.ref b),some (.ref nn),some (.ref MM),some (.ref pp),v6,v7,v8,v9,v10,v11,v12,v13]/\Away b H6 H7/\BoxAt H7 b) ⟨_,_,_,_,_,_,_,_,_,by rfl,Away.refl _,bx6⟩ ?_ ?_
  ·rintro j σ H7 hj ⟨vk, v6, v7, v8, v9, v10, v11, v12, v13, rfl, aw7, bx7⟩
   have nm7:=aw7 _ _ nmA nmb;refine ⟨_,rfl,_,rfl,nn,xs,rfl,.inl (SqL.of nm7),_,_,rfl,rfl,hsh,b,_,rfl,by rw [es]; exact pow_pos _,by rw [es]; lia,bx7,λm H8 m0 m1 bx8 w8 => ?_⟩;rw [es] at m1;have aw8:=aw7.trans w8.away;have nm8:=aw8 _ _ nmA nmb;refine ⟨_,rfl,_,rfl,_,rfl,nn,xs,m,rfl,.inl (SqL.of nm8),n12,m0,m1,λS9 H9 hS9 g9 c9 => ?_⟩;have bx9:=bx8.same g9;have S9b : S9≠b:=(bx8.ne hS9).symm;refine ⟨b,S9,_,rfl,bx9,c9,yAk (zD8 xs _) (by decide),(zFP hG m0 m1).plain,λS10 H10 ys hS10 c10 pm bx10 a10 => ?_⟩;have S10b : S10≠b:=(bx9.ne hS10).symm;have aw10:=(aw8.trans (zAN (b:=b) g9)).trans a10;have sys10:=sys.away bx6 aw10;refine ⟨_,rfl,_,rfl,pp,.ref S10,xs,zs,m,rfl,sys10,O,are,by lia,SetAt.of_perm hG m0 m1 (.lst c10) pm,m0,m1,λw' l t D H11 sr l0 l1 g11 ht hD ct cD => ?_⟩;have tb : t≠b:=(bx10.ne ht).symm;have Db : D≠b:=(bx10.ne hD).symm;have bx11:=bx10.same g11;have aw11:=aw10.trans (zAN (b:=b) g11);have cS11:=g11 _ _ c10;refine ⟨5,rfl,by decide,by decide,?_⟩;refine zCF (lo:=0) (λe σ H12=>∃ vj v10 v11 v12 v13,σ = [some (.ref a),vk,some (.ref b),some (.ref nn),some (.ref MM),some (.ref pp),vj,some (.int m),some (.ref S10),some (.ref t),v10,v11,v12,v13]/\Away b H11 H12/\BoxAt H12 b) ⟨_,_,_,_,_,by rfl,Away.refl _,bx11⟩ ?_ ?_
   ·rintro e σ H12 he ⟨vj, v10, v11, v12, v13, rfl, aw12, bx12⟩
    have a12:=aw11.trans aw12;refine ⟨_,rfl,_,rfl,_,rfl,_,rfl,_,rfl,b,nn,MM,t,D,xs,ms,m,w',l,rfl,bx12,nmb,Mb,tb,Db,a12 _ _ nmA nmb,hG,h8,a12 _ _ MA Mb,by lia,ok,m0,m1,?_,aw12 _ _ ct tb,aw12 _ _ cD Db,l0,l1,λy H13 a13 bx13 tg => ?_⟩
    ·rcases sr with ⟨h, _⟩ | ⟨h, _⟩
     ·exact .inl h
     ·exact .inr h
    have a13':=a12.trans a13;obtain ⟨r,u,hRow,hF,hW⟩:=tg.use (K:=K) xs zs m;obtain ⟨z,hz⟩:=tg.shown (K:=K);refine ⟨_,rfl,hz H13 (Same.refl _) _ ?_⟩;have cS13:=a13 _ _ (aw12 _ _ cS11 S10b) S10b;refine ⟨_,rfl,_,rfl,_,rfl,S10,_,rfl,.inl ⟨SqL.of cS13,λp14 h14 => ?_⟩⟩;obtain ⟨H14,g14,c14,e0⟩:=zKI h14 (.tup ys);rw [e0];clear e0;refine ⟨(by show 2 <= sizeLine; lia),λp15 h15 => ?_⟩;obtain ⟨H15,g15,c15,e0⟩:=zKI h15 (.lst [.ref S10,.ref p14]);rw [e0];clear e0;have g135:=g14.trans g15
    obtain ⟨x, hx, sx⟩ : ∃ x, atI [V.ref S10, .ref p14] ((0 + ((e : Nat) : Int)) % 2) = some x /\ SetAt H15 x xs m := by
     have : e % 2 = 0 \/ e % 2 = 1:=by lia
     have e2 : (0 + ((e : Nat) : Int)) % 2 = ((e % 2 : Nat) : Int):=by lia
     rw [e2]
     rcases this with h | h
     ·rw [h]; exact ⟨_,rfl,SetAt.of_perm hG m0 m1 (.lst (g135 _ _ cS13)) pm⟩
     ·rw [h]; exact ⟨_,rfl,SetAt.of_perm hG m0 m1 (.tup (g15 _ _ c14)) pm⟩
    refine ⟨_,rfl,_,_,rfl,rfl,(by show (0 : Int) < 2; decide),p15,_,_,x,rfl,rfl,SqL.of c15,hx,?_⟩;refine ⟨_,rfl,pp,x,y,xs,zs,m,r,u,rfl,(sys.away bx6 a13').same g135,O,sx,m0,m1,?_,?_,λH16 g16 => ?_⟩
    ·exact hRow.same g135
    ·exact hW.same g135 hRow
    have g136:=g135.trans g16;refine ⟨_,rfl,.bl u,.type "bool","bool",true,rfl,.bl u,rfl,_,rfl,zBP ?_⟩;have a16:=a13'.trans (zAN (b:=b) g136);refine ⟨_,rfl,_,rfl,_,rfl,_,rfl,_,rfl,nn,MM,xs,ms,m,y,r,u,rfl,a16 _ _ nmA nmb,hG,.inl (SqL.of (a16 _ _ MA Mb)),by lia,λo ho=>(ok.ok o ho).1,?_,?_,?_,λH17 g17 => ?_⟩
    ·exact hRow.same g136
    ·exact hF.same (K:=K) g136 hRow
    ·exact (hW.same g136 hRow).perm pz
    refine ⟨rfl,_,rfl,?_⟩;rw [yAM rfl];refine zBP ?_;have g137:=g136.trans g17;refine ⟨_,rfl,hz H17 g137 _ ⟨_,rfl,rfl,_,rfl,?_⟩⟩;rw [yAM rfl];refine zBP ?_;exact ⟨_,_,_,_,_,rfl,(aw12.trans a13).trans (zAN (b:=b) g137),bx13.same g137⟩
   ·rintro σ H12 ⟨vj, v10, v11, v12, v13, rfl, aw12, bx12⟩
    have a12:=aw11.trans aw12;refine ⟨_,rfl,_,rfl,_,rfl,pp,.ref S10,.ref t,xs,zs,m,some [.str w',.ref D],true,rfl,sys.away bx6 a12,O,SetAt.of_perm hG m0 m1 (.lst (aw12 _ _ cS11 S10b)) pm,m0,m1,.tup (aw12 _ _ ct tb),zNH hG l0 l1 (aw12 _ _ ct tb) (aw12 _ _ cD Db) sr,λH13 g13 => ?_⟩;refine ⟨_,_,rfl,rfl,_,rfl,zBP ?_⟩;exact ⟨_,_,_,_,_,_,_,_,_,rfl,a12.trans (zAN (b:=b) g13),bx12.same g13⟩
  ·rintro σ H7 ⟨vk, v6, v7, v8, v9, v10, v11, v12, v13, rfl, aw7, bx7⟩
   exact ⟨_,_,_,_,_,_,_,_,_,_,_,_,_,rfl,fin H7 (aw6.trans aw7)⟩
 ·rintro σ H' ⟨k, v2, v3, v4, v5, v6, v7, v8, v9, v10, v11, v12, v13, rfl, g⟩
  exact q H'
theorem zAT {K : PySem.W.Frag} {t c : String} {b : Bool} (n : ((Value.type t) == (Value.type c)) = false) (m : PySem.W.kitMeta c = true) (s : PySem.W.subIn K (.type t) (.type c) = some b) : PySem.W.kitOne K (.type t) (.type c) = some b := by
 unfold PySem.W.kitOne;rw [yAN (by rw [n]; simp)];unfold PySem.W.kitCls;dsimp only;rw [yAQ m];exact s
noncomputable abbrev bmV : List Value:=[.type "ValueError",.type "Exception",.type "BaseException",.type "object"]
theorem tailV : L2E.Tail bmV "ValueError":=⟨by decide +kernel,by decide +kernel,by decide +kernel⟩
theorem zX8 (C : Addr) : L2E.Tail (.ref C::bmV) "ValueError":=⟨by rw [yBB,tailV.base,yDv],by rw [yBB,tailV.attr]; rfl,by rw [yBB,tailV.name]; rfl⟩
theorem zXQ {x : V} {u : Value} (h : zYP u = some x) : RelV x u := by
 cases u <;> first | (cases h; exact rfl) | (cases h; exact ⟨_,rfl⟩) | cases h
theorem zL9 : ∀ {xs : List V} {us : List Value}, us.map zYP = xs.map some -> Vals xs us
 | [],[],_ => .nil
 | [],_::_,h=>by cases h
 | _::_,[],h=>by cases h
 | x::xs,u::us,h=>by
  injection h with h1 h2
  exact .cons (zXQ h1) (zL9 h2)
theorem zY4 {K : PySem.W.Frag} {mg : Str -> Option Value} {zL : Str} {tL tA : Tok} {iA : Int} {aO : Addr} {cO : Value} {odO : Option Addr} {its : Array Value} {nO : Nat} {slO : Array (Option Value)}
  (hL : mg "LETTERS" = some (.str zL tL)) (eL : zL = LET) (hA : mg "MOST_LETTERS" = some (.int iA tA)) (eA : iA = 6)
  (hO : mg "OWN_WORDS" = some (.ref aO)) (lO : K.lookup aO = some ⟨cO,odO,.seq its nO,slO⟩) (eC : cO = .type "tuple") (eO : its.toList.map zYP = (OWN.map V.str).map some) : Glb K mg:=by
 subst eL eA eC;have v:=zL9 eO
 have hs : its.size <= sizeLine := by
  have h1:=v.length;have h2 : its.toList.length = its.size:=yBI;rw [<- h2,<- h1]
  decide
 exact ⟨⟨_,hL⟩,⟨_,hA⟩,_,hO,λH => .inr ⟨_,its,nO,lO,rfl,rfl,hs,v⟩⟩
set_option maxHeartbeats 0 in
theorem all_mk {l : PySem.W.OpenLaw} {w : World} {K : PySem.W.Frag} {h : Heap} {mg : Str -> Option Value} {fa CM C CS C_h C_y C_t f_a f_b f_c f_d f_e f_f f_g f_h f_i f_j f_k f_l f_m f_n f_o f_p f_q f_r f_s f_t f_u f_v f_w f_x f_y f_z f_A f_B f_C f_D f_E f_F f_G f_H f_I f_J f_K f_L f_M f_N f_O f_P f_Q f_R f_S f_T f_U f_V f_W : Addr} (X : K.In h) (G : h.Ns mainGlobals mg) (hfa : mg "law" = some (.ref fa))
  {d_a d_b d_c d_d d_e d_f d_g d_h d_i d_j d_k d_l d_m d_n d_o d_p d_q d_r d_s d_t d_u d_v d_w d_x d_y d_z d_A d_B d_C d_D d_E d_F d_G d_H d_I d_J d_K d_L d_M d_N d_O d_P d_Q d_R d_S d_T d_U d_V : FuncData} {od_W an_W : Option Addr} {sl_W : Array (Option Value)} {oc_W kV_W dc_W pm_W cd_W ct_W : Value}
  {nmM qnM nmh qnh nmy qny nmt qnt : Str} {nNM nNh nNy nNt : Addr} {bsM sbM bsh sbh bsy sby bst sbt : List Value} {snM snh sny snt : List Str} {abM abh aby abt : Bool} {coM coh coy cot : Option Bool} {ddM ddh ddy ddt : Option Addr} {k0M k1M k2M k3M k5M k0h k1h k2h k3h k5h k0y k1y k2y k3y k5y k0t k1t k2t k3t k5t : Option Value}
  (gM : PySem.W.nsIn K mainGlobals "MeetError" = some (some (.ref CM)))
  (gh : PySem.W.nsIn K mainGlobals "NoHouse" = some (some (.ref C_h)))
  (gy : PySem.W.nsIn K mainGlobals "NoSet" = some (some (.ref C_y)))
  (gt : PySem.W.nsIn K mainGlobals "Twice" = some (some (.ref C_t)))
  (aC : PySem.W.nsIn K mainGlobals "Houses" = some (some (.ref C))) (pgC : PySem.W.plainGet K C Str.empty = true) (hdC : PySem.W.hasDictIn K C = true) (poC : PySem.W.plainOver K C = true) (saC : PySem.W.findIn K (.ref C) "__setattr__" = some (some (.builtin "object.__setattr__"))) (mkC : PySem.W.makesIn K C = true) (kcC : PySem.W.keepIn K (.ref C) = true) (n_row : PySem.W.findIn K (.ref C) "row" = some none) (n_places : PySem.W.findIn K (.ref C) "places" = some none)
  (aS : PySem.W.nsIn K mainGlobals "System" = some (some (.ref CS))) (pgS : PySem.W.plainGet K CS Str.empty = true) (hdS : PySem.W.hasDictIn K CS = true) (poS : PySem.W.plainOver K CS = true) (saS : PySem.W.findIn K (.ref CS) "__setattr__" = some (some (.builtin "object.__setattr__"))) (mkS : PySem.W.makesIn K CS = true) (kcS : PySem.W.keepIn K (.ref CS) = true) (n_ground : PySem.W.findIn K (.ref CS) "ground" = some none) (n_masks : PySem.W.findIn K (.ref CS) "masks" = some none)
  (a_a : PySem.W.findIn K (.ref CM) "__init__" = some (some (.ref f_a))) (i_a : PySem.W.isFn K (.ref f_a) = true)
  (F_a : Fun K "__init__" "MeetError.__init__" zCC f_a d_a)
  (a_b : PySem.W.findIn K (.ref C_h) "__init__" = some (some (.ref f_b))) (i_b : PySem.W.isFn K (.ref f_b) = true)
  (F_b : Fun K "__init__" "NoHouse.__init__" zD4 f_b d_b)
  (a_c : PySem.W.findIn K (.ref C_y) "__init__" = some (some (.ref f_c))) (i_c : PySem.W.isFn K (.ref f_c) = true)
  (F_c : Fun K "__init__" "NoSet.__init__" zEN f_c d_c)
  (a_d : PySem.W.findIn K (.ref C_t) "__init__" = some (some (.ref f_d))) (i_d : PySem.W.isFn K (.ref f_d) = true)
  (F_d : Fun K "__init__" "Twice.__init__" zEG f_d d_d)
  (a_e : PySem.W.nsIn K mainGlobals "is_whole" = some (some (.ref f_e)))
  (F_e : Fun K "is_whole" "is_whole" zOB f_e d_e)
  (a_f : PySem.W.nsIn K mainGlobals "is_within" = some (some (.ref f_f)))
  (F_f : Fun K "is_within" "is_within" zJT f_f d_f)
  (a_g : PySem.W.nsIn K mainGlobals "is_made_of" = some (some (.ref f_g)))
  (F_g : Fun K "is_made_of" "is_made_of" zW5 f_g d_g)
  (a_h : PySem.W.nsIn K mainGlobals "is_name" = some (some (.ref f_h)))
  (F_h : Fun K "is_name" "is_name" zVP f_h d_h)
  (a_i : PySem.W.nsIn K mainGlobals "are_houses" = some (some (.ref f_i)))
  (F_i : Fun K "are_houses" "are_houses" zaD f_i d_i)
  (a_j : PySem.W.findIn K (.ref C) "__init__" = some (some (.ref f_j))) (i_j : PySem.W.isFn K (.ref f_j) = true)
  (F_j : Fun K "__init__" "Houses.__init__" zXR f_j d_j)
  (a_k : PySem.W.findIn K (.ref C) "names" = some (some (.ref f_k))) (i_k : PySem.W.isFn K (.ref f_k) = true)
  (F_k : Fun K "names" "Houses.names" zPV f_k d_k)
  (a_l : PySem.W.findIn K (.ref C) "size" = some (some (.ref f_l))) (i_l : PySem.W.isFn K (.ref f_l) = true)
  (F_l : Fun K "size" "Houses.size" zXH f_l d_l)
  (a_m : PySem.W.findIn K (.ref C) "number" = some (some (.ref f_m))) (i_m : PySem.W.isFn K (.ref f_m) = true)
  (F_m : Fun K "number" "Houses.number" zHA f_m d_m)
  (a_n : PySem.W.findIn K (.ref C) "mask" = some (some (.ref f_n))) (i_n : PySem.W.isFn K (.ref f_n) = true)
  (F_n : Fun K "mask" "Houses.mask" zRX f_n d_n)
  (a_o : PySem.W.findIn K (.ref C) "set_of" = some (some (.ref f_o))) (i_o : PySem.W.isFn K (.ref f_o) = true)
  (F_o : Fun K "set_of" "Houses.set_of" zQ7 f_o d_o)
  (a_p : PySem.W.nsIn K mainGlobals "all_of" = some (some (.ref f_p)))
  (F_p : Fun K "all_of" "all_of" zRG f_p d_p)
  (a_q : PySem.W.nsIn K mainGlobals "numbers_of" = some (some (.ref f_q)))
  (F_q : Fun K "numbers_of" "numbers_of" zbF f_q d_q)
  (a_r : PySem.W.nsIn K mainGlobals "key_of" = some (some (.ref f_r)))
  (F_r : Fun K "key_of" "key_of" zb3 f_r d_r)
  (a_s : PySem.W.nsIn K mainGlobals "in_order" = some (some (.ref f_s)))
  (F_s : Fun K "in_order" "in_order" zaP f_s d_s)
  (a_t : PySem.W.nsIn K mainGlobals "lot_masks" = some (some (.ref f_t)))
  (F_t : Fun K "lot_masks" "lot_masks" zWT f_t d_t)
  (a_u : PySem.W.findIn K (.ref CS) "__init__" = some (some (.ref f_u))) (i_u : PySem.W.isFn K (.ref f_u) = true)
  (F_u : Fun K "__init__" "System.__init__" zQY f_u d_u)
  (a_v : PySem.W.findIn K (.ref CS) "houses" = some (some (.ref f_v))) (i_v : PySem.W.isFn K (.ref f_v) = true)
  (F_v : Fun K "houses" "System.houses" zHU f_v d_v)
  (a_w : PySem.W.findIn K (.ref CS) "first_lot" = some (some (.ref f_w))) (i_w : PySem.W.isFn K (.ref f_w) = true)
  (F_w : Fun K "first_lot" "System.first_lot" zQ8 f_w d_w)
  (a_x : PySem.W.findIn K (.ref CS) "within" = some (some (.ref f_x))) (i_x : PySem.W.isFn K (.ref f_x) = true)
  (F_x : Fun K "within" "System.within" zHP f_x d_x)
  (a_y : PySem.W.nsIn K mainGlobals "table_of" = some (some (.ref f_y)))
  (F_y : Fun K "table_of" "table_of" zHE f_y d_y)
  (a_z : PySem.W.nsIn K mainGlobals "least_masks" = some (some (.ref f_z)))
  (F_z : Fun K "least_masks" "least_masks" zKY f_z d_z)
  (a_A : PySem.W.findIn K (.ref CS) "table" = some (some (.ref f_A))) (i_A : PySem.W.isFn K (.ref f_A) = true)
  (F_A : Fun K "table" "System.table" zPD f_A d_A)
  (a_B : PySem.W.nsIn K mainGlobals "system_by_table" = some (some (.ref f_B)))
  (F_B : Fun K "system_by_table" "system_by_table" zHY f_B d_B)
  (a_C : PySem.W.nsIn K mainGlobals "other_table" = some (some (.ref f_C)))
  (F_C : Fun K "other_table" "other_table" zKL f_C d_C)
  (a_D : PySem.W.nsIn K mainGlobals "other_side" = some (some (.ref f_D)))
  (F_D : Fun K "other_side" "other_side" zPE f_D d_D)
  (a_E : PySem.W.findIn K (.ref CS) "standing" = some (some (.ref f_E))) (i_E : PySem.W.isFn K (.ref f_E) = true)
  (F_E : Fun K "standing" "System.standing" zFZ f_E d_E)
  (a_F : PySem.W.nsIn K mainGlobals "settled" = some (some (.ref f_F)))
  (F_F : Fun K "settled" "settled" zHX f_F d_F)
  (a_G : PySem.W.nsIn K mainGlobals "told_mask" = some (some (.ref f_G)))
  (F_G : Fun K "told_mask" "told_mask" zGA f_G d_G)
  (a_H : PySem.W.nsIn K mainGlobals "shows_settled" = some (some (.ref f_H)))
  (F_H : Fun K "shows_settled" "shows_settled" zJV f_H d_H)
  (a_I : PySem.W.nsIn K mainGlobals "_law_cell" = some (some (.ref f_I)))
  (F_I : Fun K "_law_cell" "_law_cell" zWW f_I d_I)
  (a_J : PySem.W.nsIn K mainGlobals "_law_box" = some (some (.ref f_J)))
  (F_J : Fun K "_law_box" "_law_box" zaO f_J d_J)
  (a_K : PySem.W.nsIn K mainGlobals "_law_take" = some (some (.ref f_K)))
  (F_K : Fun K "_law_take" "_law_take" zXJ f_K d_K)
  (a_L : PySem.W.nsIn K mainGlobals "_law_mixed" = some (some (.ref f_L)))
  (F_L : Fun K "_law_mixed" "_law_mixed" zDT f_L d_L)
  (a_M : PySem.W.nsIn K mainGlobals "_law_names" = some (some (.ref f_M)))
  (F_M : Fun K "_law_names" "_law_names" zK8 f_M d_M)
  (a_N : PySem.W.nsIn K mainGlobals "_law_masks" = some (some (.ref f_N)))
  (F_N : Fun K "_law_masks" "_law_masks" zQM f_N d_N)
  (a_O : PySem.W.nsIn K mainGlobals "_law_size" = some (some (.ref f_O)))
  (F_O : Fun K "_law_size" "_law_size" zEJ f_O d_O)
  (a_P : PySem.W.nsIn K mainGlobals "_law_set" = some (some (.ref f_P)))
  (F_P : Fun K "_law_set" "_law_set" zaN f_P d_P)
  (a_Q : PySem.W.nsIn K mainGlobals "_law_handed" = some (some (.ref f_Q)))
  (F_Q : Fun K "_law_handed" "_law_handed" zKD f_Q d_Q)
  (a_R : PySem.W.nsIn K mainGlobals "_law_meets" = some (some (.ref f_R)))
  (F_R : Fun K "_law_meets" "_law_meets" zDU f_R d_R)
  (a_S : PySem.W.nsIn K mainGlobals "_law_drawn" = some (some (.ref f_S)))
  (F_S : Fun K "_law_drawn" "_law_drawn" zDX f_S d_S)
  (a_T : PySem.W.nsIn K mainGlobals "_law_mask" = some (some (.ref f_T)))
  (F_T : Fun K "_law_mask" "_law_mask" zEH f_T d_T)
  (a_U : PySem.W.nsIn K mainGlobals "_law_due" = some (some (.ref f_U)))
  (F_U : Fun K "_law_due" "_law_due" zFO f_U d_U)
  (a_V : PySem.W.nsIn K mainGlobals "_law_forged" = some (some (.ref f_V)))
  (F_V : Fun K "_law_forged" "_law_forged" zD5 f_V d_V)
  (a_W : PySem.W.nsIn K mainGlobals "law" = some (some (.ref f_W)))
  (l_W : K.lookup f_W = some ⟨oc_W,od_W,.func (PySem.W.fnOf "law" "law" (zEO zRZ) (zCM zRZ) (zA7 zRZ) .none kV_W dc_W pm_W an_W cd_W ct_W),sl_W⟩) (c_W : PySem.W.codeIn K cd_W "law" = true) (k_W : PySem.W.keepIn K (.ref f_W) = true)
  (oM : K.lookup CM = some (excClassObj nmM qnM CM nNM bsM bmV true snM sbM abM coM ddM k0M k1M k2M k3M k5M "ValueError.__new__")) (kcM : PySem.W.keepIn K (.ref CM) = true) (saM : PySem.W.findIn K (.ref CM) "__setattr__" = some (some (.builtin "object.__setattr__"))) (gaM : PySem.W.findIn K (.ref CM) "__getattribute__" = some (some (.builtin "BaseException.__getattribute__"))) (ghM : PySem.W.findIn K (.ref CM) "__getattr__" = some none)
  (oh : K.lookup C_h = some (excClassObj nmh qnh C_h nNh bsh (.ref CM::bmV) true snh sbh abh coh ddh k0h k1h k2h k3h k5h "ValueError.__new__")) (kch : PySem.W.keepIn K (.ref C_h) = true) (sah : PySem.W.findIn K (.ref C_h) "__setattr__" = some (some (.builtin "object.__setattr__"))) (gah : PySem.W.findIn K (.ref C_h) "__getattribute__" = some (some (.builtin "BaseException.__getattribute__"))) (ghh : PySem.W.findIn K (.ref C_h) "__getattr__" = some none)
  (oy : K.lookup C_y = some (excClassObj nmy qny C_y nNy bsy (.ref CM::bmV) true sny sby aby coy ddy k0y k1y k2y k3y k5y "ValueError.__new__")) (kcy : PySem.W.keepIn K (.ref C_y) = true) (say : PySem.W.findIn K (.ref C_y) "__setattr__" = some (some (.builtin "object.__setattr__"))) (gay : PySem.W.findIn K (.ref C_y) "__getattribute__" = some (some (.builtin "BaseException.__getattribute__"))) (ghy : PySem.W.findIn K (.ref C_y) "__getattr__" = some none)
  (ot : K.lookup C_t = some (excClassObj nmt qnt C_t nNt bst (.ref CM::bmV) true snt sbt abt cot ddt k0t k1t k2t k3t k5t "ValueError.__new__")) (kct : PySem.W.keepIn K (.ref C_t) = true) (sat : PySem.W.findIn K (.ref C_t) "__setattr__" = some (some (.builtin "object.__setattr__"))) (gat : PySem.W.findIn K (.ref C_t) "__getattribute__" = some (some (.builtin "BaseException.__getattribute__"))) (ght : PySem.W.findIn K (.ref C_t) "__getattr__" = some none)
  (spM : PySem.W.specialIn K (.ref CM) "__getattribute__" = some (some (.builtin "type.__getattribute__"))) (rdM : PySem.W.readsIn K CM (.type "type") = true) (fcM : PySem.W.findCls K (.ref CM) (.type "type") "__init__" = some (.val (.ref f_a)))
  (nfh : PySem.W.findIn K (.ref C_h) "found" = some none)
  (nfy : PySem.W.findIn K (.ref C_y) "found" = some none)
  (nft : PySem.W.findIn K (.ref C_t) "found" = some none)
  {zL : Str} {tL tA tH tM : Tok} {iA iH iM : Int} {aO : Addr} {cO : Value} {odO : Option Addr} {its : Array Value} {nO : Nat} {slO : Array (Option Value)}
  (xhh : PySem.W.exmOne K (.ref C_h) (.ref C_h) = some true)
  (xht : PySem.W.exmOne K (.ref C_h) (.ref C_t) = some false)
  (xth : PySem.W.exmOne K (.ref C_t) (.ref C_h) = some false)
  (xtt : PySem.W.exmOne K (.ref C_t) (.ref C_t) = some true)
  (gL : PySem.W.nsIn K mainGlobals "LETTERS" = some (some (.str zL tL)))
  (gA : PySem.W.nsIn K mainGlobals "MOST_LETTERS" = some (some (.int iA tA)))
  (gH : PySem.W.nsIn K mainGlobals "MOST_HOUSES" = some (some (.int iH tH)))
  (gN : PySem.W.nsIn K mainGlobals "MOST_LOTS" = some (some (.int iM tM)))
  (gO : PySem.W.nsIn K mainGlobals "OWN_WORDS" = some (some (.ref aO)))
  (lO : K.lookup aO = some ⟨cO,odO,.seq its nO,slO⟩)
  (eL : zL = LET)
  (eA : iA = 6)
  (eH : iH = 12)
  (eM : iM = 1000)
  (eC : cO = .type "tuple")
  (eO : its.toList.map zYP = (OWN.map V.str).map some)
  (z_isinstance : PySem.W.nsIn K mainGlobals "isinstance" = some none) (z_int : PySem.W.nsIn K mainGlobals "int" = some none) (z_bool : PySem.W.nsIn K mainGlobals "bool" = some none) (z_str : PySem.W.nsIn K mainGlobals "str" = some none) (z_len : PySem.W.nsIn K mainGlobals "len" = some none) (z_all : PySem.W.nsIn K mainGlobals "all" = some none) (z_list : PySem.W.nsIn K mainGlobals "list" = some none) (z_range : PySem.W.nsIn K mainGlobals "range" = some none) (z_repr : PySem.W.nsIn K mainGlobals "repr" = some none) (z_tuple : PySem.W.nsIn K mainGlobals "tuple" = some none) (z_set : PySem.W.nsIn K mainGlobals "set" = some none) (z_enumerate : PySem.W.nsIn K mainGlobals "enumerate" = some none) (z_sorted : PySem.W.nsIn K mainGlobals "sorted" = some none) (z_max : PySem.W.nsIn K mainGlobals "max" = some none) (z_min : PySem.W.nsIn K mainGlobals "min" = some none) (z_sum : PySem.W.nsIn K mainGlobals "sum" = some none) (z_any : PySem.W.nsIn K mainGlobals "any" = some none) (z_ValueError : PySem.W.nsIn K mainGlobals "ValueError" = some none)
  (s_i_non : PySem.W.subIn K (.type "NoneType") (.type "int") = some false) (s_i_bool : PySem.W.subIn K (.type "bool") (.type "int") = some true) (s_i_str : PySem.W.subIn K (.type "str") (.type "int") = some false) (s_i_list : PySem.W.subIn K (.type "list") (.type "int") = some false) (s_i_tup : PySem.W.subIn K (.type "tuple") (.type "int") = some false) (s_i_dict : PySem.W.subIn K (.type "dict") (.type "int") = some false) (s_b_non : PySem.W.subIn K (.type "NoneType") (.type "bool") = some false) (s_b_int : PySem.W.subIn K (.type "int") (.type "bool") = some false) (s_b_str : PySem.W.subIn K (.type "str") (.type "bool") = some false) (s_b_list : PySem.W.subIn K (.type "list") (.type "bool") = some false) (s_b_tup : PySem.W.subIn K (.type "tuple") (.type "bool") = some false) (s_b_dict : PySem.W.subIn K (.type "dict") (.type "bool") = some false) (s_s_non : PySem.W.subIn K (.type "NoneType") (.type "str") = some false) (s_s_int : PySem.W.subIn K (.type "int") (.type "str") = some false) (s_s_bool : PySem.W.subIn K (.type "bool") (.type "str") = some false) (s_s_list : PySem.W.subIn K (.type "list") (.type "str") = some false) (s_s_tup : PySem.W.subIn K (.type "tuple") (.type "str") = some false) (s_s_dict : PySem.W.subIn K (.type "dict") (.type "str") = some false) (s_l_non : PySem.W.subIn K (.type "NoneType") (.type "list") = some false) (s_l_bool : PySem.W.subIn K (.type "bool") (.type "list") = some false) (s_l_int : PySem.W.subIn K (.type "int") (.type "list") = some false) (s_l_str : PySem.W.subIn K (.type "str") (.type "list") = some false) (s_l_tup : PySem.W.subIn K (.type "tuple") (.type "list") = some false) (s_l_dict : PySem.W.subIn K (.type "dict") (.type "list") = some false) (s_t_non : PySem.W.subIn K (.type "NoneType") (.type "tuple") = some false) (s_t_bool : PySem.W.subIn K (.type "bool") (.type "tuple") = some false) (s_t_int : PySem.W.subIn K (.type "int") (.type "tuple") = some false) (s_t_str : PySem.W.subIn K (.type "str") (.type "tuple") = some false) (s_t_list : PySem.W.subIn K (.type "list") (.type "tuple") = some false) (s_t_dict : PySem.W.subIn K (.type "dict") (.type "tuple") = some false) :
  ∃ fd : FuncData,(∀ (s : Shared) (v : Value),BindsTo s fd ⟨[v],[]⟩ [("_law_script",v)])/\∀ base : Heap,K.In base -> base.Ns mainGlobals mg -> FnOk l.prog w K mg base CX0 11 fa fd ["_law_script"] (spLaw K):=by
 have e:=hfa.symm.trans (yAT X G a_W)
 cases e
 have F_W:=fun_mk (st:=zRZ) l_W c_W k_W;have b_a:=F_a.binds (ps:=["self","text"]) λ_ _ _ _ _ _ us hl=>match us,hl with | [_,_],_=>rfl
 have b_b:=F_b.binds (ps:=["self","found"]) λ_ _ _ _ _ _ us hl=>match us,hl with | [_,_],_=>rfl
 have b_c:=F_c.binds (ps:=["self","found"]) λ_ _ _ _ _ _ us hl=>match us,hl with | [_,_],_=>rfl
 have b_d:=F_d.binds (ps:=["self","found"]) λ_ _ _ _ _ _ us hl=>match us,hl with | [_,_],_=>rfl
 have b_e:=F_e.binds (ps:=["thing"]) λ_ _ _ _ _ _ us hl=>match us,hl with | [_],_=>rfl
 have b_f:=F_f.binds (ps:=["thing","low","high"]) λ_ _ _ _ _ _ us hl=>match us,hl with | [_,_,_],_=>rfl
 have b_g:=F_g.binds (ps:=["thing","signs","most"]) λ_ _ _ _ _ _ us hl=>match us,hl with | [_,_,_],_=>rfl
 have b_h:=F_h.binds (ps:=["thing"]) λ_ _ _ _ _ _ us hl=>match us,hl with | [_],_=>rfl
 have b_i:=F_i.binds (ps:=["thing"]) λ_ _ _ _ _ _ us hl=>match us,hl with | [_],_=>rfl
 have b_j:=F_j.binds (ps:=["self","names"]) λ_ _ _ _ _ _ us hl=>match us,hl with | [_,_],_=>rfl
 have b_k:=F_k.binds (ps:=["self"]) λ_ _ _ _ _ _ us hl=>match us,hl with | [_],_=>rfl
 have b_l:=F_l.binds (ps:=["self"]) λ_ _ _ _ _ _ us hl=>match us,hl with | [_],_=>rfl
 have b_m:=F_m.binds (ps:=["self","name"]) λ_ _ _ _ _ _ us hl=>match us,hl with | [_,_],_=>rfl
 have b_n:=F_n.binds (ps:=["self","names"]) λ_ _ _ _ _ _ us hl=>match us,hl with | [_,_],_=>rfl
 have b_o:=F_o.binds (ps:=["self","mask"]) λ_ _ _ _ _ _ us hl=>match us,hl with | [_,_],_=>rfl
 have b_p:=F_p.binds (ps:=["houses"]) λ_ _ _ _ _ _ us hl=>match us,hl with | [_],_=>rfl
 have b_q:=F_q.binds (ps:=["mask"]) λ_ _ _ _ _ _ us hl=>match us,hl with | [_],_=>rfl
 have b_r:=F_r.binds (ps:=["mask"]) λ_ _ _ _ _ _ us hl=>match us,hl with | [_],_=>rfl
 have b_s:=F_s.binds (ps:=["masks"]) λ_ _ _ _ _ _ us hl=>match us,hl with | [_],_=>rfl
 have b_t:=F_t.binds (ps:=["houses","lots"]) λ_ _ _ _ _ _ us hl=>match us,hl with | [_,_],_=>rfl
 have b_u:=F_u.binds (ps:=["self","houses","lots"]) λ_ _ _ _ _ _ us hl=>match us,hl with | [_,_,_],_=>rfl
 have b_v:=F_v.binds (ps:=["self"]) λ_ _ _ _ _ _ us hl=>match us,hl with | [_],_=>rfl
 have b_w:=F_w.binds (ps:=["self","mask"]) λ_ _ _ _ _ _ us hl=>match us,hl with | [_,_],_=>rfl
 have b_x:=F_x.binds (ps:=["self","names"]) λ_ _ _ _ _ _ us hl=>match us,hl with | [_,_],_=>rfl
 have b_y:=F_y.binds (ps:=["masks","many"]) λ_ _ _ _ _ _ us hl=>match us,hl with | [_,_],_=>rfl
 have b_z:=F_z.binds (ps:=["table"]) λ_ _ _ _ _ _ us hl=>match us,hl with | [_],_=>rfl
 have b_A:=F_A.binds (ps:=["self"]) λ_ _ _ _ _ _ us hl=>match us,hl with | [_],_=>rfl
 have b_B:=F_B.binds (ps:=["names","table"]) λ_ _ _ _ _ _ us hl=>match us,hl with | [_,_],_=>rfl
 have b_C:=F_C.binds (ps:=["table"]) λ_ _ _ _ _ _ us hl=>match us,hl with | [_],_=>rfl
 have b_D:=F_D.binds (ps:=["system"]) λ_ _ _ _ _ _ us hl=>match us,hl with | [_],_=>rfl
 have b_E:=F_E.binds (ps:=["self","fallen"]) λ_ _ _ _ _ _ us hl=>match us,hl with | [_,_],_=>rfl
 have b_F:=F_F.binds (ps:=["system","fallen"]) λ_ _ _ _ _ _ us hl=>match us,hl with | [_,_],_=>rfl
 have b_G:=F_G.binds (ps:=["houses","thing"]) λ_ _ _ _ _ _ us hl=>match us,hl with | [_,_],_=>rfl
 have b_H:=F_H.binds (ps:=["system","fallen","thing"]) λ_ _ _ _ _ _ us hl=>match us,hl with | [_,_,_],_=>rfl
 have b_I:=F_I.binds (ps:=["_law_script","_law_k"]) λ_ _ _ _ _ _ us hl=>match us,hl with | [_,_],_=>rfl
 have b_J:=F_J.binds (ps:=["_law_cell_here"]) λ_ _ _ _ _ _ us hl=>match us,hl with | [_],_=>rfl
 have b_K:=F_K.binds (ps:=["_law_box_here","_law_many"]) λ_ _ _ _ _ _ us hl=>match us,hl with | [_,_],_=>rfl
 have b_L:=F_L.binds (ps:=["_law_box_here","_law_some"]) λ_ _ _ _ _ _ us hl=>match us,hl with | [_,_],_=>rfl
 have b_M:=F_M.binds (ps:=["_law_box_here","_law_many"]) λ_ _ _ _ _ _ us hl=>match us,hl with | [_,_],_=>rfl
 have b_N:=F_N.binds (ps:=["_law_box_here","_law_many"]) λ_ _ _ _ _ _ us hl=>match us,hl with | [_,_],_=>rfl
 have b_O:=F_O.binds (ps:=["_law_box_here"]) λ_ _ _ _ _ _ us hl=>match us,hl with | [_],_=>rfl
 have b_P:=F_P.binds (ps:=["_law_names_here","_law_mask_here"]) λ_ _ _ _ _ _ us hl=>match us,hl with | [_,_],_=>rfl
 have b_Q:=F_Q.binds (ps:=["_law_box_here","_law_names_here","_law_masks_here"]) λ_ _ _ _ _ _ us hl=>match us,hl with | [_,_,_],_=>rfl
 have b_R:=F_R.binds (ps:=["_law_masks_here","_law_mask_here"]) λ_ _ _ _ _ _ us hl=>match us,hl with | [_,_],_=>rfl
 have b_S:=F_S.binds (ps:=["_law_box_here"]) λ_ _ _ _ _ _ us hl=>match us,hl with | [_],_=>rfl
 have b_T:=F_T.binds (ps:=["_law_names_here","_law_thing"]) λ_ _ _ _ _ _ us hl=>match us,hl with | [_,_],_=>rfl
 have b_U:=F_U.binds (ps:=["_law_names_here","_law_masks_here","_law_fallen","_law_thing"]) λ_ _ _ _ _ _ us hl=>match us,hl with | [_,_,_,_],_=>rfl
 have b_V:=F_V.binds (ps:=["_law_box_here","_law_names_here","_law_masks_here","_law_fallen","_law_told"]) λ_ _ _ _ _ _ us hl=>match us,hl with | [_,_,_,_,_],_=>rfl
 have m_isinstance:=yAr X G z_isinstance;have m_int:=yAr X G z_int;have m_bool:=yAr X G z_bool;have m_str:=yAr X G z_str;have m_len:=yAr X G z_len;have m_all:=yAr X G z_all;have m_list:=yAr X G z_list;have m_range:=yAr X G z_range;have m_repr:=yAr X G z_repr;have m_tuple:=yAr X G z_tuple;have m_set:=yAr X G z_set;have m_enumerate:=yAr X G z_enumerate;have m_sorted:=yAr X G z_sorted;have m_max:=yAr X G z_max;have m_min:=yAr X G z_min;have m_sum:=yAr X G z_sum;have m_any:=yAr X G z_any;have m_ValueError:=yAr X G z_ValueError;have mCM:=yAT X G gM;have mCh:=yAT X G gh;have mCy:=yAT X G gy;have mCt:=yAT X G gt;have ecM : ErrC K CM f_a bmV:=⟨⟨_,_,_,_,_,_,_,_,_,_,_,_,_,_,oM⟩,a_a,i_a,kcM,saM,gaM,ghM,tailV,by decide +kernel,by decide +kernel,PySem.F.store_ValueError.passes⟩;have cfM : ClsFn K CM f_a:=⟨spM,rdM,fcM,F_a.2⟩;have ech : ErrC K C_h f_b (.ref CM::bmV):=⟨⟨_,_,_,_,_,_,_,_,_,_,_,_,_,_,oh⟩,a_b,i_b,kch,sah,gah,ghh,zX8 CM,by rw [yBB]; simp,by rw [yBB]; simp,λx=>by rw [refuseLoop_ref]; exact PySem.F.store_ValueError.passes x⟩;have ecy : ErrC K C_y f_c (.ref CM::bmV):=⟨⟨_,_,_,_,_,_,_,_,_,_,_,_,_,_,oy⟩,a_c,i_c,kcy,say,gay,ghy,zX8 CM,by rw [yBB]; simp,by rw [yBB]; simp,λx=>by rw [refuseLoop_ref]; exact PySem.F.store_ValueError.passes x⟩;have ect : ErrC K C_t f_d (.ref CM::bmV):=⟨⟨_,_,_,_,_,_,_,_,_,_,_,_,_,_,ot⟩,a_d,i_d,kct,sat,gat,ght,zX8 CM,by rw [yBB]; simp,by rw [yBB]; simp,λx=>by rw [refuseLoop_ref]; exact PySem.F.store_ValueError.passes x⟩;have mC:=yAT X G aC;have clC : Cls K C:=⟨pgC,hdC,poC,saC⟩;have MC : Mk K C f_j:=⟨mkC,a_j,i_j,kcC⟩;have mS:=yAT X G aS;have clS : Cls K CS:=⟨pgS,hdS,poS,saS⟩;have MS : Mk K CS f_u:=⟨mkS,a_u,i_u,kcS⟩;have M_k : Meth K C "names" f_k:=⟨a_k,i_k,F_k.2⟩;have M_l : Meth K C "size" f_l:=⟨a_l,i_l,F_l.2⟩;have M_m : Meth K C "number" f_m:=⟨a_m,i_m,F_m.2⟩;have M_n : Meth K C "mask" f_n:=⟨a_n,i_n,F_n.2⟩;have M_o : Meth K C "set_of" f_o:=⟨a_o,i_o,F_o.2⟩;have M_v : Meth K CS "houses" f_v:=⟨a_v,i_v,F_v.2⟩;have M_w : Meth K CS "first_lot" f_w:=⟨a_w,i_w,F_w.2⟩;have M_x : Meth K CS "within" f_x:=⟨a_x,i_x,F_x.2⟩;have M_A : Meth K CS "table" f_A:=⟨a_A,i_A,F_A.2⟩;have M_E : Meth K CS "standing" f_E:=⟨a_E,i_E,F_E.2⟩;have m_e:=yAT X G a_e;have m_f:=yAT X G a_f;have m_g:=yAT X G a_g;have m_h:=yAT X G a_h;have m_i:=yAT X G a_i;have m_p:=yAT X G a_p;have m_q:=yAT X G a_q;have m_r:=yAT X G a_r;have m_s:=yAT X G a_s;have m_t:=yAT X G a_t;have m_y:=yAT X G a_y;have m_z:=yAT X G a_z;have m_B:=yAT X G a_B;have m_C:=yAT X G a_C;have m_D:=yAT X G a_D;have m_F:=yAT X G a_F;have m_G:=yAT X G a_G;have m_H:=yAT X G a_H;have m_I:=yAT X G a_I;have m_J:=yAT X G a_J;have m_K:=yAT X G a_K;have m_L:=yAT X G a_L;have m_M:=yAT X G a_M;have m_N:=yAT X G a_N;have m_O:=yAT X G a_O;have m_P:=yAT X G a_P;have m_Q:=yAT X G a_Q;have m_R:=yAT X G a_R;have m_S:=yAT X G a_S;have m_T:=yAT X G a_T;have m_U:=yAT X G a_U;have m_V:=yAT X G a_V;subst eH eM;have T : Txt mg:=⟨m_isinstance,m_int,m_bool,m_str,m_len,m_all,m_list,m_range,m_repr⟩;have kk : Kit K:=⟨zAT (by decide +kernel) (by decide +kernel) s_i_non,zAT (by decide +kernel) (by decide +kernel) s_i_bool,zAT (by decide +kernel) (by decide +kernel) s_i_str,zAT (by decide +kernel) (by decide +kernel) s_i_list,zAT (by decide +kernel) (by decide +kernel) s_i_tup,zAT (by decide +kernel) (by decide +kernel) s_i_dict,zAT (by decide +kernel) (by decide +kernel) s_b_non,zAT (by decide +kernel) (by decide +kernel) s_b_int,zAT (by decide +kernel) (by decide +kernel) s_b_str,zAT (by decide +kernel) (by decide +kernel) s_b_list,zAT (by decide +kernel) (by decide +kernel) s_b_tup,zAT (by decide +kernel) (by decide +kernel) s_b_dict,zAT (by decide +kernel) (by decide +kernel) s_s_non,zAT (by decide +kernel) (by decide +kernel) s_s_int,zAT (by decide +kernel) (by decide +kernel) s_s_bool,zAT (by decide +kernel) (by decide +kernel) s_s_list,zAT (by decide +kernel) (by decide +kernel) s_s_tup,zAT (by decide +kernel) (by decide +kernel) s_s_dict⟩;have k2 : Kit2 K:=⟨zAT (by decide +kernel) (by decide +kernel) s_l_non,zAT (by decide +kernel) (by decide +kernel) s_l_bool,zAT (by decide +kernel) (by decide +kernel) s_l_int,zAT (by decide +kernel) (by decide +kernel) s_l_str,zAT (by decide +kernel) (by decide +kernel) s_l_tup,zAT (by decide +kernel) (by decide +kernel) s_l_dict,zAT (by decide +kernel) (by decide +kernel) s_t_non,zAT (by decide +kernel) (by decide +kernel) s_t_bool,zAT (by decide +kernel) (by decide +kernel) s_t_int,zAT (by decide +kernel) (by decide +kernel) s_t_str,zAT (by decide +kernel) (by decide +kernel) s_t_list,zAT (by decide +kernel) (by decide +kernel) s_t_dict⟩;have GG : Glb K mg:=zY4 (yAT X G gL) eL (yAT X G gA) eA (yAT X G gO) lO eC eO;have mH:=yAT X G gH;have mM:=yAT X G gN;have cl:=clC;have xh : PySem.W.exmAny K (.ref C_h) [.ref C_h,.ref C_t] = some true:=by simp only [PySem.W.exmAny,xhh,xht]; rfl
 have xt : PySem.W.exmAny K (.ref C_t) [.ref C_h,.ref C_t] = some true:=by simp only [PySem.W.exmAny,xth,xtt]; rfl
 refine ⟨PySem.W.fnOf "law" "law" (zEO zRZ) (zCM zRZ) (zA7 zRZ) .none kV_W dc_W pm_W an_W cd_W ct_W,λs v => .of_eq rfl,λbase _ _ => ?_⟩;have O_a:=zRY (P:=l.prog) (w:=w) (mg:=mg) (base:=base) F_a m_ValueError;have O_b:=zKH (P:=l.prog) (w:=w) (mg:=mg) (base:=base) F_b ech nfh cfM O_a b_a mCM;have O_c:=zR3 (P:=l.prog) (w:=w) (mg:=mg) (base:=base) F_c ecy nfy cfM O_a b_a mCM;have O_d:=zPO (P:=l.prog) (w:=w) (mg:=mg) (base:=base) F_d ect nft cfM O_a b_a mCM;have rh : Er l.prog w K mg base "NoHouse" C_h:=⟨⟨_,_,_,ech,O_b,b_b⟩,mCh,nfh⟩;have ry : Er l.prog w K mg base "NoSet" C_y:=⟨⟨_,_,_,ecy,O_c,b_c⟩,mCy,nfy⟩;have rt : Er l.prog w K mg base "Twice" C_t:=⟨⟨_,_,_,ect,O_d,b_d⟩,mCt,nft⟩;have O_e:=zTD (P:=l.prog) (w:=w) (mg:=mg) (base:=base) F_e T kk;have O_f:=zQR (P:=l.prog) (w:=w) (mg:=mg) (base:=base) F_f ⟨O_e,b_e,F_e.2,m_e⟩;have O_g:=zX2 (P:=l.prog) (w:=w) (mg:=mg) (base:=base) F_g T kk;have O_h:=zXM (P:=l.prog) (w:=w) (mg:=mg) (base:=base) F_h GG ⟨O_g,b_g,F_g.2,m_g⟩;have O_i:=zY2 (P:=l.prog) (w:=w) (mg:=mg) (base:=base) F_i T m_tuple m_set mH k2 ⟨O_h,b_h,F_h.2,m_h⟩;have O_j:=zX9 (P:=l.prog) (w:=w) (mg:=mg) (base:=base) F_j m_tuple m_enumerate cl n_row n_places ⟨O_i,b_i,F_i.2,m_i⟩;have O_k:=zUG (P:=l.prog) (w:=w) (mg:=mg) (base:=base) F_k m_list cl n_row;have O_l:=zW1 (P:=l.prog) (w:=w) (mg:=mg) (base:=base) F_l m_len cl n_row;have O_m:=zPC (P:=l.prog) (w:=w) (mg:=mg) (base:=base) F_m T cl n_places;have O_n:=zX0 (P:=l.prog) (w:=w) (mg:=mg) (base:=base) F_n T m_tuple k2 cl M_m O_m b_m;have O_p:=zUC (P:=l.prog) (w:=w) (mg:=mg) (base:=base) F_p cl M_l O_l b_l;have O_q:=zZT (P:=l.prog) (w:=w) (mg:=mg) (base:=base) F_q;have O_r:=zYM (P:=l.prog) (w:=w) (mg:=mg) (base:=base) F_r O_q b_q F_q.2 m_q m_len m_tuple;have O_s:=zZ1 (P:=l.prog) (w:=w) (mg:=mg) (base:=base) F_s O_r b_r m_r m_sorted;have O_o:=zSY (P:=l.prog) (w:=w) (mg:=mg) (base:=base) F_o T cl n_row ⟨O_f,b_f,F_f.2,m_f⟩ ⟨O_q,b_q,F_q.2,m_q⟩ ⟨O_p,b_p,F_p.2,m_p⟩;have O_t:=zVC (P:=l.prog) (w:=w) (mg:=mg) (base:=base) F_t T m_tuple mM k2 cl M_n O_n b_n;have O_u:=zS0 (P:=l.prog) (w:=w) (mg:=mg) (base:=base) F_u m_tuple clS n_ground n_masks MC O_j b_j mC ⟨O_s,b_s,F_s.2,m_s⟩ ⟨O_t,b_t,F_t.2,m_t⟩;have O_v:=zNX (P:=l.prog) (w:=w) (mg:=mg) (base:=base) F_v clS n_ground cl M_k O_k b_k;have O_w:=zU4 (P:=l.prog) (w:=w) (mg:=mg) (base:=base) F_w clS n_ground n_masks cl M_o O_o b_o;have O_x:=zNQ (P:=l.prog) (w:=w) (mg:=mg) (base:=base) F_x clS n_ground cl M_n O_n b_n M_w O_w b_w;have O_y:=zNE (P:=l.prog) (w:=w) (mg:=mg) (base:=base) F_y T;have O_z:=zRL (P:=l.prog) (w:=w) (mg:=mg) (base:=base) F_z m_enumerate m_any ⟨O_q,b_q,F_q.2,m_q⟩;have O_A:=zTU (P:=l.prog) (w:=w) (mg:=mg) (base:=base) F_A clS n_ground n_masks cl M_l O_l b_l ⟨O_y,b_y,F_y.2,m_y⟩;have O_B:=zNW (P:=l.prog) (w:=w) (mg:=mg) (base:=base) F_B cl MC O_j b_j mC M_o O_o b_o ⟨O_z,b_z,F_z.2,m_z⟩ MS O_u b_u mS;have O_C:=zOQ (P:=l.prog) (w:=w) (mg:=mg) (base:=base) F_C;have O_D:=zTG (P:=l.prog) (w:=w) (mg:=mg) (base:=base) F_D clS M_v O_v b_v M_A O_A b_A ⟨O_B,b_B,F_B.2,m_B⟩ ⟨O_C,b_C,F_C.2,m_C⟩;have O_E:=zKC (P:=l.prog) (w:=w) (mg:=mg) (base:=base) F_E clS n_ground cl M_n O_n b_n M_w O_w b_w ⟨O_p,b_p,F_p.2,m_p⟩;have O_F:=zKO (P:=l.prog) (w:=w) (mg:=mg) (base:=base) F_F clS M_E O_E b_E M_x O_x b_x ⟨O_D,b_D,F_D.2,m_D⟩;have OE_number:=zNN (P:=l.prog) (w:=w) (mg:=mg) (base:=base) F_m T kk cl n_places rh;have OE_mask:=zS3 (P:=l.prog) (w:=w) (mg:=mg) (base:=base) F_n T m_tuple k2 cl M_m OE_number b_m ry rt;have O_G:=zSW (P:=l.prog) (w:=w) (mg:=mg) (base:=base) F_G T k2 cl M_n OE_mask b_n M_o O_o b_o mCh mCt xh xt;have O_H:=zP8 (P:=l.prog) (w:=w) (mg:=mg) (base:=base) F_H T m_tuple k2 clS n_ground n_masks cl M_n O_n b_n ⟨O_G,b_G,F_G.2,m_G⟩;have O_I:=zWQ (P:=l.prog) (w:=w) (mg:=mg) (base:=base) F_I m_len;have O_J:=zZN (P:=l.prog) (w:=w) (mg:=mg) (base:=base) F_J m_max;have O_K:=zWV (P:=l.prog) (w:=w) (mg:=mg) (base:=base) F_K;have O_L:=zTA (P:=l.prog) (w:=w) (mg:=mg) (base:=base) F_L T ⟨O_K,b_K,F_K.2,m_K⟩;have O_M:=zQO (P:=l.prog) (w:=w) (mg:=mg) (base:=base) F_M T ⟨O_K,b_K,F_K.2,m_K⟩ ⟨O_L,b_L,F_L.2,m_L⟩;have O_N:=zTE (P:=l.prog) (w:=w) (mg:=mg) (base:=base) F_N T ⟨O_K,b_K,F_K.2,m_K⟩;have O_O:=zU1 (P:=l.prog) (w:=w) (mg:=mg) (base:=base) F_O ⟨O_K,b_K,F_K.2,m_K⟩;have O_P:=zYO (P:=l.prog) (w:=w) (mg:=mg) (base:=base) F_P m_enumerate;have O_Q:=zOT (P:=l.prog) (w:=w) (mg:=mg) (base:=base) F_Q m_tuple ⟨O_K,b_K,F_K.2,m_K⟩ ⟨O_L,b_L,F_L.2,m_L⟩ ⟨O_P,b_P,F_P.2,m_P⟩;have O_R:=zRJ (P:=l.prog) (w:=w) (mg:=mg) (base:=base) F_R;have O_S:=zSD (P:=l.prog) (w:=w) (mg:=mg) (base:=base) F_S ⟨O_O,b_O,F_O.2,m_O⟩ ⟨O_M,b_M,F_M.2,m_M⟩ ⟨O_N,b_N,F_N.2,m_N⟩ ⟨O_Q,b_Q,F_Q.2,m_Q⟩ MS O_u b_u mS;have O_T:=zT9 (P:=l.prog) (w:=w) (mg:=mg) (base:=base) F_T T m_sorted m_sum kk k2;have O_U:=zWY (P:=l.prog) (w:=w) (mg:=mg) (base:=base) F_U T m_tuple kk k2 ⟨O_T,b_T,F_T.2,m_T⟩ ⟨O_R,b_R,F_R.2,m_R⟩;have O_V:=zRS (P:=l.prog) (w:=w) (mg:=mg) (base:=base) F_V T m_tuple ⟨O_K,b_K,F_K.2,m_K⟩ ⟨O_P,b_P,F_P.2,m_P⟩;exact zZM F_W T m_tuple m_max m_min kk ⟨O_I,b_I,F_I.2,m_I⟩ ⟨O_J,b_J,F_J.2,m_J⟩ ⟨O_K,b_K,F_K.2,m_K⟩ ⟨O_S,b_S,F_S.2,m_S⟩ ⟨O_L,b_L,F_L.2,m_L⟩ ⟨O_P,b_P,F_P.2,m_P⟩ ⟨O_F,b_F,F_F.2,m_F⟩ ⟨O_V,b_V,F_V.2,m_V⟩ ⟨O_H,b_H,F_H.2,m_H⟩ ⟨O_U,b_U,F_U.2,m_U⟩
theorem walk {l : PySem.W.OpenLaw} {q : Program} {loose : List Str} {XP : (Str -> Option Value) -> Heap -> Prop} {YP : World -> Heap -> Prop} {d : DefRec} {K : Params -> PySem.W.Frag} (hn : l.most = some 63) (hdf : d.params.defaults = [])
  (hY : ∀ (w : World) (h : Heap),YP w h -> (K w.params).In h)
  (F : ∀ (w : World) (mg : Str -> Option Value) (fa : Addr) (h : Heap), (K w.params).In h -> h.Ns mainGlobals mg -> mg d.name = some (.ref fa) ->
   ∃ fd : FuncData,(∀ (s : Shared) (u : Value),BindsTo s fd ⟨[u],[]⟩ [("_law_script",u)])/\∀ base : Heap,(K w.params).In base -> base.Ns mainGlobals mg -> FnOk l.prog w (K w.params) mg base CX0 11 fa fd ["_law_script"] (spLaw (K w.params))) :
  PySem.W.WalkO q loose XP YP l.row.toRowW d [] (λf vs=>PySem.call f vs) :=
 L2.walk_of (n:=63) (k:=11) (x:="_law_script") (CX:=λ_=>CX0) (sp:=λw=>spLaw (K w.params)) hn (by decide) hdf ⟨rfl,by decide,by decide,rfl⟩ hY F (λ_ _ a ns hl _ hS=>⟨a,ns,rfl,hS,hl,λ_=>rfl⟩) λ_ _ _ _ _ z=>z
end
end S
namespace HD
open PySem PySem.W PySem.Calls PyProof.Rows
noncomputable def zaF : Stmt:=(PySem.Challenge.pw_alwaysmeet_k28_settled_forged.main.body[60]?).getD (.Pass ⟨0,0,0,0⟩)
noncomputable def Q : Program:=HT.only PySem.Challenge.pw_alwaysmeet_k28_settled_forged [zaF]
noncomputable def L : List Str:=PySem.Challenge.pw_alwaysmeet_k28_settled_forged.boundNames.filter λx => !(x == "law")
noncomputable def Xt (s : Shared) : Bool:=recOk (RowW.records (OpenRow.toRowW (OpenLaw.row PySem.Challenge.rw_alwaysmeet_k28_settled_forged))) s
noncomputable def F0 (w : World) (os : OsState):=HT.chk PySem.Challenge.pw_alwaysmeet_k28_settled_forged Q L Xt 8000 w os
noncomputable def G0 (_ : World):=some (true,openGood Q L)
noncomputable def F (as : List Addr) (w : World) (os : OsState):=HT.obs PySem.Challenge.pw_alwaysmeet_k28_settled_forged (λs=>as.map s.heap.get?) 8000 w os
noncomputable def G (K : Params -> Frag) (w : World):=some ((K w.params).map λp=>some p.2)
theorem F0_rfl : F0 = F0:=rfl
theorem G0_rfl : G0 = G0:=rfl
theorem F_rfl : F = F:=rfl
theorem G_rfl : G = G:=rfl
end HD
name_quick hdF0 for HD.F0 by HD.F0_rfl
name_quick hdG0 for HD.G0 by HD.G0_rfl
name_quick hdF for HD.F by HD.F_rfl
name_quick hdG for HD.G by HD.G_rfl
open PySem PySem.W PyProof.Rows
theorem HD.chk (w : World) (os : OsState) : HD.F0 w os = HD.G0 w:=(congrFun (congrFun Fast.hdF0_eq w) os).trans ((show Fast.hdF0 w os = Fast.hdG0 w by kernel_rfl).trans (congrFun Fast.hdG0_eq w).symm)
open PySem PySem.W PyProof.Rows
set_option hygiene false in
local macro_rules | `(tactic| o_head ($f:term $K $as $e)) => `(tactic| (exact no.elim))
set_option maxRecDepth 100000 in
set_option maxHeartbeats 0 in
theorem HD.mk (no : False) : PySem.Challenge.rw_alwaysmeet_k28_settled_forged.Holds := by
 w_on; o_law; k_head
noncomputable def HD.as1 : List Addr:=[2,3,15,17,18,20,21,22,29,31,32,34,35,36,37,38,39,42,49,51,52,54,55,56,57,58,61,68,70,71,73,74,75,76,77,80,87,89,90,92,93,94,95,96,99,106,108,109,111,112,113,114,115,118,125,127,128,130,131,132,133,134,137,144,146,147,149,150,151,152,153,156,157,159,160,162,163,164,166,167,169,170,171,174,175,176,178,179,181,182,183,186,187,195,198,199,200,202,203,205,206,207,209,210,212,213,214,216]
noncomputable def HD.as2 : List Addr:=[217,219,220,221,223,224,226,227,228,231,232,233,234,235,236,237,240,242,243,245,246,247,249,250,252,253,254,256,257,259,260,261,263,264,266,267,268,270,271,273,274,275,277,278,280,281,282,284,285,287,288,289,291,292,294,295,296,299,300,308,310,311,313,314,315,317,318,320,321,322,325,326,327,330,331,332,334,335,337,338,339,341,342,344,345,346,348,349,351,352,353,355,356,358,359,360,362,363,365,366,367,369,370,372,373,374,376,377]
noncomputable def HD.as3 : List Addr:=[379,380,381,383,384,386,387,388,390,391,393,394,395,397,398,400,401,402,403,404,405,406,409,412,413,414,417,418,419,421,422,424,425,426,428,429,431,432,433,436,437,438,440,441,443,444,445,447,448,450,451,452,454,455,457,458,459,461,462,464,465,466,469,470,471,473,474,476,477,478,480,481,483,484,485,488,489,490,492,493,495,496,521,524,525,536,538,539,541,542,543,546,547,548,550,551,553,554,555,557,558,560,561,562,564,565,567,568]
noncomputable def HD.K1 (P : Params) : Frag:=(HD.mk.heap_39 P).take 108
noncomputable def HD.K2 (P : Params) : Frag:=((HD.mk.heap_39 P).drop 108).take 108
noncomputable def HD.K3 (P : Params) : Frag:=(((HD.mk.heap_39 P).drop 108).drop 108)
theorem HD.ob1 (w : World) (os : OsState) : HD.F HD.as1 w os = HD.G HD.K1 w:=(congrFun (congrFun (congrFun Fast.hdF_eq HD.as1) w) os).trans ((show Fast.hdF HD.as1 w os = Fast.hdG HD.K1 w by kernel_rfl).trans (congrFun (congrFun Fast.hdG_eq HD.K1) w).symm)
theorem HD.ob2 (w : World) (os : OsState) : HD.F HD.as2 w os = HD.G HD.K2 w:=(congrFun (congrFun (congrFun Fast.hdF_eq HD.as2) w) os).trans ((show Fast.hdF HD.as2 w os = Fast.hdG HD.K2 w by kernel_rfl).trans (congrFun (congrFun Fast.hdG_eq HD.K2) w).symm)
theorem HD.ob3 (w : World) (os : OsState) : HD.F HD.as3 w os = HD.G HD.K3 w:=(congrFun (congrFun (congrFun Fast.hdF_eq HD.as3) w) os).trans ((show Fast.hdF HD.as3 w os = Fast.hdG HD.K3 w by kernel_rfl).trans (congrFun (congrFun Fast.hdG_eq HD.K3) w).symm)
noncomputable def HD.as : List Addr:=HD.as1++(HD.as2++(HD.as3))
theorem HD.ob (w : World) (os : OsState) : HD.F HD.as w os = HD.G HD.mk.heap_39 w := by
 have q:=(HT.obs_app (HD.ob1 w os) (HT.obs_app (HD.ob2 w os) (HD.ob3 w os)));rw [<- yAU,<- yAU] at q;unfold HD.K1 HD.K2 HD.K3 at q;rw [yCE,yCE] at q;exact q
set_option maxRecDepth 100000 in
set_option maxHeartbeats 0 in
theorem HD.facts (w : World) (mg : Str -> Option Value) (fa : Addr) (h : Heap) (KX : (HD.mk.heap_39 w.params).In h) (G : h.Ns mainGlobals mg) (hmg : mg "law" = some (.ref fa)) : ∃ fd : FuncData, (∀ (s : Shared) (v : Value), BindsTo s fd ⟨[v], []⟩ [("_law_script", v)]) /\ ∀ base : Heap, (HD.mk.heap_39 w.params).In base -> base.Ns mainGlobals mg -> L2.FnOk PySem.Challenge.rw_alwaysmeet_k28_settled_forged.prog w (HD.mk.heap_39 w.params) mg base L2.CX0 11 fa fd ["_law_script"] (S.spLaw (HD.mk.heap_39 w.params)) := by
 refine' S.all_mk KX G hmg ?gM ?gh ?gy ?gt ?aC ?pgC ?hdC ?poC ?saC ?mkC ?kcC ?n_row ?n_places ?aS ?pgS ?hdS ?poS ?saS ?mkS ?kcS ?n_ground ?n_masks ?a_a ?i_a ?F_a ?a_b ?i_b ?F_b ?a_c ?i_c ?F_c ?a_d ?i_d ?F_d ?a_e ?F_e ?a_f ?F_f ?a_g ?F_g ?a_h ?F_h ?a_i ?F_i ?a_j ?i_j ?F_j ?a_k ?i_k ?F_k ?a_l ?i_l ?F_l ?a_m ?i_m ?F_m ?a_n ?i_n ?F_n ?a_o ?i_o ?F_o ?a_p ?F_p ?a_q ?F_q ?a_r ?F_r ?a_s ?F_s ?a_t ?F_t ?a_u ?i_u ?F_u ?a_v ?i_v ?F_v ?a_w ?i_w ?F_w ?a_x ?i_x ?F_x ?a_y ?F_y ?a_z ?F_z ?a_A ?i_A ?F_A ?a_B ?F_B ?a_C ?F_C ?a_D ?F_D ?a_E ?i_E ?F_E ?a_F ?F_F ?a_G ?F_G ?a_H ?F_H ?a_I ?F_I ?a_J ?F_J ?a_K ?F_K ?a_L ?F_L ?a_M ?F_M ?a_N ?F_N ?a_O ?F_O ?a_P ?F_P ?a_Q ?F_Q ?a_R ?F_R ?a_S ?F_S ?a_T ?F_T ?a_U ?F_U ?a_V ?F_V ?a_W ?l_W ?c_W ?k_W ?oM ?kcM ?saM ?gaM ?ghM ?oh ?kch ?sah ?gah ?ghh ?oy ?kcy ?say ?gay ?ghy ?ot ?kct ?sat ?gat ?ght ?spM ?rdM ?fcM ?nfh ?nfy ?nft ?xhh ?xht ?xth ?xtt ?gL ?gA ?gH ?gN ?gO ?lO ?eL ?eA ?eH ?eM ?eC ?eO ?z_isinstance ?z_int ?z_bool ?z_str ?z_len ?z_all ?z_list ?z_range ?z_repr ?z_tuple ?z_set ?z_enumerate ?z_sorted ?z_max ?z_min ?z_sum ?z_any ?z_ValueError ?s_i_non ?s_i_bool ?s_i_str ?s_i_list ?s_i_tup ?s_i_dict ?s_b_non ?s_b_int ?s_b_str ?s_b_list ?s_b_tup ?s_b_dict ?s_s_non ?s_s_int ?s_s_bool ?s_s_list ?s_s_tup ?s_s_dict ?s_l_non ?s_l_bool ?s_l_int ?s_l_str ?s_l_tup ?s_l_dict ?s_t_non ?s_t_bool ?s_t_int ?s_t_str ?s_t_list ?s_t_dict
 all_goals try first | k_is | exact L2.fun_mk (by k_is) (by k_is) (by k_is)
 (case xhh=>kts_exm)
 (case xht=>kts_exm)
 (case xth=>kts_exm)
 (case xtt=>kts_exm)
 all_goals first | rfl | decide +kernel
set_option maxRecDepth 100000 in
set_option maxHeartbeats 0 in
theorem PySem.Challenge.cw_alwaysmeet_k28_settled_forged_holds : PySem.Challenge.rw_alwaysmeet_k28_settled_forged.Holds := by
 w_on; o_law
 refine holds_open (q:=HD.Q) (loose:=HD.L) (Xt:=HD.Xt) (XP:=λ_ _=>True) (Yf:=Hook.obs (kHook HD.mk.heap_39 HD.as (λ_=>by kernel_rfl))) (Ya:=Hook.val (kHook HD.mk.heap_39 HD.as (λ_=>by kernel_rfl))) (YP:=Hook.says (kHook HD.mk.heap_39 HD.as (λ_=>by kernel_rfl))) (N:=8000) ?hl (Hook.of (kHook HD.mk.heap_39 HD.as (λ_=>by kernel_rfl))) (Hook.keeps (kHook HD.mk.heap_39 HD.as (λ_=>by kernel_rfl))) (λ_ _=>trivial) (λ_ _ _ _ _=>trivial) (by rfl) (by rfl) (by rfl) (λs e=>recFacts_of e) (by rfl) (by first | assumption | decide +kernel) (by decide +kernel) ⟨rfl,rfl,rfl,rfl,rfl,by decide +kernel⟩ ?hw ?hc
 (case hl=>exact HT.left_of2 (by kernel_rfl) (by decide) (λs=>by kernel_rfl) HD.chk HD.ob)
 (case hw=>w_witness2)
 k_fill
 refine S.walk (l:=PySem.Challenge.rw_alwaysmeet_k28_settled_forged) rfl rfl (λw h Y=>PySem.W.kIn_of Y) ?F
 case F =>
  intro w mg fa h KX G hmg;exact HD.facts w mg fa h KX G hmg
