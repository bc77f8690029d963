import PyProof.Rows.All
import Wide.All
import OpenK.AllK
import Wide.FinOn
import Lean
import PyProof.EqAt
import PyProof.EqKinds
import PyProof.TupleCall
import PyProof.DictCompW
import PyProof.EnumFor
import PyProof.EnumStmt
import PyProof.EnumMake
import PyProof.Rows.EnumRows
import PyProof.Rows.SetFrom
import PyProof.Rows.LoopUnroll
import PyProof.Draws
import PyProof.ExcClass3
import PyProof.ExcInit
import PyProof.InstStoreFacts
import PyProof.ExcArgs
import PyProof.ExcBaseAll.ValueError
import PyProof.NsDelKeeps
import PyProof.RulesAs
import KE.KTryMore
import PyProof.Rows.FStr
import PyProof.Rows.StrNews2
import PyProof.Rows.StrNews
import KE.IntBitsLaws
import PyProof.FitsBits
import PyProof.Rows.StrLawsPart
import PyProof.StrLawsTight
import PyProof.StrLawsChain
import PyProof.Rows.StrPartPair
import PyProof.ReprBulk
import PySem.Challenge.RW_alwaysmeet_k05_texts_of_shares
set_option Elab.async false
set_option linter.all false
set_option maxRecDepth 100000
namespace L2
open PySem PySem.Spec PyProof.Rows
abbrev Key := Sum Int Str
def keyIs : Key -> Value -> Bool
 | .inl k, v => Value.isInt k v
 | .inr x, v => Value.isStrOf x v
def keyH (w : World) : Key -> Int
 | .inl k => hashInt k
 | .inr x => hashStr w x
theorem keyIs_shape : ∀ {k : Key} {v : Value}, keyIs k v = true -> (∃ i t, k = Sum.inl i /\ v = Value.int i t) \/ (∃ x t, k = Sum.inr x /\ v = Value.str x t)
 | .inl i, v, h => by
  obtain ⟨t, e⟩ := Value.isInt_shape (k := i) (v := v) h
  exact .inl ⟨i, t, rfl, e⟩
 | .inr x, v, h => by
  obtain ⟨t, e⟩ := Value.isStrOf_shape (x := x) (v := v) h
  exact .inr ⟨x, t, rfl, e⟩
theorem key_ll (a b : Int) : decide ((Sum.inl a : Key) = Sum.inl b) = (a == b) := by
 by_cases e : a = b
 ·subst e; simp
 ·have h : ¬ (Sum.inl a : Key) = Sum.inl b := fun q => e (Sum.inl.inj q)
  rw [decide_eq_false h]
  exact (beq_eq_false_iff_ne.mpr e).symm
theorem key_rr (a b : Str) : decide ((Sum.inr a : Key) = Sum.inr b) = decide (a = b) := by
 by_cases e : a = b
 ·subst e; simp
 ·have h : ¬ (Sum.inr a : Key) = Sum.inr b := fun q => e (Sum.inr.inj q)
  rw [decide_eq_false h, decide_eq_false e]
theorem key_lr (a : Int) (b : Str) : decide ((Sum.inl a : Key) = Sum.inr b) = false := decide_eq_false (fun q => nomatch q)
theorem key_rl (a : Str) (b : Int) : decide ((Sum.inr a : Key) = Sum.inl b) = false := decide_eq_false (fun q => nomatch q)
def mixKind (prog : Program) (w : World) : PySem.KeyKind prog w Key where
 is := keyIs
 hash := keyH w
 inj := fun v a b ha hb => by
  rcases keyIs_shape ha with ⟨i, t, rfl, rfl⟩ | ⟨x, t, rfl, rfl⟩
  ·rcases keyIs_shape hb with ⟨j, u, rfl, e⟩ | ⟨y, u, rfl, e⟩
   ·injection e with e1 _; rw [e1]
   ·exact nomatch e
  ·rcases keyIs_shape hb with ⟨j, u, rfl, e⟩ | ⟨y, u, rfl, e⟩
   ·exact nomatch e
   ·injection e with e1 _; rw [e1]
 byValue := fun k v h => by
  rcases keyIs_shape h with ⟨i, t, rfl, rfl⟩ | ⟨x, t, rfl, rfl⟩ <;> rfl
 pyHash := fun hv h => by
  rcases keyIs_shape hv with ⟨i, t, rfl, rfl⟩ | ⟨x, t, rfl, rfl⟩
  ·exact wpAny_pyHash_int h
  ·exact wpAny_pyHash_str h
 eqBool := fun hu hv h => by
  rcases keyIs_shape hu with ⟨i, t, rfl, rfl⟩ | ⟨x, t, rfl, rfl⟩
  ·rcases keyIs_shape hv with ⟨j, u, rfl, rfl⟩ | ⟨y, u, rfl, rfl⟩
   ·rw [key_ll] at h; exact wpAny_eqBool_int h
   ·rw [key_lr] at h; exact SeqAt.EqAt.int_str i t y u _ _ _ _ h
  ·rcases keyIs_shape hv with ⟨j, u, rfl, rfl⟩ | ⟨y, u, rfl, rfl⟩
   ·rw [key_rl] at h; exact SeqAt.EqAt.str_int x t j u _ _ _ _ h
   ·rw [key_rr] at h; exact wpAny_eqBool_str h
 «strs» := fun k x t v h => by
  rcases keyIs_shape h with ⟨i, u, rfl, e⟩ | ⟨y, u, rfl, e⟩
  ·exact nomatch e
  ·injection e with e1 _
   subst e1
   cases v <;> rfl
theorem mixKind_is (prog : Program) (w : World) (k : Key) (v : Value) : (mixKind prog w).is k v = keyIs k v := rfl
end L2
namespace L2
open PySem PySem.Spec PyProof.Rows
inductive V where
 | non | bl (b : Bool) | int (i : Int) | str (x : Str) | byt (b : Array UInt8) | flt (b : UInt64) | ref (a : Addr) | ty (n : String)
 deriving DecidableEq
def RelV : V -> Value -> Prop
 | .non, u => u = Value.none
 | .bl b, u => u = Value.bool b
 | .int i, u => ∃ t, u = Value.int i t
 | .str x, u => ∃ t, u = Value.str x t
 | .byt b, u => ∃ t, u = Value.bytes b t
 | .flt b, u => ∃ t, u = Value.float b t
 | .ref a, u => u = Value.ref a
 | .ty n, u => u = Value.type n
abbrev Vals : List V -> List Value -> Prop := Paired RelV
theorem Vals.length {xs : List V} {us : List Value} (r : Vals xs us) : xs.length = us.length := Paired.length r
theorem Vals.get : ∀ {xs : List V} {us : List Value} {i : Nat} {x : V}, Vals xs us -> xs[i]? = some x -> ∃ u, us[i]? = some u /\ RelV x u
 | _, _, _, _, .nil, e => by simp at e
 | _, _, 0, _, .cons r _, e => by simp at e; subst e; exact ⟨_, rfl, r⟩
 | _, _, i + 1, x, .cons _ t, e => by
  obtain ⟨u, h1, h2⟩ := Vals.get (i := i) (x := x) t (by simpa using e)
  exact ⟨u, by simpa using h1, h2⟩
theorem Vals.set {x : V} {u : Value} (r : RelV x u) : ∀ {xs : List V} {us : List Value} (i : Nat), Vals xs us -> Vals (xs.set i x) (us.set i u)
 | _, _, _, .nil => .nil
 | _, _, 0, .cons _ t => .cons r t
 | _, _, i + 1, .cons q t => .cons q (Vals.set r i t)
theorem Vals.append : ∀ {xs ys : List V} {us ws : List Value}, Vals xs us -> Vals ys ws -> Vals (xs ++ ys) (us ++ ws)
 | _, _, _, _, .nil, s => s
 | _, _, _, _, .cons r t, s => .cons r (Vals.append t s)
def RelO : Option V -> Option Value -> Prop
 | some v, some u => RelV v u
 | none, none => True
 | _, _ => False
def KV {κ : Type} : List (κ × V) -> List (κ × Value) -> Prop := Paired fun (p : κ × V) (q : κ × Value) => p.1 = q.1 /\ RelV p.2 q.2
def kV : Key -> V
 | .inl i => .int i
 | .inr x => .str x
inductive HO where
 | lst (xs : List V)
 | tup (xs : List V)
 | dK (kvs : List (Key × V)) | dT (kvs : List (List Key × V))
 | set (S : Int -> Bool) (n : Nat)
 | ins (C dx : Addr) (fs : List (Str × V))
 | own (x : Addr)
 | xd (fs : List (Str × V))
 | met (f x : Addr)
 | rng (lo hi : Int)
 | frz (o : Obj) (u : HO)
 | tbl (ps : Array Value)
 | ext (φ : Heap -> Prop)
abbrev Hp := Addr -> Option HO
def upd (H : Hp) (a : Addr) (o : HO) : Hp := fun b => if b = a then some o else H b
theorem upd_same {H : Hp} {a : Addr} {o : HO} : upd H a o a = some o := by unfold upd; rw [if_pos rfl]
theorem upd_ne {H : Hp} {a b : Addr} {o : HO} (h : b ≠ a) : upd H a o b = H b := by unfold upd; rw [if_neg h]
theorem ne_of_none {H : Hp} {a b : Addr} {o : HO} (h : H a = some o) (h' : H b = none) : a ≠ b := by
 intro e; subst e; rw [h] at h'; cases h'
section
variable (P : Program) (w : World)
def ObjOk (H : Hp) (h : Heap) (a : Addr) : HO -> Prop
 | .lst xs => xs.length <= sizeLine /\ ∃ (its : List Value) (n : Nat), Vals xs its /\ h.get? a = some { cls := .type "list", data := .seq its.toArray n }
 | .tup xs => xs.length <= sizeLine /\ ∃ its : List Value, Vals xs its /\ IsTup h a its.toArray
 | .dK kvs => kvs.length <= sizeLine /\ (a == sysModules) = false /\ ∃ vs, KV kvs vs /\ h.DictOf (mixKind P w) a vs
 | .dT kvs => kvs.length <= sizeLine /\ (a == sysModules) = false /\ ∃ xs : List (List Key × Addr × Value),
   Paired (fun (p : List Key × V) (q : List Key × Addr × Value) => p.1 = q.1 /\ H q.2.1 = some (.tup (p.1.map kV)) /\ RelV p.2 q.2.2) kvs xs /\
   ∃ o es ep, h.get? a = some o /\ o.ExactDict /\ o.data = .dict es ep /\ es.toList = xs.map (entryOfKey (tupleKind (mixKind P w))) /\ (xs.map (·.1)).Nodup
 | .set S n => h.SetOf (intKind P w) a S n
 | .ins C dx fs => H dx = some (.own a) /\ fs.length <= 1000 /\ dx ≠ a /\ h.get? a = some (PySem.W.instObj C dx) /\
   ∃ mA, h.Ns1 dx mA /\ (∀ f, RelO (fs.lookup f) (mA f)) /\ PySem.Within mA (fs.map (·.1))
 | .own _ => ∃ o, h.get? a = some o
 | .xd fs => ∃ mA, h.Ns1 a mA /\ ∀ f, RelO (fs.lookup f) (mA f)
 | .rng lo hi => ∃ t u v, h.get? a = some { cls := .type "range", data := .fields #[.int lo t, .int hi u, .int 1 v] }
 | .frz o u => h.get? a = some o /\ ObjOk H h a u
 | .tbl ps => h.get? a = some { cls := .none, data := .fields ps }
 | .met f x => h.get? a = some (PySem.W.methodObj (.ref f) (.ref x))
 | .ext φ => φ h /\ (∃ o, h.get? a = some o) /\ ∀ h1 h2 : Heap, φ h1 -> (∀ o, h1.get? a = some o -> h2.get? a = some o) -> φ h2
def HOk (H : Hp) (h : Heap) : Prop := ∀ a o, H a = some o -> ObjOk P w H h a o
end
section
variable {P : Program} {w : World} {H H' : Hp} {h h' : Heap} {a : Addr} {o : HO}
theorem ObjOk.lt (x : ObjOk P w H h a o) : a < h.objs.size := by
 cases o with
 | lst xs => obtain ⟨_, _, _, _, e⟩ := x; exact Heap.lt_size e
 | tup xs => obtain ⟨_, _, _, p⟩ := x; exact p.lt
 | dK kvs => obtain ⟨_, _, _, _, o, _, _, e, _⟩ := x; exact Heap.lt_size e
 | dT kvs => obtain ⟨_, _, _, _, o, _, _, e, _⟩ := x; exact Heap.lt_size e
 | set S n => obtain ⟨o, _, _, _, e, _⟩ := x; exact Heap.lt_size e
 | ins C dx fs => obtain ⟨_, _, _, e, _⟩ := x; exact Heap.lt_size e
 | own y => obtain ⟨_, e⟩ := x; exact Heap.lt_size e
 | xd fs => obtain ⟨_, ⟨_, _, _, e, _⟩, _⟩ := x; exact Heap.lt_size e
 | rng lo hi => obtain ⟨_, _, _, e⟩ := x; exact Heap.lt_size e
 | frz ob u => obtain ⟨e, _⟩ := x; exact Heap.lt_size e
 | tbl ps => exact Heap.lt_size (show h.get? a = some _ from x)
 | met f y => exact Heap.lt_size (show h.get? a = some _ from x)
 | ext φ => obtain ⟨_, ⟨_, e⟩, _⟩ := x; exact Heap.lt_size e
theorem Paired.mapP {α β : Type} {F G : α -> β -> Prop} : ∀ {l₁ : List α} {l₂ : List β}, Paired F l₁ l₂ -> (∀ a b, F a b -> G a b) -> Paired G l₁ l₂
 | _, _, .nil, _ => .nil
 | _, _, .cons r t, f => .cons (f _ _ r) (Paired.mapP t f)
theorem ObjOk.stay (x : ObjOk P w H h a o) (k : ∀ b u, (b = a \/ H b = some (.own a)) -> h.get? b = some u -> h'.get? b = some u)
  (ho : ∀ b, H b = some (.own a) -> H' b = some (.own a)) (ht : ∀ b xs, H b = some (.tup xs) -> H' b = some (.tup xs)) : ObjOk P w H' h' a o := by
 induction o with
 | lst xs => obtain ⟨z, its, n, r, e⟩ := x; exact ⟨z, its, n, r, k _ _ (.inl rfl) e⟩
 | tup xs => obtain ⟨z, its, r, ob, e, c⟩ := x; exact ⟨z, its, r, ob, k _ _ (.inl rfl) e, c⟩
 | dK kvs => obtain ⟨z, y, vs, r, ob, es, ep, e, c⟩ := x; exact ⟨z, y, vs, r, ob, es, ep, k _ _ (.inl rfl) e, c⟩
 | dT kvs =>
  obtain ⟨z, y, xs, r, ob, es, ep, e, c⟩ := x
  exact ⟨z, y, xs, Paired.mapP r fun p q z => ⟨z.1, ht _ _ z.2.1, z.2.2⟩, ob, es, ep, k _ _ (.inl rfl) e, c⟩
 | set S n => obtain ⟨ob, es, ep, t, e, c⟩ := x; exact ⟨ob, es, ep, t, k _ _ (.inl rfl) e, c⟩
 | ins C dx fs =>
  obtain ⟨d, z, ne, e, mA, ⟨od, es, ep, e2, c⟩, r⟩ := x
  exact ⟨ho _ d, z, ne, k _ _ (.inl rfl) e, mA, ⟨od, es, ep, k _ _ (.inr d) e2, c⟩, r⟩
 | own y => obtain ⟨ob, e⟩ := x; exact ⟨ob, k _ _ (.inl rfl) e⟩
 | xd fs => obtain ⟨mA, ⟨od, es, ep, e, c⟩, r⟩ := x; exact ⟨mA, ⟨od, es, ep, k _ _ (.inl rfl) e, c⟩, r⟩
 | rng lo hi => obtain ⟨t, u, v, e⟩ := x; exact ⟨t, u, v, k _ _ (.inl rfl) e⟩
 | frz ob u ih => obtain ⟨e, q⟩ := x; exact ⟨k _ _ (.inl rfl) e, ih q⟩
 | tbl ps =>
  have e : h.get? a = some { cls := .none, data := .fields ps } := x
  show h'.get? a = some { cls := .none, data := .fields ps }
  exact k a _ (.inl rfl) e
 | met f y =>
  have e : h.get? a = some (PySem.W.methodObj (.ref f) (.ref y)) := x
  show h'.get? a = some (PySem.W.methodObj (.ref f) (.ref y))
  exact k a _ (.inl rfl) e
 | ext φ => obtain ⟨p, ⟨o, e⟩, st⟩ := x; exact ⟨st _ _ p fun o q => k _ _ (.inl rfl) q, ⟨o, k _ _ (.inl rfl) e⟩, st⟩
theorem HOk.lt (x : HOk P w H h) (e : H a = some o) : a < h.objs.size := (x a o e).lt
theorem HOk.fresh (x : HOk P w H h) (e : h.objs.size <= a) : H a = none := by
 cases q : H a with
 | none => rfl
 | some u => exact absurd (Nat.lt_of_lt_of_le (x.lt q) e) (Nat.lt_irrefl _)
theorem HOk.kept (x : HOk P w H h) (k : ∀ b u, h.get? b = some u -> h'.get? b = some u) : HOk P w H h' := fun a o e =>
 (x a o e).stay (fun b u _ q => k b u q) (fun _ q => q) fun _ _ q => q
theorem HOk.laid (x : HOk P w H h) (k : ∀ b u, h.get? b = some u -> h'.get? b = some u) (hp : h.objs.size <= a) (new : ObjOk P w (upd H a o) h' a o) : HOk P w (upd H a o) h' := fun b u e => by
 have hn := x.fresh hp
 by_cases hb : b = a
 ·subst hb; rw [upd_same] at e; cases e; exact new
 ·rw [upd_ne hb] at e
  exact (x b u e).stay (fun c v _ q => k c v q) (fun c q => by rw [upd_ne (ne_of_none q hn)]; exact q) fun c xs q => by rw [upd_ne (ne_of_none q hn)]; exact q
end
def Rd (H : Hp) (a : Addr) (u : HO) : Prop := H a = some u \/ ∃ o, H a = some (.frz o u)
theorem Rd.ok {P : Program} {w : World} {H : Hp} {h : Heap} {a : Addr} {u : HO} (r : Rd H a u) (x : HOk P w H h) : ObjOk P w H h a u := by
 rcases r with r | ⟨o, r⟩
 ·exact x a u r
 ·obtain ⟨_, q⟩ := x a _ r
  exact q
def Mut : Option HO -> Prop
 | some (.lst _) => True
 | some (.dK _) => True
 | some (.dT _) => True
 | some (.set _ _) => True
 | some (.ins _ _ _) => True
 | some (.ext _) => True
 | _ => False
section
variable {P : Program} {w : World} {H : Hp} {h h' : Heap} {x e : Addr} {o' : HO}
theorem HOk.write (ok : HOk P w H h) (mu : Mut (H x)) (he : e = x \/ H e = some (.own x)) (k : ∀ b u, b ≠ e -> h.get? b = some u -> h'.get? b = some u) (heo : ∃ u, h'.get? e = some u)
  (new : ObjOk P w (upd H x o') h' x o') : HOk P w (upd H x o') h' := fun b u q => by
 have nown : ∀ c y, H c = some (.own y) -> c ≠ x := fun c y r z => by subst z; rw [r] at mu; exact mu
 have ntup : ∀ c xs, H c = some (.tup xs) -> c ≠ x := fun c xs r z => by subst z; rw [r] at mu; exact mu
 by_cases hb : b = x
 ·subst hb; rw [upd_same] at q; cases q; exact new
 ·rw [upd_ne hb] at q
  by_cases hbe : b = e
  ·have q' : H b = some (.own x) := by
    rcases he with z | z
    ·exact absurd (hbe.trans z) hb
    ·rw [hbe]; exact z
   rw [q] at q'; cases q'
   obtain ⟨v, hv⟩ := heo
   exact ⟨v, by rw [hbe]; exact hv⟩
  ·refine (ok b u q).stay (fun c v hc r => k c v ?_ r) (fun c r => by rw [upd_ne (nown c b r)]; exact r) fun c xs r => by rw [upd_ne (ntup c xs r)]; exact r
   rcases hc with rfl | hc
   ·exact hbe
   ·rintro rfl
    rcases he with z | z
    ·exact nown c b hc z
    ·rw [hc] at z; cases z; exact hb rfl
end
structure Un (fs ex : List Addr) (H H' : Hp) (h h' : Heap) : Prop where
 keep : ∀ b o, h.get? b = some o -> H b = none -> b ∉ fs -> b ∉ ex -> h'.get? b = some o
 slot : ∀ b o, h.get? b = some o -> H b = none -> b ∈ fs -> b ∉ ex -> ∃ sl, h'.get? b = some { o with slots := sl }
 free : ∀ b o, h.get? b = some o -> H b = none -> b ∉ ex -> H' b = none
 there : ∀ b o, h.get? b = some o -> b ∉ ex -> ∃ o', h'.get? b = some o'
 tups : ∀ b xs, H b = some (.tup xs) -> H' b = some (.tup xs)
 frzs : ∀ b o u, H b = some (.frz o u) -> H' b = some (.frz o u)
 tbls : ∀ b ps, H b = some (.tbl ps) -> ∃ more, H' b = some (.tbl (ps ++ more))
section
variable {fs fs' ex ex' : List Addr} {H H1 H2 : Hp} {h h1 h2 h' : Heap} {a x e : Addr} {o : HO}
theorem Un.any (u : Un fs ex H H1 h h1) {b : Addr} {ob : Obj} (q : h.get? b = some ob) (n : H b = none) (hx : b ∉ ex) : ∃ sl, h1.get? b = some { ob with slots := sl } := by
 by_cases hb : b ∈ fs
 ·exact u.slot b ob q n hb hx
 ·exact ⟨ob.slots, u.keep b ob q n hb hx⟩
theorem Un.kept (k : ∀ b u, h.get? b = some u -> h'.get? b = some u) : Un fs ex H H h h' :=
 ⟨fun b ob q _ _ _ => k b ob q, fun b ob q _ _ _ => ⟨ob.slots, k b ob q⟩, fun _ _ _ n _ => n, fun b ob q _ => ⟨ob, k b ob q⟩, fun _ _ q => q, fun _ _ _ q => q, fun _ ps q => ⟨#[], by rw [q]; simp⟩⟩
theorem Un.refl : Un fs ex H H h h := Un.kept fun _ _ q => q
theorem Un.laid (k : ∀ b u, h.get? b = some u -> h'.get? b = some u) (hp : h.objs.size <= a) (hn : H a = none) : Un fs ex H (upd H a o) h h' where
 keep := fun b u q _ _ _ => k b u q
 slot := fun b u q _ _ _ => ⟨u.slots, k b u q⟩
 free := fun b u q n _ => by rw [upd_ne (Nat.ne_of_lt (Nat.lt_of_lt_of_le (Heap.lt_size q) hp))]; exact n
 there := fun b u q _ => ⟨u, k b u q⟩
 tups := fun b xs q => by rw [upd_ne (ne_of_none q hn)]; exact q
 frzs := fun b u xs q => by rw [upd_ne (ne_of_none q hn)]; exact q
 tbls := fun b ps q => ⟨#[], by rw [upd_ne (ne_of_none q hn), q]; simp⟩
theorem Un.write (mu : Mut (H x)) (he : e = x \/ H e = some (.own x)) (k : ∀ b u, b ≠ e -> h.get? b = some u -> h'.get? b = some u) (heo : ∃ u, h'.get? e = some u) : Un fs ex H (upd H x o) h h' := by
 have hx : ∀ b, H b = none -> b ≠ x := fun b n z => by subst z; rw [n] at mu; exact mu
 have hb : ∀ b, H b = none -> b ≠ e := fun b n z => by
  subst z
  rcases he with r | r
  ·exact hx b n r
  ·rw [n] at r; cases r
 have hm : ∀ b u, H b = some u -> ¬ Mut (some u) -> b ≠ x := fun b u q nm z => by subst z; rw [q] at mu; exact nm mu
 refine ⟨fun b u q n _ _ => k b u (hb b n) q, fun b u q n _ _ => ⟨u.slots, k b u (hb b n) q⟩, fun b u q n _ => by rw [upd_ne (hx b n)]; exact n, fun b u q _ => ?_,
  fun b xs q => by rw [upd_ne (hm b _ q fun z => z)]; exact q, fun b u xs q => by rw [upd_ne (hm b _ q fun z => z)]; exact q, fun b ps q => ⟨#[], by rw [upd_ne (hm b _ q fun z => z), q]; simp⟩⟩
 by_cases hbe : b = e
 ·subst hbe; exact heo
 ·exact ⟨u, k b u hbe q⟩
end
def trk (h : Heap) (H : Hp) : List Addr := (List.range h.objs.size).filter fun a => (H a).isSome
def hidT (h : Heap) (H : Hp) : Heap := PySem.W.hideAll h (trk h H)
theorem hidT_size (h : Heap) (H : Hp) : (hidT h H).objs.size = h.objs.size := PySem.W.hideAll_size _ _
theorem hidT_get {h : Heap} {H : Hp} {b : Addr} {o : Obj} (e : h.get? b = some o) (n : H b = none) : (hidT h H).get? b = some o :=
 PySem.W.hideAll_get _ e fun hm => by
  have q : (H b).isSome = true := (List.mem_filter.mp hm).2
  rw [n] at q; simp at q
theorem of_hidT {h : Heap} {H : Hp} {b : Addr} {o : Obj} (e : (hidT h H).get? b = some o) : h.get? b = some o /\ H b = none := by
 have e' : h.get? b = some o := PySem.W.of_hideAll (trk h H) e
 refine ⟨e', ?_⟩
 cases q : H b with
 | none => rfl
 | some x =>
  have hm : b ∈ trk h H := List.mem_filter.mpr ⟨List.mem_range.mpr (Heap.lt_size e'), by simp [q]⟩
  have z : (hidT h H).get? b = none := PySem.W.hideAll_none (trk h H) hm
  rw [z] at e; cases e
def allNews (g h : Heap) (L : Addr) : List (Addr × Obj) := (List.range h.objs.size).filterMap fun a => if a = L \/ (g.get? a).isSome = true then none else (h.get? a).map fun o => (a, o)
def rest (g h : Heap) (L d : Addr) : List (Addr × Obj) := (allNews g h L).filter fun p => decide (p.1 ≠ d)
end L2
namespace L2
open PySem PySem.Spec PyProof.Rows
structure Mod (K : PySem.W.Frag) (mg : Str -> Option Value) (base : Heap) : Prop where
 kin : K.In base
 glob : base.Ns mainGlobals mg
 blt : ∃ mb, base.Ns builtinsNs mb /\ ∀ x : Str, x ≠ "__name__" -> mb x = bootBuiltins x
 nolimit : base.NoLimit
structure Cx where
 prog : Program
 w : World
 K : PySem.W.Frag
 mg : Str -> Option Value
 base : Heap
 A : Around
 N : List Str
 s₀ : Shared
 H₀ : Hp
 env : Env
 outer : List Env
 stack : List Env
 ex : List Addr
 fn : Str -> Bool
 calm : Bool
 pn : List (Addr × Obj)
 xe : Value -> Shared -> Prop
def frs (l : List Env) : List Addr := l.filterMap (·.frame)
abbrev Cx.fs (X : Cx) : List Addr := frs X.outer
def Vis (sc : Scope) (x : Str) : Prop := sc.names.lookup x = some .local \/ sc.names.lookup x = some .cell \/ sc.names.lookup x = some .free
def Loc (sc : Scope) (x : Str) : Prop := sc.names.lookup x = some .local \/ sc.names.lookup x = some .cell
def Look (env : Env) (h : Heap) (m : Str -> Option Value) (x : Str) (u : Value) : Prop :=
 (env.kindOf x = some .local /\ m x = some u) \/ ((env.kindOf x = some .cell \/ env.kindOf x = some .free) /\ ∃ c, env.cells.lookup x = some c /\ h.IsCell c (some u))
structure Cx.Ok (X : Cx) : Prop where
 mod : Mod X.K X.mg X.base
 kind : X.env.scope.kind = .function
 glob : X.env.globals = mainGlobals
 blt : X.env.builtins = builtinsNs
 above : X.s₀.heap.objs.size <= X.env.locals
 inj : ∀ x y c, X.env.cells.lookup x = some c -> X.env.cells.lookup y = some c -> x = y
 has : ∀ x, (X.env.kindOf x = some .cell \/ X.env.kindOf x = some .free) -> ∃ c, X.env.cells.lookup x = some c
 cab : ∀ x c, X.fn x = true -> X.env.cells.lookup x = some c -> X.s₀.heap.objs.size <= c
 hd : X.calm = true -> X.A.handled = none
 frames : X.A.frames = some X.stack
 stk : X.stack = X.outer \/ (X.stack = X.env :: X.outer /\ X.env.frame = some X.env.locals)
 exf : ∀ b ∈ X.ex, b ≠ X.env.locals /\ ∀ x c, X.env.cells.lookup x = some c -> c ≠ b
 bs : ∀ b o, X.base.get? b = some o -> X.s₀.heap.get? b = some o /\ X.H₀ b = none
 bsz : X.base.objs.size <= X.s₀.heap.objs.size
 noex : ∀ b o, X.base.get? b = some o -> b ∉ X.ex
 exfs : ∀ b ∈ X.ex, b ∉ X.fs
 funs : X.s₀.heap.FunFrames X.base X.outer
 frf : ∀ b ∈ X.fs, X.H₀ b = none
structure Inv (X : Cx) (pins : List (Addr × Obj)) (σ : List (Option V)) (H : Hp) (s : Shared) : Prop where
 ok : X.Ok
 os : s.os = X.s₀.os
 bare : AllBare s.gens
 base : Un X.fs X.ex X.H₀ H X.s₀.heap s.heap
 loc : ∃ m, s.heap.Ns X.env.locals m /\ ∀ (i : Nat) (x : Str) (v : V), X.N[i]? = some x -> σ[i]? = some (some v) -> Vis X.env.scope x -> ∃ u, RelV v u /\ Look X.env s.heap m x u
 cell : ∀ x c, X.env.cells.lookup x = some c -> ∃ v, s.heap.IsCell c v
 free : H X.env.locals = none
 freeC : ∀ x c, X.env.cells.lookup x = some c -> H c = none
 pin : ∀ p ∈ X.pn ++ pins, s.heap.get? p.1 = some p.2 /\ H p.1 = none /\ p.1 ≠ X.env.locals /\ p.1 ∉ X.fs /\ ∀ v, p.2.data ≠ .cell v
 hok : HOk X.prog X.w H s.heap
 len : σ.length = X.N.length
section
variable {X : Cx} {pins : List (Addr × Obj)} {σ : List (Option V)} {H H' : Hp} {s : Shared} {h' : Heap}
theorem Cx.Ok.nofr (ok : X.Ok) {b : Addr} {o : Obj} (e : X.base.get? b = some o) : b ∉ X.fs := fun hb => by
 have := (ok.funs.mem hb).1
 rw [e] at this; cases this
theorem Inv.bs (I : Inv X pins σ H s) : ∀ b o, X.base.get? b = some o -> s.heap.get? b = some o /\ H b = none := fun b o e =>
 ⟨I.base.keep b o (I.ok.bs b o e).1 (I.ok.bs b o e).2 (I.ok.nofr e) (I.ok.noex b o e), I.base.free b o (I.ok.bs b o e).1 (I.ok.bs b o e).2 (I.ok.noex b o e)⟩
theorem Inv.bk (I : Inv X pins σ H s) : ∀ b o, X.base.get? b = some o -> s.heap.get? b = some o := fun b o e => (I.bs b o e).1
theorem Inv.mod (I : Inv X pins σ H s) : Mod X.K X.mg X.base := I.ok.mod
theorem Inv.kIn (I : Inv X pins σ H s) : X.K.In s.heap := I.ok.mod.kin.keeps I.bk
theorem Inv.fr (I : Inv X pins σ H s) : ∃ m, Fr X.base X.env.locals s.heap m :=
 let ⟨m, hn, _⟩ := I.loc
 ⟨m, hn, I.bk, Nat.le_trans I.ok.bsz I.ok.above⟩
theorem Inv.lt (I : Inv X pins σ H s) : X.env.locals < s.heap.objs.size := let ⟨_, hn, _⟩ := I.loc; hn.lt
theorem Inv.sz (I : Inv X pins σ H s) : X.s₀.heap.objs.size <= s.heap.objs.size := Nat.le_trans I.ok.above (Nat.le_of_lt I.lt)
theorem Inv.nofs (I : Inv X pins σ H s) {a : Addr} (h : s.heap.objs.size <= a) : a ∉ X.fs := fun hb => by
 obtain ⟨_, o, ho, _⟩ := I.ok.funs.mem hb
 exact absurd (Nat.lt_of_lt_of_le (Heap.lt_size ho) (Nat.le_trans I.sz h)) (Nat.lt_irrefl _)
theorem Inv.cne (I : Inv X pins σ H s) : ∀ x c, X.env.cells.lookup x = some c -> c ≠ X.env.locals := fun x c e z => by
 obtain ⟨v, o, ho, hd⟩ := I.cell x c e
 obtain ⟨m, ⟨o', es, ep, ho', hd', _⟩, _⟩ := I.loc
 rw [z, ho'] at ho; cases ho; rw [hd'] at hd; cases hd
theorem Inv.funs (I : Inv X pins σ H s) : s.heap.FunFrames X.base X.outer := by
 have all : ∀ (l : List Env), (∀ b ∈ frs l, b ∈ X.fs) -> X.s₀.heap.FunFrames X.base l -> s.heap.FunFrames X.base l := by
  intro l
  induction l with
  | nil => intro _ _; trivial
  | cons env r ih =>
   intro hs hl
   obtain ⟨hk, ⟨L, o, hf, hn, ho, hd⟩, hr⟩ := hl
   have hL : L ∈ X.fs := hs L (by unfold frs; rw [List.filterMap_cons, hf]; exact List.mem_cons_self)
   obtain ⟨sl, e⟩ := I.base.slot L o ho (I.ok.frf L hL) hL fun z => I.ok.exfs L z hL
   exact ⟨hk, ⟨L, _, hf, hn, e, hd⟩, ih (fun b hb => hs b (by unfold frs; rw [List.filterMap_cons, hf]; exact List.mem_cons_of_mem _ hb)) hr⟩
 exact all X.outer (fun _ hb => hb) I.ok.funs
theorem Inv.stack (I : Inv X pins σ H s) : s.heap.FunFrames X.base X.stack := by
 rcases I.ok.stk with e | ⟨e, hf⟩
 ·rw [e]; exact I.funs
 ·rw [e]
  obtain ⟨m, hn, _⟩ := I.loc
  refine .cons (by rw [I.ok.kind]; decide) hf hn ?_ I.funs
  exact Heap.get?_none_of_le (Nat.le_trans I.ok.bsz I.ok.above)
theorem Inv.stkSub (I : Inv X pins σ H s) : ∀ b ∈ frs X.stack, b ∈ X.env.locals :: X.fs := fun b hb => by
 rcases I.ok.stk with e | ⟨e, hf⟩
 ·rw [e] at hb; exact List.mem_cons_of_mem _ hb
 ·rw [e] at hb
  unfold frs at hb
  rw [List.filterMap_cons, hf] at hb
  exact hb
theorem Inv.stkFree (I : Inv X pins σ H s) : ∀ b ∈ frs X.stack, H b = none := fun b hb => by
 rcases List.mem_cons.mp (I.stkSub b hb) with e | hb
 ·rw [e]; exact I.free
 ·obtain ⟨_, o, ho, _⟩ := I.ok.funs.mem hb
  exact I.base.free b o ho (I.ok.frf b hb) fun z => I.ok.exfs b z hb
theorem Inv.step {g' : Array GenState} {t' : Nat} {d' : Drawn} {ch : List Addr} (I : Inv X pins σ H s)
  (hch : ∀ b ∈ ch, (b ∈ X.ex \/ X.s₀.heap.objs.size <= b) /\ b ≠ X.env.locals /\ (∀ x c, X.env.cells.lookup x = some c -> c ≠ b) /\ ∀ p ∈ X.pn ++ pins, p.1 ≠ b)
  (keep : ∀ b o, b ≠ X.env.locals -> b ∉ X.fs -> b ∉ ch -> s.heap.get? b = some o -> H b = none -> h'.get? b = some o)
  (slot : ∀ b o, b ≠ X.env.locals -> b ∈ X.fs -> b ∉ ch -> s.heap.get? b = some o -> H b = none -> ∃ sl, h'.get? b = some { o with slots := sl }) (free : ∀ b o, b ∉ ch -> s.heap.get? b = some o -> H b = none -> H' b = none)
  (there : ∀ b o, b ∉ ch -> s.heap.get? b = some o -> ∃ o', h'.get? b = some o')
  (tups : ∀ b xs, H b = some (.tup xs) -> H' b = some (.tup xs)) (frzs : ∀ b o u, H b = some (.frz o u) -> H' b = some (.frz o u)) (tbls : ∀ b ps, H b = some (.tbl ps) -> ∃ more, H' b = some (.tbl (ps ++ more)))
  (ns : ∀ m, s.heap.Ns X.env.locals m -> h'.Ns X.env.locals m) (hok : HOk X.prog X.w H' h') (hg : AllBare g') :
  Inv X pins σ H' { s with heap := h', gens := g', drawn := d', toks := t' } := by
 have neL : ∀ b o, X.s₀.heap.get? b = some o -> b ≠ X.env.locals := fun b o e => Nat.ne_of_lt (Nat.lt_of_lt_of_le (Heap.lt_size e) I.ok.above)
 have neC : ∀ b o, X.s₀.heap.get? b = some o -> b ∉ X.ex -> b ∉ ch := fun b o e hx hb => by
  rcases (hch b hb).1 with z | z
  ·exact hx z
  ·exact absurd (Nat.lt_of_lt_of_le (Heap.lt_size e) z) (Nat.lt_irrefl _)
 have cellK : ∀ x c, X.env.cells.lookup x = some c -> ∀ v, s.heap.IsCell c v -> h'.IsCell c v := fun x c e v ⟨o, ho, hd⟩ => by
  have nch : c ∉ ch := fun z => (hch c z).2.2.1 x c e rfl
  by_cases hc : c ∈ X.fs
  ·obtain ⟨sl, q⟩ := slot c o (I.cne x c e) hc nch ho (I.freeC x c e)
   exact ⟨_, q, hd⟩
  ·exact ⟨o, keep c o (I.cne x c e) hc nch ho (I.freeC x c e), hd⟩
 refine ⟨I.ok, I.os, hg, ⟨fun b o e n hb hx => ?_, fun b o e n hb hx => ?_, fun b o e n hx => ?_, fun b o e hx => ?_, fun b xs e => tups b xs (I.base.tups b xs e), fun b o xs e => frzs b o xs (I.base.frzs b o xs e), fun b ps e => ?_⟩, ?_, fun x c e => ?_, ?_, fun x c e => ?_, fun p hp => ?_, hok, I.len⟩
 ·exact keep b o (neL b o e) hb (neC b o e hx) (I.base.keep b o e n hb hx) (I.base.free b o e n hx)
 ·obtain ⟨sl, e1⟩ := I.base.slot b o e n hb hx
  obtain ⟨sl', e2⟩ := slot b _ (neL b o e) hb (neC b o e hx) e1 (I.base.free b o e n hx)
  exact ⟨sl', e2⟩
 ·obtain ⟨o', e1⟩ := I.base.there b o e hx
  exact free b o' (neC b o e hx) e1 (I.base.free b o e n hx)
 ·obtain ⟨o', e1⟩ := I.base.there b o e hx
  exact there b o' (neC b o e hx) e1
 ·obtain ⟨m1, e1⟩ := I.base.tbls b ps e
  obtain ⟨m2, e2⟩ := tbls b _ e1
  exact ⟨m1 ++ m2, by rw [e2, Array.append_assoc]⟩
 ·obtain ⟨m, hn, hl⟩ := I.loc
  refine ⟨m, ns m hn, fun i x v e1 e2 e3 => ?_⟩
  obtain ⟨u, r, l⟩ := hl i x v e1 e2 e3
  refine ⟨u, r, ?_⟩
  rcases l with l | ⟨k, c, e, z⟩
  ·exact .inl l
  ·exact .inr ⟨k, c, e, cellK x c e _ z⟩
 ·obtain ⟨v, z⟩ := I.cell x c e
  exact ⟨v, cellK x c e v z⟩
 ·obtain ⟨m, ⟨o, _, _, ho, _⟩, _⟩ := I.loc
  exact free _ o (fun z => (hch _ z).2.1 rfl) ho I.free
 ·obtain ⟨v, o, ho, hd⟩ := I.cell x c e
  exact free c o (fun z => (hch c z).2.2.1 x c e rfl) ho (I.freeC x c e)
 ·obtain ⟨e, n, ne, nf, d⟩ := I.pin p hp
  have nch : p.1 ∉ ch := fun z => (hch p.1 z).2.2.2 p hp rfl
  exact ⟨keep p.1 p.2 ne nf nch e n, free p.1 p.2 nch e n, ne, nf, d⟩
theorem Inv.un {t' : Nat} (I : Inv X pins σ H s) (u : Un X.fs [] H H' s.heap h') (hok : HOk X.prog X.w H' h') : Inv X pins σ H' { s with heap := h', toks := t' } := by
 obtain ⟨m, ⟨o, es, ep, ho, r⟩, _⟩ := id I.loc
 obtain ⟨sl, hL⟩ := u.any ho I.free (by simp)
 exact I.step (g' := s.gens) (d' := s.drawn) (ch := []) (fun _ z => nomatch z) (fun b o _ hb _ e n => u.keep b o e n hb (by simp)) (fun b o _ hb _ e n => u.slot b o e n hb (by simp)) (fun b o _ e n => u.free b o e n (by simp)) (fun b o _ e => u.there b o e (by simp)) u.tups u.frzs u.tbls (fun m' hm => by
  obtain ⟨o', es', ep', ho', r'⟩ := hm
  rw [ho] at ho'; cases ho'
  exact ⟨_, es', ep', hL, r'⟩) hok I.bare
theorem Inv.call {g' : Array GenState} {t' : Nat} {d' : Drawn} {ch : List Addr} (I : Inv X pins σ H s) (u : Un (frs X.stack) ch H H' s.heap h') (hok : HOk X.prog X.w H' h') (hg : AllBare g')
  (hch : ∀ b ∈ ch, (b ∈ X.ex \/ X.s₀.heap.objs.size <= b) /\ b ≠ X.env.locals /\ (∀ x c, X.env.cells.lookup x = some c -> c ≠ b) /\ ∀ p ∈ X.pn ++ pins, p.1 ≠ b) :
  Inv X pins σ H' { s with heap := h', gens := g', drawn := d', toks := t' } := by
 obtain ⟨m, ⟨o, es, ep, ho, r⟩, _⟩ := id I.loc
 obtain ⟨sl, hL⟩ := u.any ho I.free fun z => (hch _ z).2.1 rfl
 exact I.step (ch := ch) hch (fun b o hL hb hc e n => u.keep b o e n (fun z => (List.mem_cons.mp (I.stkSub b z)).elim hL hb) hc) (fun b o _ _ hc e n => u.any e n hc) (fun b o hc e n => u.free b o e n hc) (fun b o hc e => u.there b o e hc) u.tups u.frzs u.tbls (fun m' hm => by
  obtain ⟨o', es', ep', ho', r'⟩ := hm
  rw [ho] at ho'; cases ho'
  exact ⟨_, es', ep', hL, r'⟩) hok hg
theorem Inv.turned {t' : Nat} {it : Addr} (I : Inv X pins σ H s) (k : ∀ b o, b ≠ it -> s.heap.get? b = some o -> h'.get? b = some o) (hn : H it = none) (hL : it ≠ X.env.locals)
  (h1 : it ∈ X.ex \/ X.s₀.heap.objs.size <= it) (h2 : ∀ x c, X.env.cells.lookup x = some c -> c ≠ it) (h3 : ∀ p ∈ X.pn ++ pins, p.1 ≠ it) : Inv X pins σ H { s with heap := h', toks := t' } := by
 have nit : ∀ b u, H b = some u -> b ≠ it := fun b u e z => by rw [z, hn] at e; cases e
 refine I.step (g' := s.gens) (d' := s.drawn) (ch := [it]) (fun b hb => ?_) (fun b o _ _ hc e _ => k b o (fun z => hc (by simp [z])) e) (fun b o _ _ hc e _ => ⟨o.slots, k b o (fun z => hc (by simp [z])) e⟩) (fun _ _ _ _ n => n)
  (fun b o hc e => ⟨o, k b o (fun z => hc (by simp [z])) e⟩) (fun _ _ e => e) (fun _ _ _ e => e) (fun b ps e => ⟨#[], by rw [e]; simp⟩) (fun m hm => ?_) (fun b u e => ?_) I.bare
 ·have e : b = it := by simpa using hb
  subst e
  exact ⟨h1, hL, h2, h3⟩
 ·obtain ⟨o, es, ep, ho, r⟩ := hm
  exact ⟨o, es, ep, k _ o (Ne.symm hL) ho, r⟩
 ·refine (I.hok b u e).stay (fun c v hc q => k c v ?_ q) (fun _ q => q) fun _ _ q => q
  rcases hc with z | z
  ·rw [z]; exact nit b u e
  ·exact nit c _ z
theorem Inv.tok (I : Inv X pins σ H s) (t : Nat) : Inv X pins σ H { s with toks := t } := I.un (h' := s.heap) (t' := t) Un.refl I.hok
theorem Inv.kept {t' : Nat} (I : Inv X pins σ H s) (k : ∀ b u, s.heap.get? b = some u -> h'.get? b = some u) : Inv X pins σ H { s with heap := h', toks := t' } := I.un (Un.kept k) (I.hok.kept k)
theorem Inv.laid {a : Addr} {o : HO} {t' : Nat} (I : Inv X pins σ H s) (k : ∀ b u, s.heap.get? b = some u -> h'.get? b = some u) (hp : s.heap.objs.size <= a) (new : ObjOk X.prog X.w (upd H a o) h' a o) :
  Inv X pins σ (upd H a o) { s with heap := h', toks := t' } := I.un (Un.laid k hp (I.hok.fresh hp)) (I.hok.laid k hp new)
theorem Inv.write {x e : Addr} {o : HO} {t' : Nat} (I : Inv X pins σ H s) (mu : Mut (H x)) (he : e = x \/ H e = some (.own x)) (k : ∀ b u, b ≠ e -> s.heap.get? b = some u -> h'.get? b = some u) (heo : ∃ u, h'.get? e = some u)
  (new : ObjOk X.prog X.w (upd H x o) h' x o) : Inv X pins σ (upd H x o) { s with heap := h', toks := t' } := I.un (Un.write mu he k heo) (I.hok.write mu he k heo new)
theorem Inv.weak {σ' : List (Option V)} (I : Inv X pins σ H s) (hl : σ'.length = σ.length) (w : ∀ (i : Nat) v, σ'[i]? = some (some v) -> σ[i]? = some (some v)) : Inv X pins σ' H s :=
 ⟨I.ok, I.os, I.bare, I.base, let ⟨m, hn, hl'⟩ := I.loc; ⟨m, hn, fun i x v e1 e2 e3 => hl' i x v e1 (w i v e2) e3⟩, I.cell, I.free, I.freeC, I.pin, I.hok, hl.trans I.len⟩
theorem Inv.pins_of {pins' : List (Addr × Obj)} (I : Inv X pins σ H s) (h : ∀ p ∈ pins', s.heap.get? p.1 = some p.2 /\ H p.1 = none /\ p.1 ≠ X.env.locals /\ p.1 ∉ X.fs /\ ∀ v, p.2.data ≠ .cell v) : Inv X pins' σ H s :=
 ⟨I.ok, I.os, I.bare, I.base, I.loc, I.cell, I.free, I.freeC, fun p hp => (List.mem_append.mp hp).elim (fun z => I.pin p (List.mem_append_left _ z)) (h p), I.hok, I.len⟩
theorem nodup_ix {N : List Str} (hN : N.Nodup) {i j : Nat} {x : Str} (a : N[i]? = some x) (b : N[j]? = some x) : i = j := by
 obtain ⟨h1, e1⟩ := List.getElem?_eq_some_iff.mp a
 obtain ⟨h2, e2⟩ := List.getElem?_eq_some_iff.mp b
 exact (List.getElem_inj hN).mp (e1.trans e2.symm)
theorem store_ok2 {M : Model} {A : Around} {E : Value -> Shared -> Prop} {i : Nat} {x : Str} {v : V} {u : Value} {Q : Unit -> Shared -> Prop} (I : Inv X pins σ H s) (hN : X.N.Nodup) (hi : X.N[i]? = some x) (hx : Loc X.env.scope x) (r : RelV v u)
  (h : ∀ s', Inv X pins (σ.set i (some v)) H s' -> (∃ a, Heap.SameBut a s.heap s'.heap /\ (a = X.env.locals \/ X.env.cells.lookup x = some a)) -> Q () s') (hf : X.fn x = true \/ X.env.scope.names.lookup x = some .local := by first | exact .inl rfl | exact .inr rfl | assumption) : wpAny M A (storeName X.env x u) Q E s := by
 obtain ⟨m, hn, hl⟩ := id I.loc
 have hcls : (X.env.scope.kind == .class || (X.env.scope.kind == .module && X.env.locals != X.env.globals)) = false := by rw [I.ok.kind]; rfl
 have hiσ : i < σ.length := by rw [I.len]; exact (List.getElem?_eq_some_iff.mp hi).1
 have cne := I.cne
 have tracked : ∀ {a : Addr} {h' : Heap}, (∃ o, s.heap.get? a = some o /\ H a = none) -> Heap.SameBut a s.heap h' -> HOk X.prog X.w H h' := fun {a h'} ha hs b ob e => by
  obtain ⟨_, _, hfree⟩ := ha
  refine (I.hok b ob e).stay (fun c w' hc q => (hs.2 c ?_).trans q) (fun _ q => q) fun _ _ q => q
  rintro rfl
  rcases hc with rfl | hc
  ·rw [hfree] at e; cases e
  ·rw [hfree] at hc; cases hc
 rcases hx with hk | hk
 ·refine wpAny_storeName_local hk hn (fun h' hn' hs => ?_) hcls
  obtain ⟨oL, _, _, hoL, _⟩ := id hn
  refine h _ ⟨I.ok, I.os, I.bare, ⟨fun b o e n hb hx => ?_, fun b o e n hb hx => ?_, I.base.free, fun b o e hx => ?_, I.base.tups, I.base.frzs, I.base.tbls⟩, ⟨_, hn', fun j y v' e1 e2 e3 => ?_⟩, fun y c e => ?_, I.free, I.freeC, fun p hp => ?_, tracked ⟨oL, hoL, I.free⟩ hs, by simpa using I.len⟩ ⟨_, hs, .inl rfl⟩
  ·exact (hs.2 b (Nat.ne_of_lt (Nat.lt_of_lt_of_le (Heap.lt_size e) I.ok.above))).trans (I.base.keep b o e n hb hx)
  ·obtain ⟨sl, e1⟩ := I.base.slot b o e n hb hx
   exact ⟨sl, (hs.2 b (Nat.ne_of_lt (Nat.lt_of_lt_of_le (Heap.lt_size e) I.ok.above))).trans e1⟩
  ·obtain ⟨o', e1⟩ := I.base.there b o e hx
   exact ⟨o', (hs.2 b (Nat.ne_of_lt (Nat.lt_of_lt_of_le (Heap.lt_size e) I.ok.above))).trans e1⟩
  ·by_cases hj : j = i
   ·subst hj
    rw [hi] at e1; cases e1
    rw [List.getElem?_set_self hiσ] at e2
    cases e2
    exact ⟨u, r, .inl ⟨hk, by simp⟩⟩
   ·rw [List.getElem?_set_ne (Ne.symm hj)] at e2
    obtain ⟨u', r', q⟩ := hl j y v' e1 e2 e3
    refine ⟨u', r', ?_⟩
    rcases q with ⟨k, e⟩ | ⟨k, c, e, z⟩
    ·refine .inl ⟨k, ?_⟩
     have : y ≠ x := fun e => hj (nodup_ix hN e1 (e ▸ hi))
     simp [this, e]
    ·exact .inr ⟨k, c, e, z.sameBut hs (cne y c e)⟩
  ·obtain ⟨w', z⟩ := I.cell y c e
   exact ⟨w', z.sameBut hs (cne y c e)⟩
  ·obtain ⟨e, n, ne, nf, d⟩ := I.pin p hp
   exact ⟨(hs.2 p.1 ne).trans e, n, ne, nf, d⟩
 ·have hfn : X.fn x = true := by
   rcases hf with z | z
   ·exact z
   ·rw [z] at hk; cases hk
  obtain ⟨c, hc⟩ := I.ok.has x (.inl hk)
  obtain ⟨w', z⟩ := I.cell x c hc
  refine wpAny_storeName_cell I.ok.kind hk hc z (fun h' hc' hs => ?_)
  obtain ⟨oc, hoc, hocd⟩ := id z
  refine h { s with heap := h' } ⟨I.ok, I.os, I.bare, ⟨fun b o e n hb hx => ?_, fun b o e n hb hx => ?_, I.base.free, fun b o e hx => ?_, I.base.tups, I.base.frzs, I.base.tbls⟩, ⟨m, hn.sameBut hs (Ne.symm (cne x c hc)), fun j y v' e1 e2 e3 => ?_⟩, fun y c' e => ?_, I.free, I.freeC, fun p hp => ?_, tracked ⟨oc, hoc, I.freeC x c hc⟩ hs, by simpa using I.len⟩ ⟨c, hs, .inr hc⟩
  ·exact (hs.2 b (Nat.ne_of_lt (Nat.lt_of_lt_of_le (Heap.lt_size e) (I.ok.cab x c hfn hc)))).trans (I.base.keep b o e n hb hx)
  ·obtain ⟨sl, e1⟩ := I.base.slot b o e n hb hx
   exact ⟨sl, (hs.2 b (Nat.ne_of_lt (Nat.lt_of_lt_of_le (Heap.lt_size e) (I.ok.cab x c hfn hc)))).trans e1⟩
  ·obtain ⟨o', e1⟩ := I.base.there b o e hx
   exact ⟨o', (hs.2 b (Nat.ne_of_lt (Nat.lt_of_lt_of_le (Heap.lt_size e) (I.ok.cab x c hfn hc)))).trans e1⟩
  ·by_cases hj : j = i
   ·subst hj
    rw [hi] at e1; cases e1
    rw [List.getElem?_set_self hiσ] at e2
    cases e2
    exact ⟨u, r, .inr ⟨.inl hk, c, hc, hc'⟩⟩
   ·rw [List.getElem?_set_ne (Ne.symm hj)] at e2
    obtain ⟨u', r', q⟩ := hl j y v' e1 e2 e3
    refine ⟨u', r', ?_⟩
    rcases q with q | ⟨k, c', e, z'⟩
    ·exact .inl q
    ·refine .inr ⟨k, c', e, z'.sameBut hs ?_⟩
     rintro rfl
     exact hj (nodup_ix hN e1 (I.ok.inj _ _ _ e hc ▸ hi))
  ·by_cases hcc : c' = c
   ·subst hcc; exact ⟨_, hc'⟩
   ·obtain ⟨w2, z2⟩ := I.cell y c' e
    exact ⟨w2, z2.sameBut hs hcc⟩
  ·obtain ⟨e, n, ne, nf, d⟩ := I.pin p hp
   refine ⟨(hs.2 p.1 ?_).trans e, n, ne, nf, d⟩
   intro q
   rw [q, hoc] at e
   have q' : oc = p.2 := Option.some.inj e
   exact d w' (by rw [<- q']; exact hocd)
theorem store_ok {M : Model} {A : Around} {E : Value -> Shared -> Prop} {i : Nat} {x : Str} {v : V} {u : Value} {Q : Unit -> Shared -> Prop} (I : Inv X pins σ H s) (hN : X.N.Nodup) (hi : X.N[i]? = some x) (hx : Loc X.env.scope x) (r : RelV v u)
  (h : ∀ s', Inv X pins (σ.set i (some v)) H s' -> Q () s') (hf : X.fn x = true \/ X.env.scope.names.lookup x = some .local := by first | exact .inl rfl | exact .inr rfl | assumption) : wpAny M A (storeName X.env x u) Q E s :=
 store_ok2 I hN hi hx r (fun s' I' _ => h s' I') hf
theorem Inv.call' {s' : Shared} {ch : List Addr} (I : Inv X pins σ H s) (ho : s'.os = s.os) (u : Un (frs X.stack) ch H H' s.heap s'.heap) (hok : HOk X.prog X.w H' s'.heap) (hg : AllBare s'.gens)
  (hch : ∀ b ∈ ch, (b ∈ X.ex \/ X.s₀.heap.objs.size <= b) /\ b ≠ X.env.locals /\ (∀ x c, X.env.cells.lookup x = some c -> c ≠ b) /\ ∀ p ∈ X.pn ++ pins, p.1 ≠ b) : Inv X pins σ H' s' := by
 obtain ⟨h', g', d', t', o'⟩ := s'
 have e : o' = s.os := ho
 subst e
 exact I.call (g' := g') (t' := t') (d' := d') u hok hg hch
end
abbrev XK := Value -> Option Addr -> Hp -> Prop
abbrev St := List (Option V)
abbrev VK := V -> Hp -> Prop
abbrev TE := St -> Hp -> VK -> Prop
abbrev TT := St -> Hp -> (Bool -> Hp -> Prop) -> Prop
abbrev TA := St -> Hp -> (List V -> Hp -> Prop) -> Prop
structure Ends where
 nx : St -> Hp -> Prop
 rt : VK
 bk : St -> Hp -> Prop := fun _ _ => False
 ct : St -> Hp -> Prop := fun _ _ => False
abbrev TS := Ends -> St -> Hp -> Prop
def EP (X : Cx) (pins : List (Addr × Obj)) (σ : St) (Q : VK) (u : Value) (s' : Shared) : Prop := ∃ v H', Inv X pins σ H' s' /\ RelV v u /\ Q v H'
def TP (X : Cx) (pins : List (Addr × Obj)) (σ : St) (Q : Bool -> Hp -> Prop) (b : Bool) (s' : Shared) : Prop := ∃ H', Inv X pins σ H' s' /\ Q b H'
def AP (X : Cx) (pins : List (Addr × Obj)) (σ : St) (Q : List V -> Hp -> Prop) (us : List Value) (s' : Shared) : Prop := ∃ vs H', Inv X pins σ H' s' /\ Vals vs us /\ Q vs H'
def SP (X : Cx) (pins : List (Addr × Obj)) (D : Ends) (f : Flow) (s' : Shared) : Prop :=
 match f with
 | .next => ∃ σ' H', Inv X pins σ' H' s' /\ D.nx σ' H'
 | .brk => ∃ σ' H', Inv X pins σ' H' s' /\ D.bk σ' H'
 | .cont => ∃ σ' H', Inv X pins σ' H' s' /\ D.ct σ' H'
 | .ret u => ∃ v σ' H', Inv X pins σ' H' s' /\ RelV v u /\ D.rt v H'
def PE (X : Cx) (e : Expr) (t : TE) : Prop :=
 ∀ (pins : List (Addr × Obj)) (s : Shared) (σ : St) (H : Hp) (Q : VK), Inv X pins σ H s -> t σ H Q -> wpAny (model X.prog X.w) X.A (eval e X.env) (EP X pins σ Q) X.xe s
def PT (X : Cx) (e : Expr) (t : TT) : Prop :=
 ∀ (pins : List (Addr × Obj)) (s : Shared) (σ : St) (H : Hp) (Q : Bool -> Hp -> Prop), Inv X pins σ H s -> t σ H Q -> wpAny (model X.prog X.w) X.A (isTrue e X.env (eval e X.env)) (TP X pins σ Q) X.xe s
def PW (X : Cx) (e : Expr) (t : TT) : Prop :=
 ∀ (whole : Sem Value) (pins : List (Addr × Obj)) (s : Shared) (σ : St) (H : Hp) (Q : Bool -> Hp -> Prop), Inv X pins σ H s -> t σ H Q -> wpAny (model X.prog X.w) X.A (isTrue e X.env whole) (TP X pins σ Q) X.xe s
theorem PW.pt {X : Cx} {e : Expr} {t : TT} (h : PW X e t) : PT X e t := h _
def PA (X : Cx) (es : List Expr) (t : TA) : Prop :=
 ∀ (pos : Pos) (pins : List (Addr × Obj)) (s : Shared) (σ : St) (H : Hp) (Q : List V -> Hp -> Prop), Inv X pins σ H s -> t σ H Q -> wpAny (model X.prog X.w) X.A (spliced (backTo pos (starEach es X.env))) (AP X pins σ Q) X.xe s
def PS (X : Cx) (st : Stmt) (t : TS) : Prop :=
 ∀ (pins : List (Addr × Obj)) (s : Shared) (σ : St) (H : Hp) (D : Ends), Inv X pins σ H s -> t D σ H -> wpAny (model X.prog X.w) X.A (exec st X.env) (SP X pins D) X.xe s
def PSs (X : Cx) (st : List Stmt) (t : TS) : Prop :=
 ∀ (pins : List (Addr × Obj)) (s : Shared) (σ : St) (H : Hp) (D : Ends), Inv X pins σ H s -> t D σ H -> wpAny (model X.prog X.w) X.A (execs st X.env) (SP X pins D) X.xe s
theorem thn {α : Type} {t : Sem α} {Q Q' : α -> Shared -> Prop} {M : Model} {A : Around} {E : Value -> Shared -> Prop} {s : Shared} (h : wpAny M A t Q E s) (hQ : ∀ a s, Q a s -> Q' a s) : wpAny M A t Q' E s := wpAny_mono h hQ fun _ _ x => x
end L2
namespace L2
open PySem PySem.Spec PyProof.Rows
section
variable {X : Cx}
def tVar (i : Nat) : TE := fun σ H Q => ∃ v, σ[i]? = some (some v) /\ Q v H
def tC (v : V) : TE := fun _ H Q => Q v H
theorem pe_var {i : Nat} {x : Str} {pos : Pos} (hN : X.N[i]? = some x) (hv : Vis X.env.scope x) (hd : (x == ("__debug__" : Str)) = false := by decide) (hcd : (x == ("__classdict__" : Str)) = false := by decide) : PE X (.Name x pos) (tVar i) := by
 intro pins s σ H Q I h
 obtain ⟨v, e, h⟩ := h
 obtain ⟨m, hn, hl⟩ := I.loc
 obtain ⟨u, r, l⟩ := hl i x v hN e hv
 have fin : EP X pins σ Q u s := ⟨v, H, I, r, h⟩
 rcases l with ⟨hk, hm⟩ | ⟨hk, c, hc, hcell⟩
 ·exact wpAny_Name (wpAny_loadName_local I.ok.kind hk hn hm fin) hd
 ·rcases hk with hk | hk
  ·exact wpAny_Name (wpAny_loadName_cell I.ok.kind hk hc hcell fin) hd
  ·exact wpAny_Name (wpAny_loadName_free I.ok.kind hk hc hcell fin hcd) hd
theorem pe_int {i j pos} : PE X (.Constant (.int i) j pos) (tC (.int i)) := fun _ _ _ H _ I h => wpAny_Constant_int ⟨.int i, H, I.tok _, ⟨_, rfl⟩, h⟩
theorem pe_bl {b j pos} : PE X (.Constant (.bool b) j pos) (tC (.bl b)) := fun _ _ _ H _ I h => Constant_bool ⟨.bl b, H, I, rfl, h⟩
theorem pe_non {j pos} : PE X (.Constant .none j pos) (tC .non) := fun _ _ _ H _ I h => Constant_none ⟨.non, H, I, rfl, h⟩
theorem pe_str {x j pos} : PE X (.Constant (.str x) j pos) (tC (.str x)) := fun _ _ _ H _ I h => Calls.Constant_str ⟨.str x, H, I.tok _, ⟨_, rfl⟩, h⟩
def Gl (X : Cx) (x : Str) : Prop := X.env.kindOf x = some .globalImplicit
theorem ld_glob {E : Value -> Shared -> Prop} {pins : List (Addr × Obj)} {s : Shared} {σ : St} {H : Hp} {x : Str} {u : Value} {pos : Pos} {Q : Value -> Shared -> Prop} (I : Inv X pins σ H s) (hg : Gl X x) (hm : X.mg x = some u) (h : Q u s)
  (hd : (x == ("__debug__" : Str)) = false := by decide) : wpAny (model X.prog X.w) X.A (eval (.Name x pos) X.env) Q E s :=
 Calls.Name_function_global I.ok.kind hg (Calls.loadGlobal_global (by rw [I.ok.glob]; exact I.mod.glob.keeps I.bk) hm h) hd
theorem ld_blt {E : Value -> Shared -> Prop} {pins : List (Addr × Obj)} {s : Shared} {σ : St} {H : Hp} {x : Str} {u : Value} {pos : Pos} {Q : Value -> Shared -> Prop} (I : Inv X pins σ H s) (hg : Gl X x) (hm : X.mg x = none) (hv : bootBuiltins x = some u) (h : Q u s)
  (hn : x ≠ "__name__" := by decide) (hd : (x == ("__debug__" : Str)) = false := by decide) : wpAny (model X.prog X.w) X.A (eval (.Name x pos) X.env) Q E s := by
 obtain ⟨mb, h1, h2⟩ := I.mod.blt
 exact Calls.Name_function_global I.ok.kind hg (Calls.loadGlobal_builtin (by rw [I.ok.glob]; exact I.mod.glob.keeps I.bk) hm (by rw [I.ok.blt]; exact h1.keeps I.bk) ((h2 x hn).trans hv) h) hd
theorem pe_glob {x : Str} {v : V} {u : Value} {pos : Pos} (hg : Gl X x) (hm : X.mg x = some u) (r : RelV v u) (hd : (x == ("__debug__" : Str)) = false := by decide) : PE X (.Name x pos) (tC v) :=
 fun _ _ _ H _ I h => ld_glob I hg hm ⟨v, H, I, r, h⟩ hd
theorem pe_bltn {x : Str} {v : V} {u : Value} {pos : Pos} (hg : Gl X x) (hm : X.mg x = none) (hv : bootBuiltins x = some u) (r : RelV v u) (hn : x ≠ "__name__" := by decide) (hd : (x == ("__debug__" : Str)) = false := by decide) : PE X (.Name x pos) (tC v) :=
 fun _ _ _ H _ I h => ld_blt I hg hm hv ⟨v, H, I, r, h⟩ hn hd
variable {a b : Expr} {ta tb : TE} {pos : Pos}
def tB (t : TE) : TT := fun σ H Q => t σ H fun x H1 => ∃ c, x = .bl c /\ Q c H1
theorem pt_val {e : Expr} {t : TE} (h : PE X e t) (he : ∀ whole, isTrue e X.env whole = (do let v <- whole; standAt e.pos; holding [v] (truthy v)) := by intro _; rfl) : PT X e (tB t) := by
 intro pins s σ H Q I hw
 refine isTrue_plain (thn (h pins s σ H _ I hw) fun v s1 ⟨x, H1, I1, r1, q1⟩ => ?_) (he _)
 obtain ⟨d, rfl, q⟩ := q1
 cases r1
 exact wpAny_truthy_bool ⟨H1, I1, q⟩
variable {tA tB' : TT} {rest : List Expr}
def tAnd (t u : TT) : TT := fun σ H Q => t σ H fun c H1 => if c = true then u σ H1 Q else Q false H1
def tOr (t u : TT) : TT := fun σ H Q => t σ H fun c H1 => if c = true then Q true H1 else u σ H1 Q
def tNot (t : TT) : TT := fun σ H Q => t σ H fun c H1 => Q (!c) H1
theorem pw_and1 (ha : PT X a tA) : PW X (.BoolOp .And [a] pos) tA := by
 intro wh pins s σ H Q I h
 refine isTrue_and (thn (ha pins s σ H Q I h) fun c s1 e => ?_)
 cases c with
 | true => exact isTrue_and_nil e
 | false => exact e
theorem pw_or1 (ha : PT X a tA) : PW X (.BoolOp .Or [a] pos) tA := by
 intro wh pins s σ H Q I h
 refine isTrue_or (thn (ha pins s σ H Q I h) fun c s1 e => ?_)
 cases c with
 | false => exact isTrue_or_nil e
 | true => exact e
theorem pw_and (ha : PT X a tA) (hb : PW X (.BoolOp .And (b :: rest) pos) tB') : PW X (.BoolOp .And (a :: b :: rest) pos) (tAnd tA tB') := by
 intro wh pins s σ H Q I h
 refine isTrue_and (thn (ha pins s σ H _ I h) fun c s1 ⟨H1, I1, q1⟩ => ?_)
 cases c with
 | true => exact hb wh pins s1 σ H1 Q I1 q1
 | false => exact ⟨H1, I1, q1⟩
theorem pw_or (ha : PT X a tA) (hb : PW X (.BoolOp .Or (b :: rest) pos) tB') : PW X (.BoolOp .Or (a :: b :: rest) pos) (tOr tA tB') := by
 intro wh pins s σ H Q I h
 refine isTrue_or (thn (ha pins s σ H _ I h) fun c s1 ⟨H1, I1, q1⟩ => ?_)
 cases c with
 | true => exact ⟨H1, I1, q1⟩
 | false => exact hb wh pins s1 σ H1 Q I1 q1
theorem pt_not (ha : PT X a tA) : PT X (.UnaryOp .Not a pos) (tNot tA) := by
 intro pins s σ H Q I h
 exact isTrue_not (ha pins s σ H (fun c H1 => Q (!c) H1) I h)
def tAndV (ta tb : TE) : TE := fun σ H Q => ta σ H fun x H1 => ∃ c, x = .bl c /\ if c = true then tb σ H1 Q else Q (.bl false) H1
def tNotV (ta : TE) : TE := fun σ H Q => ta σ H fun x H1 => ∃ c, x = .bl c /\ Q (.bl (!c)) H1
theorem pe_one {op} {t : TE} (h : PE X a t) : PE X (.BoolOp op [a] pos) t := fun pins s σ H Q I hw => BoolOp_one (h pins s σ H Q I hw)
theorem pe_and (ha : PE X a ta) (hb : PE X (.BoolOp .And (b :: rest) pos) tb) : PE X (.BoolOp .And (a :: b :: rest) pos) (tAndV ta tb) := by
 intro pins s σ H Q I h
 refine BoolOp_and (thn (ha pins s σ H _ I h) fun v s1 ⟨x, H1, I1, r1, q1⟩ => ?_)
 obtain ⟨c, rfl, q1⟩ := q1
 cases r1
 refine wpAny_truthy_bool ?_
 cases c with
 | true => exact hb pins s1 σ H1 Q I1 q1
 | false => exact ⟨.bl false, H1, I1, rfl, q1⟩
theorem pe_not (ha : PE X a ta) : PE X (.UnaryOp .Not a pos) (tNotV ta) := by
 intro pins s σ H Q I h
 refine UnaryOp_ (thn (ha pins s σ H _ I h) fun v s1 ⟨x, H1, I1, r1, q1⟩ => ?_)
 obtain ⟨c, rfl, q1⟩ := q1
 cases r1
 exact not_of (wpAny_truthy_bool ⟨.bl (!c), H1, I1, rfl, q1⟩)
def tIf (t : TT) (ta tb : TE) : TE := fun σ H Q => t σ H fun c H1 => if c = true then ta σ H1 Q else tb σ H1 Q
theorem pe_ifExp {c : Expr} (hc : PT X c tA) (ha : PE X a ta) (hb : PE X b tb) : PE X (.IfExp c a b pos) (tIf tA ta tb) := by
 intro pins s σ H Q I h
 refine wpAny_IfExp (thn (hc pins s σ H _ I h) fun d s1 ⟨H1, I1, q1⟩ => ?_)
 cases d with
 | true => exact ha pins s1 σ H1 Q I1 q1
 | false => exact hb pins s1 σ H1 Q I1 q1
end
end L2
namespace L2
open PySem PySem.Spec PyProof.Rows
def SqL (K : PySem.W.Frag) (H : Hp) (a : Addr) (xs : List V) : Prop :=
 Rd H a (.lst xs) \/
  ∃ (o : Obj) (its : Array Value) (n : Nat), K.lookup a = some o /\ o.cls = .type "list" /\ o.dict = none /\ o.data = .seq its n /\ its.size <= sizeLine /\ Vals xs its.toList
def SqT (K : PySem.W.Frag) (H : Hp) (a : Addr) (xs : List V) : Prop :=
 Rd H a (.tup xs) \/
  ∃ (o : Obj) (its : Array Value) (n : Nat), K.lookup a = some o /\ o.cls = .type "tuple" /\ o.data = .seq its n /\ its.size <= sizeLine /\ Vals xs its.toList
def absV : Value -> Option V
 | .none => some .non
 | .bool b => some (.bl b)
 | .int i _ => some (.int i)
 | .str x _ => some (.str x)
 | .bytes b _ => some (.byt b)
 | .float b _ => some (.flt b)
 | .ref a => some (.ref a)
 | .type n => some (.ty n)
 | _ => none
theorem RelV.abs {x : V} {u : Value} (r : RelV x u) : absV u = some x := by
 cases x with
 | non => cases r; rfl
 | bl _ => cases r; rfl
 | int _ => obtain ⟨t, rfl⟩ := r; rfl
 | str _ => obtain ⟨t, rfl⟩ := r; rfl
 | byt _ => obtain ⟨t, rfl⟩ := r; rfl
 | flt _ => obtain ⟨t, rfl⟩ := r; rfl
 | ref _ => cases r; rfl
 | ty _ => cases r; rfl
theorem RelV.inj {x y : V} {u : Value} (r : RelV x u) (q : RelV y u) : x = y := Option.some.inj (r.abs.symm.trans q.abs)
theorem Vals.inj : ∀ {xs ys : List V} {us : List Value}, Vals xs us -> Vals ys us -> xs = ys
 | _, _, _, .nil, .nil => rfl
 | _, _, _, .cons r t, .cons r' t' => by rw [r.inj r', Vals.inj t t']
section
variable {X : Cx} {pins : List (Addr × Obj)} {σ : St} {H : Hp} {s : Shared} {a : Addr} {xs ys : List V}
theorem SqL.of {K : PySem.W.Frag} (h : H a = some (.lst xs)) : SqL K H a xs := .inl (.inl h)
theorem SqT.of {K : PySem.W.Frag} (h : H a = some (.tup xs)) : SqT K H a xs := .inl (.inl h)
theorem Inv.list (I : Inv X pins σ H s) (h : SqL X.K H a xs) : ∃ its : List Value, Vals xs its /\ PlainL s.heap a its.toArray /\ xs.length <= sizeLine := by
 rcases h with h | ⟨o, its, n, hk, hc, hd, hs, hz, r⟩
 ·obtain ⟨z, its, n, r, e⟩ := h.ok I.hok
  exact ⟨its, r, ⟨_, n, e, rfl, rfl, rfl⟩, z⟩
 ·refine ⟨its.toList, r, ⟨o, n, I.kIn a o hk, hc, hd, by simpa using hs⟩, ?_⟩
  have e := r.length
  simp only [Array.length_toList] at e
  omega
theorem Inv.tuple (I : Inv X pins σ H s) (h : SqT X.K H a xs) : ∃ its : List Value, Vals xs its /\ IsTup s.heap a its.toArray /\ xs.length <= sizeLine := by
 rcases h with h | ⟨o, its, n, hk, hc, hs, hz, r⟩
 ·obtain ⟨z, its, r, p⟩ := h.ok I.hok
  exact ⟨its, r, p, z⟩
 ·refine ⟨its.toList, r, ⟨o, I.kIn a o hk, hc, n, by simpa using hs⟩, ?_⟩
  have e := r.length
  simp only [Array.length_toList] at e
  omega
theorem Inv.list_inj (I : Inv X pins σ H s) (h : SqL X.K H a xs) (h' : SqL X.K H a ys) : xs = ys := by
 obtain ⟨its, r, ⟨o, n, e, _, _, d⟩, _⟩ := I.list h
 obtain ⟨its', r', ⟨o', n', e', _, _, d'⟩, _⟩ := I.list h'
 rw [e] at e'; cases e'
 rw [d] at d'
 injection d' with d1 _
 have : its = its' := by simpa using congrArg Array.toList d1
 subst this
 exact r.inj r'
theorem Inv.tuple_inj (I : Inv X pins σ H s) (h : SqT X.K H a xs) (h' : SqT X.K H a ys) : xs = ys := by
 obtain ⟨its, r, ⟨o, e, _, n, d⟩, _⟩ := I.tuple h
 obtain ⟨its', r', ⟨o', e', _, n', d'⟩, _⟩ := I.tuple h'
 rw [e] at e'; cases e'
 rw [d] at d'
 injection d' with d1 _
 have : its = its' := by simpa using congrArg Array.toList d1
 subst this
 exact r.inj r'
end
abbrev Cx.wish (X : Cx) (E : Value -> Shared -> Prop) : Cx := { X with xe := E }
abbrev Cx.nox (X : Cx) : Cx := X.wish fun _ _ => False
theorem Cx.Ok.wish {X : Cx} (ok : X.Ok) (E : Value -> Shared -> Prop) : (X.wish E).Ok :=
 ⟨ok.mod, ok.kind, ok.glob, ok.blt, ok.above, ok.inj, ok.has, ok.cab, ok.hd, ok.frames, ok.stk, ok.exf, ok.bs, ok.bsz, ok.noex, ok.exfs, ok.funs, ok.frf⟩
theorem Cx.Ok.unwish {X : Cx} {E : Value -> Shared -> Prop} (ok : (X.wish E).Ok) : X.Ok :=
 ⟨ok.mod, ok.kind, ok.glob, ok.blt, ok.above, ok.inj, ok.has, ok.cab, ok.hd, ok.frames, ok.stk, ok.exf, ok.bs, ok.bsz, ok.noex, ok.exfs, ok.funs, ok.frf⟩
section
variable {X : Cx} {pins : List (Addr × Obj)} {σ : St} {H : Hp} {s : Shared} {E : Value -> Shared -> Prop}
theorem Inv.wish (I : Inv X pins σ H s) (E : Value -> Shared -> Prop) : Inv (X.wish E) pins σ H s := ⟨I.ok.wish E, I.os, I.bare, I.base, I.loc, I.cell, I.free, I.freeC, I.pin, I.hok, I.len⟩
theorem Inv.unwish (I : Inv (X.wish E) pins σ H s) : Inv X pins σ H s := ⟨I.ok.unwish, I.os, I.bare, I.base, I.loc, I.cell, I.free, I.freeC, I.pin, I.hok, I.len⟩
theorem SP.unwish {D : Ends} {f : Flow} {s' : Shared} (h : SP (X.wish E) pins D f s') : SP X pins D f s' := by
 cases f with
 | next => obtain ⟨σ', H', I, q⟩ := h; exact ⟨σ', H', I.unwish, q⟩
 | brk => obtain ⟨σ', H', I, q⟩ := h; exact ⟨σ', H', I.unwish, q⟩
 | cont => obtain ⟨σ', H', I, q⟩ := h; exact ⟨σ', H', I.unwish, q⟩
 | ret u => obtain ⟨v, σ', H', I, r, q⟩ := h; exact ⟨v, σ', H', I.unwish, r, q⟩
theorem PSs.nox {st : List Stmt} {t : TS} (h : PSs X.nox st t) : PSs X st t := fun pins s σ H D I hw =>
 wpAny_mono (h pins s σ H D (I.wish _) hw) (fun _ _ q => q.unwish) fun _ _ z => False.elim z
end
section
variable {X : Cx} {st : Stmt} {rest : List Stmt} {t u : TS} {e : Expr} {te : TE} {pos : Pos}
def tNext : TS := fun D σ H => D.nx σ H
def tSeq (t u : TS) : TS := fun D σ H => t { D with nx := u D } σ H
theorem pss_nil : PSs X [] tNext := fun _ _ σ H _ I h => wpAny_execs_nil ⟨σ, H, I, h⟩
theorem pss_cons (h1 : PS X st t) (h2 : PSs X rest u) : PSs X (st :: rest) (tSeq t u) := by
 intro pins s σ H D I h
 refine wpAny_execs_cons (thn (h1 pins s σ H { D with nx := u D } I h) fun f s1 q => ?_)
 cases f with
 | next =>
  obtain ⟨σ', H', I', q⟩ := q
  exact h2 pins s1 σ' H' D I' q
 | ret v => exact q
 | brk => exact q
 | cont => exact q
theorem pss_one (h1 : PS X st t) : PSs X [st] t := by
 intro pins s σ H D I h
 refine wpAny_execs_cons (thn (h1 pins s σ H D I h) fun f s1 q => ?_)
 cases f with
 | next => exact wpAny_execs_nil q
 | ret v => exact q
 | brk => exact q
 | cont => exact q
theorem Inv.quiet {pins : List (Addr × Obj)} {σ : St} {H : Hp} {s : Shared} (I : Inv X pins σ H s) : interactive X.env = false := by simp [interactive, I.ok.kind]
def tDrop (te : TE) : TS := fun D σ H => te σ H fun _ H1 => D.nx σ H1
theorem ps_expr (he : PE X e te) (hs : swapsWith e none pos.line X.env = pure false := by rfl) : PS X (.Expr e pos) (tDrop te) := by
 intro pins s σ H D I h
 exact wpAny_Expr_any (thn (he pins s σ H _ I h) fun v s1 ⟨x, H1, I1, r1, q1⟩ => ⟨σ, H1, I1, q1⟩) I.quiet hs
def tRet (te : TE) : TS := fun D σ H => te σ H D.rt
theorem ps_ret (he : PE X e te) : PS X (.Return (some e) pos) (tRet te) := by
 intro pins s σ H D I h
 exact wpAny_Return_some (thn (he pins s σ H _ I h) fun v s1 ⟨x, H1, I1, r1, q1⟩ => ⟨x, σ, H1, I1, r1, q1⟩)
def tIfS (c : TT) (t u : TS) : TS := fun D σ H => c σ H fun b H1 => if b = true then t D σ H1 else u D σ H1
theorem ps_if {c : Expr} {a b : List Stmt} {tc : TT} (hc : PT X c tc) (ha : PSs X a t) (hb : PSs X b u) : PS X (.If c a b pos) (tIfS tc t u) := by
 intro pins s σ H D I h
 refine wpAny_If (thn (hc pins s σ H _ I h) fun d s1 ⟨H1, I1, q1⟩ => ?_)
 cases d with
 | true => exact ha pins s1 σ H1 D I1 q1
 | false => exact hb pins s1 σ H1 D I1 q1
def tNever : TS := fun _ _ _ => False
theorem pss_never {sts : List Stmt} : PSs X sts tNever := fun _ _ _ _ _ _ h => h.elim
end
abbrev TG := V -> St -> Hp -> (St -> Hp -> Prop) -> Prop
abbrev TGs := List V -> St -> Hp -> (St -> Hp -> Prop) -> Prop
def PG (X : Cx) (target : Expr) (t : TG) : Prop :=
 ∀ (pins : List (Addr × Obj)) (s : Shared) (σ : St) (H : Hp) (v : V) (u : Value) (Q : St -> Hp -> Prop), Inv X pins σ H s -> RelV v u -> t v σ H Q ->
  wpAny (model X.prog X.w) X.A (assign target X.env u) (fun _ s' => ∃ σ' H', Inv X pins σ' H' s' /\ Q σ' H') X.xe s
def PGs (X : Cx) (ts : List Expr) (t : TGs) : Prop :=
 ∀ (pins : List (Addr × Obj)) (s : Shared) (σ : St) (H : Hp) (vs : List V) (us : List Value) (Q : St -> Hp -> Prop), Inv X pins σ H s -> Vals vs us -> t vs σ H Q ->
  wpAny (model X.prog X.w) X.A (assignInOrder ((assignEach ts X.env).map (·.2)) us) (fun _ s' => ∃ σ' H', Inv X pins σ' H' s' /\ Q σ' H') X.xe s
abbrev TSet := V -> V -> V -> Hp -> (Hp -> Prop) -> Prop
def PSet (X : Cx) (t : TSet) : Prop :=
 ∀ (pins : List (Addr × Obj)) (s : Shared) (σ : St) (H : Hp) (o i v : V) (ov iv u : Value) (Q : Hp -> Prop), Inv X pins σ H s -> RelV o ov -> RelV i iv -> RelV v u -> t o i v H Q ->
  wpAny (model X.prog X.w) X.A (setItem ov iv u) (fun _ s' => ∃ H', Inv X pins σ H' s' /\ Q H') X.xe s
section
variable {X : Cx} {pos : Pos}
def gName (i : Nat) : TG := fun v σ H Q => Q (σ.set i (some v)) H
theorem pg_name {i : Nat} {x : Str} (hN : X.N.Nodup) (hi : X.N[i]? = some x) (hx : Loc X.env.scope x) (hf : X.fn x = true \/ X.env.scope.names.lookup x = some .local := by first | exact .inl rfl | exact .inr rfl | assumption) : PG X (.Name x pos) (gName i) := by
 intro pins s σ H v u Q I r h
 exact wpAny_assign_Name (store_ok I hN hi hx r (fun s' I' => ⟨_, H, I', h⟩) hf)
def gNil : TGs := fun vs σ H Q => vs = [] /\ Q σ H
def gCons (t : TG) (u : TGs) : TGs := fun vs σ H Q => ∃ v r, vs = v :: r /\ t v σ H fun σ' H' => u r σ' H' Q
theorem pgs_nil : PGs X [] gNil := by
 intro pins s σ H vs us Q I r h
 obtain ⟨e, h⟩ := h
 subst e
 cases r
 exact assignInOrder_nil ⟨σ, H, I, h⟩
theorem pgs_cons {e : Expr} {es : List Expr} {t : TG} {u : TGs} (h1 : PG X e t) (h2 : PGs X es u)
  (hs : (assignEach (e :: es) X.env).map (·.2) = assign e X.env :: (assignEach es X.env).map (·.2) := by rfl) : PGs X (e :: es) (gCons t u) := by
 intro pins s σ H vs us Q I r h
 obtain ⟨v, vr, e1, h⟩ := h
 subst e1
 cases r with
 | cons r rr =>
  rw [hs]
  refine assignInOrder_cons (thn (h1 pins s σ H _ _ _ I r h) fun _ s1 ⟨σ1, H1, I1, q1⟩ => ?_)
  exact h2 pins s1 σ1 H1 _ _ Q I1 rr q1
def gTup (K : PySem.W.Frag) (n : Nat) (t : TGs) : TG := fun v σ H Q => ∃ a xs, v = .ref a /\ SqT K H a xs /\ xs.length = n /\ t xs σ H Q
theorem pg_tup {es : List Expr} {k : Nat} {t : TGs} {n : Nat} (hc : X.calm = true) (h : PGs X es t)
  (hn : (assignEach es X.env).length = n := by rfl) (hst : (assignEach es X.env).findIdx? (·.1) = none := by rfl) : PG X (.Tuple es k pos) (gTup X.K n t) := by
 intro pins s σ H v u Q I r hw
 obtain ⟨a, xs, e1, hq, hl, hw⟩ := hw
 subst e1
 cases r
 obtain ⟨its, rv, ht, hz⟩ := I.tuple hq
 refine assign_Tuple_tuple (I.ok.hd hc) ht (by simp [hn, <- hl, rv.length]) hst fun h' hx => ?_
 have I1 : Inv X pins σ H { s with heap := h' } := I.kept (t' := s.toks) fun b o e => hx b o (Nat.ne_of_lt (Heap.lt_size e)) e
 exact h pins _ σ H xs _ Q I1 (by simpa using rv) hw
def gSub (to ti : TE) (t : TSet) : TG := fun v σ H Q => to σ H fun o H1 => ti σ H1 fun i H2 => t o i v H2 fun H3 => Q σ H3
theorem pg_sub {o i : Expr} {to ti : TE} {t : TSet} (ho : PE X o to) (hi : PE X i ti) (hs : PSet X t)
  (ha : ∀ v, assign (.Subscript o i pos) X.env v = (do
   let ov <- holding [v] (eval o X.env)
   let iv <- holding [v, ov] (eval i X.env)
   standAt pos
   holding [v, ov, iv] (setItem ov iv v)
   release [v, ov, iv] []) := by intro _; rfl) : PG X (.Subscript o i pos) (gSub to ti t) := by
 intro pins s σ H v u Q I r h
 rw [ha]
 refine wpAny_bind (wpAny_holding (thn (ho pins s σ H _ I h) fun ov s1 ⟨x, H1, I1, r1, q1⟩ => ?_))
 refine wpAny_bind (wpAny_holding (thn (hi pins s1 σ H1 _ I1 q1) fun iv s2 ⟨y, H2, I2, r2, q2⟩ => ?_))
 refine wpAny_bind (wpAny_standAt (wpAny_bind (wpAny_holding (thn (hs pins s2 σ H2 x y v ov iv u _ I2 r1 r2 r q2) fun _ s3 ⟨H3, I3, q3⟩ => ?_))))
 exact wpAny_release ⟨σ, H3, I3, q3⟩
def tAsg (te : TE) (g : TG) : TS := fun D σ H => te σ H fun x H1 => g x σ H1 D.nx
theorem ps_asg {tg e : Expr} {te : TE} {g : TG} (he : PE X e te) (hg : PG X tg g) (hs : swapsWithSole [tg] e pos.line X.env = pure false := by rfl) (hw : swappedStores [tg] e X.env = pure none := by rfl)
  (h1 : (assignEach [tg] X.env).map (·.2) = [assign tg X.env] := by rfl) : PS X (.Assign [tg] e pos) (tAsg te g) := by
 intro pins s σ H D I h
 refine wpAny_Assign_stores (thn (he pins s σ H _ I h) fun v s1 ⟨x, H1, I1, r1, q1⟩ => ?_) hs hw
 rw [h1]
 exact thn (hg pins s1 σ H1 x v _ I1 r1 q1) fun _ s2 q => q
theorem ps_set {i : Nat} {x : Str} {e : Expr} {te : TE} {pos' : Pos} (hN : X.N.Nodup) (hi : X.N[i]? = some x) (hx : Loc X.env.scope x) (he : PE X e te) (hs : swapsWith e (some (.Name x pos')) pos.line X.env = pure false := by rfl) (hf : X.fn x = true \/ X.env.scope.names.lookup x = some .local := by first | exact .inl rfl | exact .inr rfl | assumption) :
  PS X (.Assign [.Name x pos'] e pos) (tAsg te (gName i)) := by
 intro pins s σ H D I h
 refine wpAny_Assign_Name (thn (he pins s σ H _ I h) fun v s1 ⟨y, H1, I1, r1, q1⟩ => ?_) hs
 exact store_ok I1 hN hi hx r1 (fun s2 I2 => ⟨_, H1, I2, q1⟩) hf
def tPar (i j : Nat) (ta : TA) : TS := fun D σ H => ta σ H fun vs H1 => ∃ v w, vs = [v, w] /\ D.nx ((σ.set i (some v)).set j (some w)) H1
theorem ps_par {i j : Nat} {x y : Str} {a b : Expr} {ta : TA} {px py pt : Pos} {kt k2 pt2} (hc : X.calm = true) (hN : X.N.Nodup) (hi : X.N[i]? = some x) (hj : X.N[j]? = some y) (hij : i ≠ j)
  (hx : X.env.scope.names.lookup x = some .local) (hy : X.env.scope.names.lookup y = some .local) (ha : PA X [a, b] ta)
  (hw : swappedStores [.Tuple [.Name x px, .Name y py] kt pt] (.Tuple [a, b] k2 pt2) X.env = pure (some [x, y]))
  (hs : swapsWithSole [.Tuple [.Name x px, .Name y py] kt pt] (.Tuple [a, b] k2 pt2) pos.line X.env = pure false := by rfl) :
  PS X (.Assign [.Tuple [.Name x px, .Name y py] kt pt] (.Tuple [a, b] k2 pt2) pos) (tPar i j ta) := by
 intro pins s σ H D I h
 rw [exec_Assign_arm]
 refine wpAny_bind (wpAny_standAt ?_)
 rw [hs]
 refine wpAny_bind (wpAny_pure ?_)
 rw [if_neg (by decide)]
 refine wpAny_bind (Tuple_ (thn (ha _ pins s σ H _ I h) fun us s1 ⟨vs, H1, I1, r1, q1⟩ => ?_))
 obtain ⟨v, w, e1, q1⟩ := q1
 subst e1
 obtain ⟨u1, u2, rfl, rv, rw'⟩ : ∃ u1 u2, us = [u1, u2] /\ RelV v u1 /\ RelV w u2 := by
  cases r1 with
  | cons p q =>
   cases q with
   | cons p' q' =>
    cases q'
    exact ⟨_, _, rfl, p, p'⟩
 refine wpAny_newObj_type ?_ (by show 2 <= sizeLine; decide)
 have I2 : Inv X pins σ H1 { s1 with heap := s1.heap.push { cls := .type "tuple", data := .seq [u1, u2].toArray } } := I1.kept (t' := s1.toks) fun b o e => Heap.get?_push_of_some _ e
 rw [hw]
 refine wpAny_bind (wpAny_pure ?_)
 show wpAny (model X.prog X.w) X.A (do rule "assign.swapped-stores"; let items <- unpackItems (.ref s1.heap.objs.size) 2 none; assignInOrder [fun v => bindName X.env y v, fun v => bindName X.env x v] items.reverse; pure Flow.next) _ _ _
 refine wpAny_bind (wpAny_rule (wpAny_bind (unpackItems_tuple (items := #[u1, u2]) (I.ok.hd hc) (IsTup.new s1.heap _) fun h' hx' => ?_)))
 have I3 := I2.kept (h' := h') (t' := s1.toks) fun b o e => hx' b o (Nat.ne_of_lt (Heap.lt_size e)) e
 show wpAny _ _ (assignInOrder [fun v => bindName X.env y v, fun v => bindName X.env x v] [u2, u1] >>= fun _ => pure Flow.next) _ _ _
 refine wpAny_bind (assignInOrder_cons (wpAny_bindName (store_ok I3 hN hj (.inl hy) rw' (fun s2 I4 => ?_) (.inr hy))))
 refine assignInOrder_cons (wpAny_bindName (store_ok I4 hN hi (.inl hx) rv (fun s3 I5 => assignInOrder_nil (wpAny_pure ?_)) (.inr hx)))
 rw [List.set_comm _ _ (Ne.symm hij)] at I5
 exact ⟨_, H1, I5, q1⟩
end
section
variable {X : Cx} {pos : Pos}
def tWhile (c : TT) (tb : TS) : TS := fun D σ H => ∃ W : Nat -> St -> Hp -> Prop, (∃ m, W m σ H) /\ ∀ m σ H, W m σ H ->
 c σ H fun b H1 => if b = true then ∃ N : St -> Hp -> Prop, (∀ σ' H', N σ' H' -> ∃ m', m' < m /\ W m' σ' H') /\ tb { D with nx := N, ct := N, bk := D.nx } σ H1 else D.nx σ H1
theorem ps_while {c : Expr} {body : List Stmt} {tc : TT} {tb : TS} (hp : PassesOwn (model X.prog X.w) X.A X.env X.xe) (hc : PT X c tc) (hb : PSs X body tb) : PS X (.While c body [] pos) (tWhile tc tb) := by
 intro pins s σ H D I h
 obtain ⟨W, ⟨m0, w0⟩, turn⟩ := h
 refine wpAny_While (codeAny_whileLoop (fun n s' => ∃ σ' H', Inv X pins σ' H' s' /\ W n σ' H') ?_ m0 ⟨σ, H, I, w0⟩)
 rintro n s1 ⟨σ1, H1, I1, w1⟩
 refine wpAny_passesOwn hp (thn (hc pins s1 σ1 H1 _ I1 (turn n σ1 H1 w1)) fun b s2 ⟨H2, I2, q2⟩ => ?_)
 cases b with
 | true =>
  obtain ⟨N, hN, q2⟩ := q2
  rw [if_pos rfl]
  refine wpAny_passesOwn hp (thn (hb pins s2 σ1 H2 _ I2 q2) fun f s3 q3 => ?_)
  cases f with
  | next =>
   obtain ⟨σ3, H3, I3, n3⟩ := q3
   obtain ⟨m', hm, w3⟩ := hN σ3 H3 n3
   exact ⟨m', hm, σ3, H3, I3, w3⟩
  | cont =>
   obtain ⟨σ3, H3, I3, n3⟩ := q3
   obtain ⟨m', hm, w3⟩ := hN σ3 H3 n3
   exact ⟨m', hm, σ3, H3, I3, w3⟩
  | brk => exact q3
  | ret v => exact q3
 | false =>
  rw [if_neg Bool.false_ne_true]
  exact wpAny_execs_nil ⟨σ1, H2, I2, q2⟩
end
structure It where
 go : Nat -> Hp -> Prop
 yld : Nat -> Hp -> V -> Hp -> Prop
 stop : Nat -> Hp -> Prop
def FpOk (X : Cx) (pins : List (Addr × Obj)) (H : Hp) (b : Addr) : Prop :=
 H b = none /\ b ≠ X.env.locals /\ b ∉ X.fs /\ (b ∈ X.ex \/ X.s₀.heap.objs.size <= b) /\ (∀ x c, X.env.cells.lookup x = some c -> c ≠ b) /\ ∀ p ∈ X.pn ++ pins, p.1 ≠ b
theorem Inv.fpOk {X : Cx} {pins : List (Addr × Obj)} {σ : St} {H H' : Hp} {s : Shared} {b : Addr} (I : Inv X pins σ H s) (hb : s.heap.objs.size <= b) (hn : H' b = none) : FpOk X pins H' b := by
 refine ⟨hn, Nat.ne_of_gt (Nat.lt_of_lt_of_le I.lt hb), I.nofs hb, .inr (Nat.le_trans I.sz hb), fun x c e z => ?_, fun p hp z => ?_⟩
 ·obtain ⟨v, q⟩ := I.cell x c e
  exact absurd (Nat.lt_of_lt_of_le q.lt (by rw [z]; exact hb)) (Nat.lt_irrefl _)
 ·exact absurd (Nat.lt_of_lt_of_le (Heap.lt_size (I.pin p hp).1) (by rw [z]; exact hb)) (Nat.lt_irrefl _)
structure Turn (P : Program) (w : World) (K : PySem.W.Frag) (tg : Expr) (J : It) (fp : List Addr) (it : Addr) (tn : Nat -> Heap -> Prop) : Prop where
 mem : it ∈ fp
 obj : ∀ i h, tn i h -> ∀ b ∈ fp, ∃ o, h.get? b = some o /\ ∀ v, o.data ≠ .cell v
 keep : ∀ i h h', tn i h -> (∀ b ∈ fp, ∀ o, h.get? b = some o -> h'.get? b = some o) -> tn i h'
 item : ∀ (X : Cx), X.prog = P -> X.w = w -> X.K = K -> X.calm = true -> ∀ (i : Nat) (pins : List (Addr × Obj)) (s : Shared) (σ : St) (H : Hp) (E : Value -> Shared -> Prop), Inv X pins σ H s -> (∀ b ∈ fp, FpOk X pins H b) -> tn i s.heap -> J.go i H ->
  wpAny (model P w) X.A (pyNext (.ref it)) (fun r s1 => ∃ u, r = some u /\
   wpAny (model P w) X.A (letOwnedTupleGo tg (.ref it) u) (fun _ s2 => ∃ x H', Inv X pins σ H' s2 /\ RelV x u /\ J.yld i H x H' /\ tn (i + 1) s2.heap /\ ∀ b ∈ fp, H' b = none) E s1) E s
 done : ∀ (X : Cx), X.prog = P -> X.w = w -> X.K = K -> X.calm = true -> ∀ (i : Nat) (pins : List (Addr × Obj)) (s : Shared) (σ : St) (H : Hp) (E : Value -> Shared -> Prop), Inv X pins σ H s -> (∀ b ∈ fp, FpOk X pins H b) -> tn i s.heap -> J.stop i H ->
  wpAny (model P w) X.A (pyNext (.ref it)) (fun r s1 => r = none /\ Inv X pins σ H s1) E s
 self : ∀ (A : Around) (i : Nat) (s : Shared) (Q : Value -> Shared -> Prop) (E : Value -> Shared -> Prop), tn i s.heap -> Q (.ref it) s -> wpAny (model P w) A (pyIter (.ref it)) Q E s
abbrev TI := St -> Hp -> (It -> Hp -> Prop) -> Prop
def PIE (X : Cx) (pins : List (Addr × Obj)) (σ : St) (tg : Expr) (R : It -> Hp -> Prop) (itv : Value) (s2 : Shared) : Prop :=
 ∃ (it : Addr) (fp : List Addr) (tn : Nat -> Heap -> Prop) (J : It) (H' : Hp), itv = .ref it /\ Inv X pins σ H' s2 /\ Turn X.prog X.w X.K tg J fp it tn /\ tn 0 s2.heap /\ (∀ b ∈ fp, FpOk X pins H' b) /\ R J H'
def PI (X : Cx) (tg iter : Expr) (wi : TI) : Prop :=
 ∀ (pins : List (Addr × Obj)) (s : Shared) (σ : St) (H : Hp) (R : It -> Hp -> Prop), Inv X pins σ H s -> wi σ H R ->
  wpAny (model X.prog X.w) X.A (eval iter X.env) (fun v s1 => wpAny (model X.prog X.w) X.A (pyIter v) (PIE X pins σ tg R) X.xe s1) X.xe s
theorem go_of {M : Model} {A : Around} {E : Value -> Shared -> Prop} {s : Shared} {tg : Expr} {it : Addr} {u : Value} {o : Obj} {n : String} {vs : Array Value} {Q : Unit -> Shared -> Prop} (ho : s.heap.get? it = some o) (hc : o.cls = .type n) (hd : o.data = .fields vs)
  (hn : ["enumerate", "zip", "dict_itemiterator", "dict_reverseitemiterator", "odict_iterator", "itertools.zip_longest", "itertools.pairwise"].contains n = false) (hQ : Q () s) : wpAny M A (letOwnedTupleGo tg (.ref it) u) Q E s := by
 unfold letOwnedTupleGo
 cases tg <;> first
  | exact wpAny_pure hQ
  | (cases u <;> first
    | exact wpAny_pure hQ
    | (refine wpAny_bind (wpAny_load ho ?_)
       rw [hc, hd]
       show wpAny M A (if (["enumerate", "zip", "dict_itemiterator", "dict_reverseitemiterator", "odict_iterator", "itertools.zip_longest", "itertools.pairwise"].contains n && vs[0]? == some (rawInt _)) = true then _ else _) Q E s
       rw [if_neg (by intro h; rw [hn, Bool.false_and] at h; cases h)]
       exact wpAny_pure hQ))
def Itl (K : PySem.W.Frag) (a : Addr) : It :=
 ⟨fun i H => ∃ xs x, SqL K H a xs /\ xs[i]? = some x, fun i H x H' => H' = H /\ ∀ xs, SqL K H a xs -> xs[i]? = some x, fun i H => ∃ xs, SqL K H a xs /\ xs.length <= i⟩
def Itt (K : PySem.W.Frag) (a : Addr) : It :=
 ⟨fun i H => ∃ xs x, SqT K H a xs /\ xs[i]? = some x, fun i H x H' => H' = H /\ ∀ xs, SqT K H a xs -> xs[i]? = some x, fun i H => ∃ xs, SqT K H a xs /\ xs.length <= i⟩
def Itr (lo : Int) (n : Nat) : It := ⟨fun i _ => i < n, fun i H x H' => H' = H /\ x = .int (lo + i), fun i _ => n <= i⟩
theorem turn_list {P : Program} {w : World} {K : PySem.W.Frag} {tg : Expr} (a it : Addr) : Turn P w K tg (Itl K a) [it] it (fun i h => h.IsListIter it a i) where
 mem := by simp
 obj := fun i h st b hb => by
  have e : b = it := by simpa using hb
  subst e
  obtain ⟨o, e, c, d⟩ := st
  exact ⟨o, e, fun v z => by rw [d] at z; cases z⟩
 keep := fun i h h' st k => st.at fun o e => k it (by simp) o e
 item := by
  intro X hP hw hK hc i pins s σ H E I hf st hg
  subst hP hw hK
  obtain ⟨xs, x, hq, hx⟩ := hg
  obtain ⟨its, rv, p, hz⟩ := I.list hq
  obtain ⟨u, hu, ru⟩ := rv.get hx
  obtain ⟨f0, f1, f2, f3, f4, f5⟩ := hf it (by simp)
  refine wpAny_pyNext_list_item st p.isList (x := u) (by simpa using hu) fun h' st' sb => ?_
  have I1 : Inv X pins σ H { s with heap := h' } := I.turned (t' := s.toks) (fun b o hb e => (sb.2 b hb).trans e) f0 f1 f3 f4 f5
  obtain ⟨o, e, c, d⟩ := id st'
  exact ⟨u, rfl, go_of (s := { s with heap := h' }) e c d (by decide) ⟨x, H, I1, ru, ⟨rfl, fun ys hy => by rw [I.list_inj hy hq]; exact hx⟩, st', fun b hb => (hf b hb).1⟩⟩
 done := by
  intro X hP hw hK hc i pins s σ H E I hf st hg
  subst hP hw hK
  obtain ⟨xs, hq, hx⟩ := hg
  obtain ⟨its, rv, p, hz⟩ := I.list hq
  obtain ⟨f0, f1, f2, f3, f4, f5⟩ := hf it (by simp)
  have hl := rv.length
  exact wpAny_pyNext_list_end (I.ok.hd hc) st p.isList (by simp; omega) fun h' eb => ⟨rfl, I.turned (t' := s.toks) (fun b o hb e => eb b o hb e) f0 f1 f3 f4 f5⟩
 self := fun _ _ _ _ _ st h => wpAny_pyIter_listiter st h
theorem turn_tuple {P : Program} {w : World} {K : PySem.W.Frag} {tg : Expr} (a it : Addr) : Turn P w K tg (Itt K a) [it] it (fun i h => h.IsTupleIter it a i) where
 mem := by simp
 obj := fun i h st b hb => by
  have e : b = it := by simpa using hb
  subst e
  obtain ⟨o, e, c, d⟩ := st
  exact ⟨o, e, fun v z => by rw [d] at z; cases z⟩
 keep := fun i h h' st k => st.at fun o e => k it (by simp) o e
 item := by
  intro X hP hw hK hc i pins s σ H E I hf st hg
  subst hP hw hK
  obtain ⟨xs, x, hq, hx⟩ := hg
  obtain ⟨its, rv, p, hz⟩ := I.tuple hq
  obtain ⟨u, hu, ru⟩ := rv.get hx
  obtain ⟨f0, f1, f2, f3, f4, f5⟩ := hf it (by simp)
  refine wpAny_pyNext_tuple_item st (show s.heap.IsTuple a its.toArray from p) (x := u) (by simpa using hu) fun h' st' sb => ?_
  have I1 : Inv X pins σ H { s with heap := h' } := I.turned (t' := s.toks) (fun b o hb e => (sb.2 b hb).trans e) f0 f1 f3 f4 f5
  obtain ⟨o, e, c, d⟩ := id st'
  exact ⟨u, rfl, go_of (s := { s with heap := h' }) e c d (by decide) ⟨x, H, I1, ru, ⟨rfl, fun ys hy => by rw [I.tuple_inj hy hq]; exact hx⟩, st', fun b hb => (hf b hb).1⟩⟩
 done := by
  intro X hP hw hK hc i pins s σ H E I hf st hg
  subst hP hw hK
  obtain ⟨xs, hq, hx⟩ := hg
  obtain ⟨its, rv, p, hz⟩ := I.tuple hq
  obtain ⟨f0, f1, f2, f3, f4, f5⟩ := hf it (by simp)
  have hl := rv.length
  exact wpAny_pyNext_tuple_end (I.ok.hd hc) st (show s.heap.IsTuple a its.toArray from p) (by simp; omega) fun h' eb => ⟨rfl, I.turned (t' := s.toks) (fun b o hb e => eb b o hb e) f0 f1 f3 f4 f5⟩
 self := fun _ _ _ _ _ st h => wpAny_pyIter_tupleiter st h
theorem turn_range {P : Program} {w : World} {K : PySem.W.Frag} {tg : Expr} (it : Addr) (lo : Int) (n : Nat) : Turn P w K tg (Itr lo n) [it] it (fun i h => IsRangeIter h it (lo + (i : Nat) * 1) ((n : Int) - (i : Nat)) 1) where
 mem := by simp
 obj := fun i h st b hb => by
  have e : b = it := by simpa using hb
  subst e
  exact ⟨_, st, fun v z => by
   have z' : Data.fields _ = Data.cell v := z
   cases z'⟩
 keep := fun i h h' st k => k it (by simp) _ st
 item := by
  intro X hP hw hK hc i pins s σ H E I hf st hg
  subst hP hw hK
  obtain ⟨f0, f1, f2, f3, f4, f5⟩ := hf it (by simp)
  have W := Walks.range (prog := X.prog) (w := X.w) (I.ok.hd hc) it lo 1 n
  refine W.item i s _ _ hg st fun v h' tk hv st' kk => ?_
  obtain ⟨t, rfl⟩ := hv
  have I1 : Inv X pins σ H { s with heap := h', toks := tk } := I.turned (fun b o hb e => kk b o (by simpa using hb) e) f0 f1 f3 f4 f5
  refine ⟨_, rfl, go_of (s := { s with heap := h', toks := tk }) (n := "range_iterator") st' rfl rfl (by decide) ⟨.int (lo + i), H, I1, ⟨t, ?_⟩, ⟨rfl, rfl⟩, st', fun b hb => (hf b hb).1⟩⟩
  rw [Int.mul_one]
 done := by
  intro X hP hw hK hc i pins s σ H E I hf st hg
  subst hP hw hK
  obtain ⟨f0, f1, f2, f3, f4, f5⟩ := hf it (by simp)
  exact wpAny_pyNext_range_end (I.ok.hd hc) st (by have : n <= i := hg; omega) fun h' eb => ⟨rfl, I.turned (t' := s.toks) (fun b o hb e => eb b o hb e) f0 f1 f3 f4 f5⟩
 self := fun _ _ _ _ _ st h => wpAny_pyIter_rangeiter st h
end L2
namespace L2
open PySem PySem.Spec PyProof.Rows
section
variable {X : Cx} {tg : Expr}
theorem range_it {pins : List (Addr × Obj)} {σ : St} {H : Hp} {s : Shared} {R : It -> Hp -> Prop} {E : Value -> Shared -> Prop} {lo hi : Int} {t u v : Tok} {tk : Nat} (I : Inv X pins σ H s) (h1 : -(2 ^ 62) <= lo) (h2 : lo < 2 ^ 62) (h3 : -(2 ^ 62) <= hi) (h4 : hi < 2 ^ 62)
  (q : R (Itr lo (hi - lo).toNat) H) : wpAny (model X.prog X.w) X.A (pyIter (.ref s.heap.objs.size)) (PIE X pins σ tg R) E { s with heap := s.heap.push { cls := .type "range", data := .fields #[.int lo t, .int hi u, .int 1 v] }, toks := tk } := by
 refine wpAny_pyIter_range (IsRange.new ..) (small_one h1 h2 h3 h4) ?_
 have I1 : Inv X pins σ H { s with heap := s.heap.push { cls := .type "range", data := .fields #[.int lo t, .int hi u, .int 1 v] }, toks := tk } := I.kept fun b o e => Heap.get?_push_of_some _ e
 refine ⟨(s.heap.push { cls := .type "range", data := .fields #[.int lo t, .int hi u, .int 1 v] }).objs.size, [(s.heap.push { cls := .type "range", data := .fields #[.int lo t, .int hi u, .int 1 v] }).objs.size], _, _, H, rfl,
  I1.kept (t' := tk) fun b o e => Heap.get?_push_of_some _ e, turn_range _ lo (hi - lo).toNat, ?_, fun b hb => ?_, q⟩
 ·have e1 : lo + ((0 : Nat) : Int) * 1 = lo := by simp
  have e2 : (((hi - lo).toNat : Nat) : Int) - ((0 : Nat) : Int) = Builtin.Range.rangeSize lo hi 1 := by rw [rangeSize_one]; split <;> omega
  show IsRangeIter _ _ (lo + ((0 : Nat) : Int) * 1) ((((hi - lo).toNat : Nat) : Int) - ((0 : Nat) : Int)) 1
  rw [e1, e2]
  exact Heap.get?_push_size _ rfl
 ·have e : b = (s.heap.push { cls := .type "range", data := .fields #[.int lo t, .int hi u, .int 1 v] }).objs.size := by simpa using hb
  subst e
  exact I1.fpOk (Nat.le_refl _) (I1.hok.fresh (Nat.le_refl _))
def iRng1 (ta : TA) : TI := fun σ H R => ta σ H fun vs H1 => ∃ j : Int, vs = [.int j] /\ -(2 ^ 62) <= j /\ j < 2 ^ 62 /\ R (Itr 0 j.toNat) H1
theorem pi_range1 {a : Expr} {ta : TA} {p pos : Pos} (hg : Gl X "range") (hm : X.mg "range" = none) (ha : PA X [a] ta) (hs : starEach [a] X.env = [(false, eval a X.env)] := by rfl) : PI X tg (.Call (.Name "range" p) [a] [] pos) (iRng1 ta) := by
 intro pins s σ H R I h
 refine Call_ (ld_blt I hg hm boot_range (PyProof.Rows.callWith_type1 (thn (ha pos pins s σ H _ I h) fun us s1 ⟨vs, H1, I1, r1, q1⟩ => ?_) hs rfl))
 obtain ⟨j, e, q1, q2, q⟩ := q1
 subst e
 cases r1 with
 | cons r rr =>
  cases rr
  obtain ⟨t, rfl⟩ := r
  exact call_range_1 (range_it I1 (by omega) (by omega) q1 q2 (by simpa using q))
def tFor (wi : TI) (g : TG) (tb : TS) : TS := fun D σ H => wi σ H fun J H1 => ∃ W : Nat -> Nat -> St -> Hp -> Prop, (∃ m, W 0 m σ H1) /\ ∀ i m σ H, W i m σ H ->
 (J.stop i H /\ D.nx σ H) \/ (J.go i H /\ ∃ N : St -> Hp -> Prop, (∀ σ' H', N σ' H' -> ∃ m', m' < m /\ W (i + 1) m' σ' H') /\ ∀ x H', J.yld i H x H' -> g x σ H' fun σ2 H2 => tb { D with nx := N, ct := N, bk := D.nx } σ2 H2)
def pinsAt (fp : List Addr) (h : Heap) : List (Addr × Obj) := fp.filterMap fun b => (h.get? b).map fun o => (b, o)
theorem mem_pinsAt {fp : List Addr} {h : Heap} {b : Addr} {o : Obj} (hb : b ∈ fp) (e : h.get? b = some o) : (b, o) ∈ pinsAt fp h := List.mem_filterMap.mpr ⟨b, hb, by rw [e]; rfl⟩
theorem of_pinsAt {fp : List Addr} {h : Heap} {p : Addr × Obj} (hp : p ∈ pinsAt fp h) : p.1 ∈ fp /\ h.get? p.1 = some p.2 := by
 obtain ⟨b, hb, e⟩ := List.mem_filterMap.mp hp
 cases q : h.get? b with
 | none => rw [q] at e; cases e
 | some o =>
  rw [q] at e
  have e' : (b, o) = p := Option.some.inj e
  subst e'
  exact ⟨hb, q⟩
theorem Inv.pinned {pins : List (Addr × Obj)} {σ : St} {H : Hp} {s : Shared} {fp : List Addr} (I : Inv X pins σ H s) (hf : ∀ b ∈ fp, FpOk X pins H b) (ho : ∀ b ∈ fp, ∃ o, s.heap.get? b = some o /\ ∀ v, o.data ≠ .cell v) : Inv X (pins ++ pinsAt fp s.heap) σ H s :=
 I.pins_of fun p hp => (List.mem_append.mp hp).elim (fun z => I.pin p (List.mem_append_right _ z)) fun z => by
  obtain ⟨hb, e⟩ := of_pinsAt z
  obtain ⟨f0, f1, f2, _⟩ := hf p.1 hb
  obtain ⟨o, e', d⟩ := ho p.1 hb
  rw [e] at e'; cases e'
  exact ⟨e, f0, f1, f2, d⟩
theorem Inv.unpinned {pins pl : List (Addr × Obj)} {σ : St} {H : Hp} {s : Shared} (I : Inv X (pins ++ pl) σ H s) : Inv X pins σ H s := I.pins_of fun p hp => I.pin p (List.mem_append_right _ (List.mem_append_left _ hp))
theorem ps_for {iter : Expr} {body : List Stmt} {wi : TI} {g : TG} {tb : TS} {pos : Pos} (hp : PassesOwn (model X.prog X.w) X.A X.env X.xe) (hc : X.calm = true) (hi : PI X tg iter wi) (hg : PG X tg g) (hb : PSs X body tb)
  (hs : ∀ x, foldedSetIterable iter X.env x = pure x := by intro _; rfl) : PS X (.For tg iter body [] pos) (tFor wi g tb) := by
 intro pins s σ H D I h
 refine wpAny_For (thn (hi pins s σ H _ I h) fun v s1 h1 => thn h1 fun itv s2 h2 => ?_) hs
 obtain ⟨it, fp, tn, J, H2, e, I2, T, st2, f2, W, ⟨m0, w0⟩, turn⟩ := h2
 subst e
 have stat : ∀ {H' : Hp}, (∀ b ∈ fp, H' b = none) -> ∀ b ∈ fp, FpOk X pins H' b := fun hn b hb => ⟨hn b hb, (f2 b hb).2⟩
 refine codeAny_forLoop_any (fun n s' => ∃ i σ' H', Inv X pins σ' H' s' /\ tn i s'.heap /\ (∀ b ∈ fp, H' b = none) /\ W i n σ' H') ?_ m0 ⟨0, σ, H2, I2, st2, fun b hb => (f2 b hb).1, w0⟩
 rintro n s3 ⟨i, σ3, H3, I3, st3, fr3, w3⟩
 rcases turn i n σ3 H3 w3 with ⟨stop, qn⟩ | ⟨go, N, hN, step⟩
 ·refine wpAny_passesOwn hp (thn (T.done X rfl rfl rfl hc i pins s3 σ3 H3 X.xe I3 (stat fr3) st3 stop) fun r s4 ⟨hr, I4⟩ => ?_)
  subst hr
  exact wpAny_execs_nil ⟨σ3, H3, I4, qn⟩
 ·refine wpAny_passesOwn hp (thn (T.item X rfl rfl rfl hc i pins s3 σ3 H3 X.xe I3 (stat fr3) st3 go) fun r s4 ⟨u, hr, h4⟩ => ?_)
  subst hr
  refine wpAny_passesOwn hp (thn h4 fun _ s5 ⟨x, H5, I5, r5, y5, st5, fr5⟩ => ?_)
  have I5' := I5.pinned (stat fr5) (T.obj _ _ st5)
  refine wpAny_passesOwn hp (thn (hg _ s5 σ3 H5 x u _ I5' r5 (step x H5 y5)) fun _ s6 ⟨σ6, H6, I6, q6⟩ => ?_)
  refine wpAny_passesOwn hp (thn (hb _ s6 σ6 H6 _ I6 q6) fun f s7 q7 => ?_)
  have again : ∀ {σ7 : St} {H7 : Hp}, Inv X (pins ++ pinsAt fp s5.heap) σ7 H7 s7 -> N σ7 H7 -> ∃ m, m < n /\ ∃ i σ' H', Inv X pins σ' H' s7 /\ tn i s7.heap /\ (∀ b ∈ fp, H' b = none) /\ W i m σ' H' := fun {σ7 H7} I7 n7 => by
   obtain ⟨m', hm, w7⟩ := hN σ7 H7 n7
   refine ⟨m', hm, i + 1, σ7, H7, I7.unpinned, T.keep _ _ _ st5 fun b hb o e => (I7.pin (b, o) (List.mem_append_right _ (List.mem_append_right _ (mem_pinsAt hb e)))).1, fun b hb => ?_, w7⟩
   obtain ⟨o, e, d⟩ := T.obj _ _ st5 b hb
   exact (I7.pin (b, o) (List.mem_append_right _ (List.mem_append_right _ (mem_pinsAt hb e)))).2.1
  cases f with
  | next => obtain ⟨σ7, H7, I7, n7⟩ := q7; exact again I7 n7
  | cont => obtain ⟨σ7, H7, I7, n7⟩ := q7; exact again I7 n7
  | brk => obtain ⟨σ7, H7, I7, q7⟩ := q7; exact ⟨σ7, H7, I7.unpinned, q7⟩
  | ret v => obtain ⟨x7, σ7, H7, I7, r7, q7⟩ := q7; exact ⟨x7, σ7, H7, I7.unpinned, r7, q7⟩
end
theorem for_range {lo : Int} {n : Nat} {g : TG} {tb : TS} {D : Ends} {σ : St} {H : Hp} (Pv : Nat -> St -> Hp -> Prop) (h0 : Pv 0 σ H)
  (hs : ∀ i σ H, i < n -> Pv i σ H -> g (.int (lo + i)) σ H fun σ2 H2 => tb { D with nx := Pv (i + 1), ct := Pv (i + 1), bk := D.nx } σ2 H2) (hd : ∀ σ H, Pv n σ H -> D.nx σ H) :
  ∃ W : Nat -> Nat -> St -> Hp -> Prop, (∃ m, W 0 m σ H) /\ ∀ i m σ H, W i m σ H ->
   ((Itr lo n).stop i H /\ D.nx σ H) \/ ((Itr lo n).go i H /\ ∃ N : St -> Hp -> Prop, (∀ σ' H', N σ' H' -> ∃ m', m' < m /\ W (i + 1) m' σ' H') /\ ∀ x H', (Itr lo n).yld i H x H' -> g x σ H' fun σ2 H2 => tb { D with nx := N, ct := N, bk := D.nx } σ2 H2) := by
 refine ⟨fun i m σ H => m = n - i /\ i <= n /\ Pv i σ H, ⟨n, by simp, Nat.zero_le _, h0⟩, ?_⟩
 rintro i m σ H ⟨rfl, hi, p⟩
 by_cases hlt : i < n
 ·refine .inr ⟨hlt, Pv (i + 1), fun σ' H' p' => ⟨n - (i + 1), by omega, rfl, hlt, p'⟩, fun x H' y => ?_⟩
  obtain ⟨e, y⟩ := y
  subst e y
  exact hs i σ _ hlt p
 ·have e : i = n := by omega
  subst e
  exact .inl ⟨Nat.le_refl _, hd σ H p⟩
end L2
namespace L2
open PySem PySem.Spec PyProof.Rows
abbrev R2 := V -> V -> Hp -> VK -> Prop
def OpR (X : Cx) (f : Value -> Value -> Sem Value) (r : R2) : Prop :=
 ∀ (pins : List (Addr × Obj)) (s : Shared) (σ : St) (H : Hp) (x y : V) (v u : Value) (Q : VK), Inv X pins σ H s -> RelV x v -> RelV y u -> r x y H Q ->
  wpAny (model X.prog X.w) X.A (f v u) (EP X pins σ Q) X.xe s
def CallR (X : Cx) (f : Value) (r : List V -> Hp -> VK -> Prop) : Prop :=
 ∀ (pins : List (Addr × Obj)) (s : Shared) (σ : St) (H : Hp) (xs : List V) (us : List Value) (Q : VK), Inv X pins σ H s -> Vals xs us -> r xs H Q ->
  wpAny (model X.prog X.w) X.A (call f us) (EP X pins σ Q) X.xe s
def tOp (r : R2) (ta tb : TE) : TE := fun σ H Q => ta σ H fun x H1 => tb σ H1 fun y H2 => r x y H2 Q
def rI (C : Int -> Int -> Prop) (g : Int -> Int -> V) : R2 := fun x y H Q => ∃ i j, x = .int i /\ y = .int j /\ C i j /\ Q (g i j) H
def rI0 (g : Int -> Int -> V) : R2 := fun x y H Q => ∃ i j, x = .int i /\ y = .int j /\ Q (g i j) H
section
variable {X : Cx} {a b c : Expr} {ta tb tc : TE} {pos : Pos}
theorem binT (ha : PE X a ta) (hb : PE X b tb) {pins : List (Addr × Obj)} {s : Shared} {σ : St} {H : Hp} {R : V -> V -> Hp -> Prop} (I : Inv X pins σ H s)
  (h : ta σ H fun x H1 => tb σ H1 fun y H2 => R x y H2) {Q : Value -> Shared -> Prop} {f : Value -> Value -> Sem Value}
  (hf : ∀ v u s2 x y H2, Inv X pins σ H2 s2 -> RelV x v -> RelV y u -> R x y H2 -> wpAny (model X.prog X.w) X.A (f v u) Q X.xe s2) :
  wpAny (model X.prog X.w) X.A (eval a X.env) (fun v s₁ => wpAny (model X.prog X.w) X.A (eval b X.env) (fun u s₂ => wpAny (model X.prog X.w) X.A (f v u) Q X.xe s₂) X.xe s₁) X.xe s := by
 refine thn (ha pins s σ H _ I h) fun v s1 ⟨x, H1, I1, r1, q1⟩ => ?_
 refine thn (hb pins s1 σ H1 _ I1 q1) fun u s2 ⟨y, H2, I2, r2, q2⟩ => ?_
 exact hf v u s2 x y H2 I2 r1 r2 q2
theorem pe_op {op : Operator} {r : R2} (ho : OpR X (binaryOp op) r) (ha : PE X a ta) (hb : PE X b tb) : PE X (.BinOp a op b pos) (tOp r ta tb) := by
 intro pins s σ H Q I h
 exact wpAny_BinOp (binT ha hb I h fun v u s2 x y H2 I2 rx ry q => ho pins s2 σ H2 x y v u Q I2 rx ry q)
theorem opI {f : Value -> Value -> Sem Value} {C : Int -> Int -> Prop} {g : Int -> Int -> Int}
  (rule : ∀ (i j : Int) (t u : Tok) (s : Shared) (Q : Value -> Shared -> Prop) (E : Value -> Shared -> Prop), C i j -> Q (.int (g i j) s.toks) { s with toks := s.toks + 1 } -> wpAny (model X.prog X.w) X.A (f (.int i t) (.int j u)) Q E s) :
  OpR X f (rI C fun i j => .int (g i j)) := by
 intro pins s σ H x y v u Q I rx ry h
 obtain ⟨i, j, rfl, rfl, hc, q⟩ := h
 obtain ⟨t, rfl⟩ := rx
 obtain ⟨t', rfl⟩ := ry
 exact rule i j t t' s _ _ hc ⟨.int (g i j), H, I.tok _, ⟨_, rfl⟩, q⟩
theorem opI0 {f : Value -> Value -> Sem Value} {g : Int -> Int -> Int}
  (rule : ∀ (i j : Int) (t u : Tok) (s : Shared) (Q : Value -> Shared -> Prop) (E : Value -> Shared -> Prop), Q (.int (g i j) s.toks) { s with toks := s.toks + 1 } -> wpAny (model X.prog X.w) X.A (f (.int i t) (.int j u)) Q E s) :
  OpR X f (rI0 fun i j => .int (g i j)) := by
 intro pins s σ H x y v u Q I rx ry h
 obtain ⟨i, j, rfl, rfl, q⟩ := h
 obtain ⟨t, rfl⟩ := rx
 obtain ⟨t', rfl⟩ := ry
 exact rule i j t t' s _ _ ⟨.int (g i j), H, I.tok _, ⟨_, rfl⟩, q⟩
theorem opB0 {f : Value -> Value -> Sem Value} {g : Int -> Int -> Bool}
  (rule : ∀ (i j : Int) (t u : Tok) (s : Shared) (Q : Value -> Shared -> Prop) (E : Value -> Shared -> Prop), Q (.bool (g i j)) s -> wpAny (model X.prog X.w) X.A (f (.int i t) (.int j u)) Q E s) :
  OpR X f (rI0 fun i j => .bl (g i j)) := by
 intro pins s σ H x y v u Q I rx ry h
 obtain ⟨i, j, rfl, rfl, q⟩ := h
 obtain ⟨t, rfl⟩ := rx
 obtain ⟨t', rfl⟩ := ry
 exact rule i j t t' s _ _ ⟨.bl (g i j), H, I, rfl, q⟩
def CDiv (i j : Int) : Prop := 0 < j /\ j < 1073741824
def CPow (i j : Int) : Prop := 0 <= j /\ j <= 1000000 /\ i.natAbs < 2 ^ 64
def CMul (i j : Int) : Prop := (-(2 ^ 64) < i /\ i < 2 ^ 64) \/ (-(2 ^ 64) < j /\ j < 2 ^ 64)
theorem CMul.ok {i j : Int} (h : CMul i j) : IntMulOk i j := by
 rcases h with ⟨h1, h2⟩ | ⟨h1, h2⟩
 ·exact .of_left (intBits_le_64 h1 h2)
 ·exact .of_right (intBits_le_64 h1 h2)
theorem op_add : OpR X (binaryOp .Add) (rI0 fun i j => .int (i + j)) := opI0 fun _ _ _ _ _ _ _ q => add_int q
theorem op_sub : OpR X (binaryOp .Sub) (rI0 fun i j => .int (i - j)) := opI0 fun _ _ _ _ _ _ _ q => sub_int q
theorem op_mul : OpR X (binaryOp .Mult) (rI CMul fun i j => .int (i * j)) := opI fun _ _ _ _ _ _ _ hc q => mul_int q hc.ok
theorem op_fdiv : OpR X (binaryOp .FloorDiv) (rI CDiv fun i j => .int (i / j)) := opI fun i j _ _ _ _ _ hc q => by
 have h1 : (0 : Int) < j := hc.1
 have h2 : j < 1073741824 := hc.2
 exact floordiv_int (by omega) (by rw [Int.fdiv_eq_ediv_of_nonneg i (by omega)]; exact q) (.inl (PyProof.noPylong_small (by omega)))
theorem op_mod : OpR X (binaryOp .Mod) (rI (fun _ j => 0 < j) fun i j => .int (i % j)) := opI fun i j _ _ _ _ _ hc q => by
 have h1 : (0 : Int) < j := hc
 exact mod_int' (by omega) (by rw [Int.fmod_eq_emod_of_nonneg i (by omega)]; exact q)
theorem op_pow : OpR X (binaryOp .Pow) (rI CPow fun i j => .int (i ^ j.toNat)) := opI fun _ _ _ _ _ _ _ hc q => pow_int_small hc.1 hc.2.1 hc.2.2 q
end
def scal : V -> V -> Bool
 | .non, .non => true | .non, .int _ => true | .int _, .non => true | .non, .bl _ => true | .bl _, .non => true | .non, .str _ => true | .str _, .non => true
 | .int _, .int _ => true | .bl _, .bl _ => true | .str _, .str _ => true | .byt _, .byt _ => true
 | .int _, .str _ => true | .str _, .int _ => true | .bl _, .str _ => true | .str _, .bl _ => true
 | _, _ => false
def rEq : R2 := fun x y H Q => scal x y = true /\ Q (.bl (decide (x = y))) H
def rNe : R2 := fun x y H Q => scal x y = true /\ Q (.bl (!decide (x = y))) H
theorem dec_int {i j : Int} : decide (V.int i = V.int j) = (i == j) := by
 rw [Bool.eq_iff_iff]
 simp
theorem dec_bl {i j : Bool} : decide (V.bl i = V.bl j) = (i == j) := by
 rw [Bool.eq_iff_iff]
 simp
theorem dec_str {i j : Str} : decide (V.str i = V.str j) = (i == j) := by
 rw [Bool.eq_iff_iff]
 simp
theorem dec_byt {i j : Array UInt8} : decide (V.byt i = V.byt j) = (i.toList == j.toList) := by
 rw [Bool.eq_iff_iff]
 cases i
 cases j
 simp
section
variable {X : Cx} {a b c : Expr} {ta tb tc : TE} {pos : Pos}
theorem fin_bl {pins : List (Addr × Obj)} {σ : St} {H : Hp} {s : Shared} {Q : VK} {k k' : Bool} (I : Inv X pins σ H s) (q : Q (.bl k) H) (e : k = k') : EP X pins σ Q (.bool k') s := by
 subst e
 exact ⟨.bl k, H, I, rfl, q⟩
theorem op_eq : OpR X (compareOp .Eq) rEq := by
 intro pins s σ H x y v u Q I rx ry h
 obtain ⟨hs, q⟩ := h
 cases x with
 | non =>
  cases rx
  cases y with
  | non => cases ry; exact PySem.EqNone.eq_none_none (fin_bl I q (by simp))
  | bl j => cases ry; exact PySem.EqNone.eq_none_bool (fin_bl I q (by simp))
  | int j => obtain ⟨t', rfl⟩ := ry; exact PySem.EqNone.eq_none_int (fin_bl I q (by simp))
  | str j => obtain ⟨t', rfl⟩ := ry; exact PySem.EqNone.eq_none_str (fin_bl I q (by simp))
  | _ => exact absurd (show false = true from hs) Bool.false_ne_true
 | bl i =>
  cases rx
  cases y with
  | non => cases ry; exact PySem.EqNone.eq_bool_none (fin_bl I q (by simp))
  | bl j => cases ry; exact eq_bool (fin_bl I q dec_bl)
  | str j => obtain ⟨t', rfl⟩ := ry; exact PySem.EqMixed.eq_bool_str (fin_bl I q (by simp))
  | _ => exact absurd (show false = true from hs) Bool.false_ne_true
 | int i =>
  obtain ⟨t, rfl⟩ := rx
  cases y with
  | non => cases ry; exact PySem.EqNone.eq_int_none (fin_bl I q (by simp))
  | int j => obtain ⟨t', rfl⟩ := ry; exact eq_int (fin_bl I q dec_int)
  | str j => obtain ⟨t', rfl⟩ := ry; exact PySem.EqMixed.eq_int_str (fin_bl I q (by simp))
  | _ => exact absurd (show false = true from hs) Bool.false_ne_true
 | str i =>
  obtain ⟨t, rfl⟩ := rx
  cases y with
  | non => cases ry; exact PySem.EqNone.eq_str_none (fin_bl I q (by simp))
  | bl j => cases ry; exact PySem.EqMixed.eq_str_bool (fin_bl I q (by simp))
  | int j => obtain ⟨t', rfl⟩ := ry; exact PySem.EqMixed.eq_str_int (fin_bl I q (by simp))
  | str j => obtain ⟨t', rfl⟩ := ry; exact eq_str (fin_bl I q dec_str)
  | _ => exact absurd (show false = true from hs) Bool.false_ne_true
 | byt i =>
  obtain ⟨t, rfl⟩ := rx
  cases y with
  | byt j => obtain ⟨t', rfl⟩ := ry; exact PySem.W.eq_bytes (fin_bl I q dec_byt)
  | _ => exact absurd (show false = true from hs) Bool.false_ne_true
 | _ => cases y <;> exact absurd (show false = true from hs) Bool.false_ne_true
theorem op_ne : OpR X (compareOp .NotEq) rNe := by
 intro pins s σ H x y v u Q I rx ry h
 obtain ⟨hs, q⟩ := h
 cases x with
 | non =>
  cases rx
  cases y with
  | non => cases ry; exact PySem.EqNone.ne_none_none (fin_bl I q (by simp))
  | bl j => cases ry; exact PySem.EqNone.ne_none_bool (fin_bl I q (by simp))
  | int j => obtain ⟨t', rfl⟩ := ry; exact PySem.EqNone.ne_none_int (fin_bl I q (by simp))
  | str j => obtain ⟨t', rfl⟩ := ry; exact PySem.EqNone.ne_none_str (fin_bl I q (by simp))
  | _ => exact absurd (show false = true from hs) Bool.false_ne_true
 | bl i =>
  cases rx
  cases y with
  | non => cases ry; exact PySem.EqNone.ne_bool_none (fin_bl I q (by simp))
  | bl j => cases ry; exact ne_bool (fin_bl I q (congrArg not dec_bl))
  | str j => obtain ⟨t', rfl⟩ := ry; exact PySem.EqMixed.ne_bool_str (fin_bl I q (by simp))
  | _ => exact absurd (show false = true from hs) Bool.false_ne_true
 | int i =>
  obtain ⟨t, rfl⟩ := rx
  cases y with
  | non => cases ry; exact PySem.EqNone.ne_int_none (fin_bl I q (by simp))
  | int j => obtain ⟨t', rfl⟩ := ry; exact ne_int (fin_bl I q (congrArg not dec_int))
  | str j => obtain ⟨t', rfl⟩ := ry; exact PySem.EqMixed.ne_int_str (fin_bl I q (by simp))
  | _ => exact absurd (show false = true from hs) Bool.false_ne_true
 | str i =>
  obtain ⟨t, rfl⟩ := rx
  cases y with
  | non => cases ry; exact PySem.EqNone.ne_str_none (fin_bl I q (by simp))
  | bl j => cases ry; exact PySem.EqMixed.ne_str_bool (fin_bl I q (by simp))
  | int j => obtain ⟨t', rfl⟩ := ry; exact PySem.EqMixed.ne_str_int (fin_bl I q (by simp))
  | str j => obtain ⟨t', rfl⟩ := ry; exact ne_str (fin_bl I q (congrArg not dec_str))
  | _ => exact absurd (show false = true from hs) Bool.false_ne_true
 | byt i =>
  obtain ⟨t, rfl⟩ := rx
  cases y with
  | byt j => obtain ⟨t', rfl⟩ := ry; exact PySem.W.ne_bytes (fin_bl I q (congrArg not dec_byt))
  | _ => exact absurd (show false = true from hs) Bool.false_ne_true
 | _ => cases y <;> exact absurd (show false = true from hs) Bool.false_ne_true
theorem op_lt : OpR X (compareOp .Lt) (rI0 fun i j => .bl (decide (i < j))) := opB0 fun _ _ _ _ _ _ _ q => lt_int q
theorem op_le : OpR X (compareOp .LtE) (rI0 fun i j => .bl (decide (i <= j))) := opB0 fun _ _ _ _ _ _ _ q => le_int q
theorem op_gt : OpR X (compareOp .Gt) (rI0 fun i j => .bl (decide (j < i))) := opB0 fun _ _ _ _ _ _ _ q => gt_int q
theorem op_ge : OpR X (compareOp .GtE) (rI0 fun i j => .bl (decide (j <= i))) := opB0 fun _ _ _ _ _ _ _ q => ge_int q
theorem op_in_str : OpR X (compareOp .In) (fun x y H Q => ∃ i j, x = .str i /\ y = .str j /\ Q (.bl (!(Builtin.Str.occurrences j i 0 j.length 1).isEmpty)) H) := by
 intro pins s σ H x y v u Q I rx ry h
 obtain ⟨i, j, rfl, rfl, q⟩ := h
 obtain ⟨t, rfl⟩ := rx
 obtain ⟨t', rfl⟩ := ry
 exact in_str (fin_bl I q rfl)
theorem op_notin_str : OpR X (compareOp .NotIn) (fun x y H Q => ∃ i j, x = .str i /\ y = .str j /\ Q (.bl (!(!(Builtin.Str.occurrences j i 0 j.length 1).isEmpty))) H) := by
 intro pins s σ H x y v u Q I rx ry h
 obtain ⟨i, j, rfl, rfl, q⟩ := h
 obtain ⟨t, rfl⟩ := rx
 obtain ⟨t', rfl⟩ := ry
 exact notIn_str (fin_bl I q rfl)
theorem nomark (b : Expr) {op : CmpOp} (h : op ≠ .In := by decide) (h2 : op ≠ .NotIn := by decide) : behindInMarks op b = false := by
 have e1 : (op == CmpOp.In) = false := by cases op <;> first | rfl | exact absurd rfl h
 have e2 : (op == CmpOp.NotIn) = false := by cases op <;> first | rfl | exact absurd rfl h2
 cases b <;> simp [behindInMarks, e1, e2]
theorem pe_cmpR {op : CmpOp} {r : R2} (ho : OpR X (compareOp op) r) (ha : PE X a ta) (hb : PE X b tb) (hm : behindInMarks op b = false) : PE X (.Compare a [op] [b] pos) (tOp r ta tb) := by
 intro pins s σ H Q I h
 exact wpAny_Compare1 (binT ha hb I h fun v u s2 x y H2 I2 rx ry q => ho pins s2 σ H2 x y v u Q I2 rx ry q) hm
def tTest (t : TE) : TT := fun σ H Q => t σ H fun x H' => ∃ k, x = .bl k /\ Q k H'
theorem pt_cmpR {op : CmpOp} {r : R2} (ho : OpR X (compareOp op) r) (ha : PE X a ta) (hb : PE X b tb) (hm : behindInMarks op b = false) : PT X (.Compare a [op] [b] pos) (tTest (tOp r ta tb)) := by
 intro pins s σ H Q I h
 refine wpAny_isTrue_Compare1 (thn (ha pins s σ H _ I h) fun v s1 ⟨x, H1, I1, r1, q1⟩ => thn (hb pins s1 σ H1 _ I1 q1) fun u s2 ⟨y, H2, I2, r2, q2⟩ =>
  thn (ho pins s2 σ H2 x y v u _ I2 r1 r2 q2) fun c s3 ⟨z, H3, I3, r3, k, e, q3⟩ => ?_) hm
 subst e
 cases r3
 exact wpAny_truthy_bool ⟨H3, I3, q3⟩
def tChain (r r' : R2) (ta tb tc : TE) : TE := fun σ H Q => ta σ H fun x H1 => tb σ H1 fun y H2 => r x y H2 fun z H3 => ∃ k, z = .bl k /\
 (if k = true then tc σ H3 fun w' H4 => r' y w' H4 Q else Q (.bl false) H3)
theorem pt_chain {op op' : CmpOp} {r r' : R2} (ho : OpR X (compareOp op) r) (ho' : OpR X (compareOp op') r') (ha : PE X a ta) (hb : PE X b tb) (hc : PE X c tc)
  (hm : lastMarks [op, op'] [b, c] = false := by with_unfolding_all rfl) : PT X (.Compare a [op, op'] [b, c] pos) (tTest (tChain r r' ta tb tc)) := by
 intro pins s σ H Q I h
 refine isTrue_chain (thn (ha pins s σ H _ I h) fun v s1 ⟨x, H1, I1, r1, q1⟩ => test_link (thn (hb pins s1 σ H1 _ I1 q1) fun u s2 ⟨y, H2, I2, r2, q2⟩ =>
  thn (ho pins s2 σ H2 x y v u _ I2 r1 r2 q2) fun d s3 ⟨z, H3, I3, r3, k, e, q3⟩ => ?_)) hm
 subst e
 cases r3
 refine wpAny_truthy_bool ?_
 cases k with
 | false =>
  obtain ⟨k', e', q'⟩ := q3
  cases e'
  exact ite_ff ⟨H3, I3, q'⟩
 | true =>
  refine ite_tt (test_last (thn (hc pins s3 σ H3 _ I3 q3) fun w' s4 ⟨z', H4, I4, r4, q4⟩ => thn (ho' pins s4 σ H4 y z' u w' _ I4 r2 r4 q4) fun d' s5 ⟨z2, H5, I5, r5, k2, e2, q5⟩ => ?_))
  subst e2
  cases r5
  exact wpAny_truthy_bool ⟨H5, I5, q5⟩
theorem line63 : (sizeLine : Nat) < 2 ^ 63 := by rw [sizeLine_eq]; decide
theorem op_add_str : OpR X (binaryOp .Add) (fun x y H Q => ∃ i j, x = .str i /\ y = .str j /\ i.length + j.length <= sizeLine /\ Q (.str (i ++ j)) H) := by
 intro pins s σ H x y v u Q I rx ry h
 obtain ⟨i, j, rfl, rfl, hz, q⟩ := h
 obtain ⟨t, rfl⟩ := rx
 obtain ⟨t', rfl⟩ := ry
 exact add_str (fun t' tk => ⟨.str (i ++ j), H, I.tok _, ⟨_, rfl⟩, q⟩) hz
theorem vals1 {x : V} {us : List Value} (r : Vals [x] us) : ∃ u, us = [u] /\ RelV x u := by
 cases r with
 | cons r1 r2 => cases r2; exact ⟨_, rfl, r1⟩
theorem vals2 {x y : V} {us : List Value} (r : Vals [x, y] us) : ∃ u w', us = [u, w'] /\ RelV x u /\ RelV y w' := by
 cases r with
 | cons r1 r2 =>
  cases r2 with
  | cons r3 r4 => cases r4; exact ⟨_, _, rfl, r1, r3⟩
theorem call_max2 (hc : X.calm = true) : CallR X (.builtin "max") (fun xs H Q => ∃ i j, xs = [.int i, .int j] /\ Q (.int (if j > i then j else i)) H) := by
 intro pins s σ H xs us Q I r h
 obtain ⟨i, j, rfl, q⟩ := h
 obtain ⟨u, w', rfl, ⟨t, rfl⟩, ⟨t', rfl⟩⟩ := vals2 r
 refine max_two_ints (I.ok.hd hc) fun h' tk k => ⟨_, H, I.kept k, ?_, q⟩
 by_cases hj : j > i
 ·rw [if_pos hj, if_pos hj]; exact ⟨_, rfl⟩
 ·rw [if_neg hj, if_neg hj]; exact ⟨_, rfl⟩
theorem call_min2 (hc : X.calm = true) : CallR X (.builtin "min") (fun xs H Q => ∃ i j, xs = [.int i, .int j] /\ Q (.int (if j < i then j else i)) H) := by
 intro pins s σ H xs us Q I r h
 obtain ⟨i, j, rfl, q⟩ := h
 obtain ⟨u, w', rfl, ⟨t, rfl⟩, ⟨t', rfl⟩⟩ := vals2 r
 refine min_two_ints (I.ok.hd hc) fun h' tk k => ⟨_, H, I.kept k, ?_, q⟩
 by_cases hj : j < i
 ·rw [if_pos hj, if_pos hj]; exact ⟨_, rfl⟩
 ·rw [if_neg hj, if_neg hj]; exact ⟨_, rfl⟩
theorem call_str_int : CallR X (.type "str") (fun xs H Q => ∃ i, xs = [.int i] /\ i.natAbs.log2 < 1920 /\ Q (.str (toString i)) H) := by
 intro pins s σ H xs us Q I r h
 obtain ⟨i, rfl, hz, q⟩ := h
 obtain ⟨u, rfl, t, rfl⟩ := vals1 r
 exact PySem.P.str_of_int hz ⟨.str _, H, I.tok _, ⟨_, rfl⟩, q⟩
end
end L2
namespace L2
open PySem PySem.Spec PyProof.Rows
structure ObjM (h : Heap) (x dx C : Addr) (mA : Str -> Option Value) : Prop where
 obj : h.get? x = some (PySem.W.instObj C dx)
 ns : h.Ns1 dx mA
 ne : dx ≠ x
theorem lookIn_ns {h : Heap} {dx : Addr} {mA : Str -> Option Value} (n : h.Ns1 dx mA) : ∃ od, h.get? dx = some od /\ ∀ name, PySem.W.lookIn name od = some (mA name) := by
 obtain ⟨o, es, ep, ho, hd, hk, _, hm⟩ := n
 refine ⟨o, ho, fun name => ?_⟩
 have e := hm name
 unfold nsFind findBy at e
 rw [<- Array.find?_toList] at e
 unfold PySem.W.lookIn
 rw [hd]
 dsimp only
 split
 ·rename_i y q
  rw [q] at e
  exact congrArg some e
 ·rename_i q
  rw [q] at e
  have a : es.toList.any (·.refKey) = false := by
   rw [List.any_eq_false]
   intro y hy
   obtain ⟨z, t, hkey⟩ := hk y (Array.mem_toList_iff.mp hy)
   simp [DictEntry.refKey, hkey]
  have a' : ¬ es.toList.any (·.refKey) = true := by rw [a]; exact Bool.false_ne_true
  rw [if_neg a']
  exact congrArg some e
theorem ObjM.look {h : Heap} {x dx C : Addr} {mA : Str -> Option Value} (I : ObjM h x dx C mA) : ∃ od, PySem.W.InstAt h x (PySem.W.instObj C dx) C (some od) /\ ∀ name, PySem.W.lookIn name od = some (mA name) :=
 let ⟨od, ho, hl⟩ := lookIn_ns I.ns
 ⟨od, ⟨I.obj, rfl, rfl, ho⟩, hl⟩
section
variable {prog : Program} {w : World} {A : Around} {E : Value -> Shared -> Prop} {s : Shared} {K : PySem.W.Frag} {x dx C f : Addr} {mA : Str -> Option Value} {name : Str} {v : Value}
end
theorem handed_of {v : V} {u : Value} (r : RelV v u) : PySem.W.handedIn u = true := by
 cases v with
 | non => cases (show u = Value.none from r); rfl
 | bl b => cases (show u = Value.bool b from r); rfl
 | int i => obtain ⟨t, e⟩ := (show ∃ t, u = Value.int i t from r); cases e; rfl
 | str x => obtain ⟨t, e⟩ := (show ∃ t, u = Value.str x t from r); cases e; rfl
 | byt b => obtain ⟨t, e⟩ := (show ∃ t, u = Value.bytes b t from r); cases e; rfl
 | flt b => obtain ⟨t, e⟩ := (show ∃ t, u = Value.float b t from r); cases e; rfl
 | ref a => cases (show u = Value.ref a from r); rfl
 | ty n => cases (show u = Value.type n from r); rfl
section
variable {P : Program} {w : World} {H H' : Hp} {h h' : Heap} {a C dx : Addr} {fs fs' : List (Str × V)}
theorem ins_get (hok : HOk P w H h) (e : H a = some (.ins C dx fs)) : ∃ mA, ObjM h a dx C mA /\ (∀ f, RelO (fs.lookup f) (mA f)) /\ PySem.Within mA (fs.map (·.1)) /\ fs.length <= 1000 /\ H dx = some (.own a) := by
 obtain ⟨d, z, ne, ob, mA, n, r, q⟩ := (show ObjOk P w H h a (.ins C dx fs) from hok a _ e)
 exact ⟨mA, ⟨ob, n, ne⟩, r, q, z, d⟩
end
structure Cls (K : PySem.W.Frag) (C : Addr) : Prop where
 pg : PySem.W.plainGet K C Str.empty = true
 hd : PySem.W.hasDictIn K C = true
 po : PySem.W.plainOver K C = true
 sa : PySem.W.findIn K (.ref C) "__setattr__" = some (some (.builtin "object.__setattr__"))
theorem Cls.get {K : PySem.W.Frag} {C : Addr} (c : Cls K C) (f : Str) : PySem.W.plainGet K C f = true := c.pg
structure Con (K : PySem.W.Frag) (C : Addr) (f : Str) (v : V) (u : Value) : Prop where
 at_ : PySem.W.findIn K (.ref C) f = some (some u)
 rel : RelV v u
 get : PySem.W.specialIn K u "__get__" = some none
 cp : PySem.W.copiedNames.contains f = false
structure Meth (K : PySem.W.Frag) (C : Addr) (m : Str) (f : Addr) : Prop where
 at_ : PySem.W.findIn K (.ref C) m = some (some (.ref f))
 fn : PySem.W.isFn K (.ref f) = true
 kp : PySem.W.keepIn K (.ref f) = true
section
variable {X : Cx} {pins : List (Addr × Obj)} {σ : St} {H : Hp} {s : Shared} {a C dx : Addr} {fs : List (Str × V)} {f : Str} {v : V} {A : Around} {E : Value -> Shared -> Prop}
theorem attr_of {prog : Program} {w : World} {env : Env} {e : Expr} {f : Str} {pos : Pos} {s : Shared} {Q : Value -> Shared -> Prop} (hb : attributeBase e f env (eval e env) = eval e env)
  (h : wpAny (model prog w) A (eval e env) (fun o s₁ => wpAny (model prog w) A (getAttr o f true) Q E s₁) E s) : wpAny (model prog w) A (eval (.Attribute e f pos) env) Q E s :=
 Attribute_any_ h (by rw [arm_eval_Attribute, hb])
end
section
variable {X : Cx} {o e value : Expr} {f : Str} {pos pos' tpos : Pos} {ta tv : TE}
end
section
variable {X : Cx} {pins : List (Addr × Obj)} {σ : St} {H : Hp} {s : Shared} {A : Around} {E : Value -> Shared -> Prop} {Q : Value -> Shared -> Prop} {c : Value} {b : Bool}
inductive TyOf (K : PySem.W.Frag) (H : Hp) : V -> Value -> Prop where
 | non : TyOf K H .non (.type "NoneType")
 | bl (x : Bool) : TyOf K H (.bl x) (.type "bool")
 | int (i : Int) : TyOf K H (.int i) (.type "int")
 | str (x : Str) : TyOf K H (.str x) (.type "str")
 | flt (x : UInt64) : TyOf K H (.flt x) (.type "float")
 | lst {a : Addr} {xs : List V} (e : H a = some (.lst xs)) : TyOf K H (.ref a) (.type "list")
 | frz {a : Addr} {o : Obj} {xs : List V} (e : H a = some (.frz o (.lst xs))) : TyOf K H (.ref a) (.type "list")
 | tup {a : Addr} {xs : List V} (e : H a = some (.tup xs)) : TyOf K H (.ref a) (.type "tuple")
 | dK {a : Addr} {kvs : List (Key × V)} (e : H a = some (.dK kvs)) : TyOf K H (.ref a) (.type "dict")
 | dT {a : Addr} {kvs : List (List Key × V)} (e : H a = some (.dT kvs)) : TyOf K H (.ref a) (.type "dict")
 | ins {a C dx : Addr} {fs : List (Str × V)} (e : H a = some (.ins C dx fs)) (cl : Cls K C) (ha : PySem.W.findIn K (.ref C) "__class__" = some (some (.builtin "object.__class__")))
   (hn : PySem.W.specialIn K (.builtin "object.__class__") "__get__" = some (some (.builtin "getset_descriptor.__get__"))) (htk : PySem.W.takesIn K (.builtin "object.__class__") = some true)
   (hm : PySem.W.mroIn K C (.type "object") = some true) : TyOf K H (.ref a) (.ref C)
theorem isinst_ok {x : V} {u t : Value} (I : Inv X pins σ H s) (rx : RelV x u) (ty : TyOf X.K H x t) (e : PySem.W.kitOne X.K t c = some b) (h : ∀ tk, Q (.bool b) { s with toks := tk }) :
  wpAny (model X.prog X.w) A (call (.builtin "isinstance") [u, c]) Q E s := by
 cases ty with
 | non => cases (show u = Value.none from rx); exact PySem.W.kia_one PySem.W.kitx_none I.kIn True.intro e (fun z => nomatch z) h
 | bl y => cases (show u = Value.bool y from rx); exact PySem.W.kia_one PySem.W.kitx_bool I.kIn True.intro e (fun z => nomatch z) h
 | int i => obtain ⟨t, q⟩ := (show ∃ t, u = Value.int i t from rx); cases q; exact PySem.W.kia_one PySem.W.kitx_int I.kIn True.intro e (fun z => nomatch z) h
 | str y => obtain ⟨t, q⟩ := (show ∃ t, u = Value.str y t from rx); cases q; exact PySem.W.kia_one PySem.W.kitx_str I.kIn True.intro e (fun z => nomatch z) h
 | flt y => obtain ⟨t, q⟩ := (show ∃ t, u = Value.float y t from rx); cases q; exact PySem.W.kia_one PySem.W.kitx_float I.kIn True.intro e (fun z => nomatch z) h
 | @lst a xs ea =>
  cases (show u = Value.ref a from rx)
  obtain ⟨_, _, n, _, h1⟩ := (show ObjOk X.prog X.w H s.heap a (.lst xs) from I.hok a _ ea)
  exact PySem.W.kia_one PySem.W.kitx_list I.kIn ⟨_, h1, rfl⟩ e (fun z => nomatch z) h
 | @frz a ob xs ea =>
  cases (show u = Value.ref a from rx)
  obtain ⟨_, _, _, n, _, h1⟩ := (show ObjOk X.prog X.w H s.heap a (.frz ob (.lst xs)) from I.hok a _ ea)
  exact PySem.W.kia_one PySem.W.kitx_list I.kIn ⟨_, h1, rfl⟩ e (fun z => nomatch z) h
 | @tup a xs ea =>
  cases (show u = Value.ref a from rx)
  obtain ⟨_, _, _, p⟩ := (show ObjOk X.prog X.w H s.heap a (.tup xs) from I.hok a _ ea)
  obtain ⟨o, h1, h2, _⟩ := p
  exact PySem.W.kia_one PySem.W.kitx_tuple I.kIn ⟨o, h1, h2⟩ e (fun z => nomatch z) h
 | @dK a kvs ea =>
  cases (show u = Value.ref a from rx)
  obtain ⟨_, _, vs, _, p⟩ := (show ObjOk X.prog X.w H s.heap a (.dK kvs) from I.hok a _ ea)
  obtain ⟨o, es, ep, h1, h2, _⟩ := p
  exact PySem.W.kia_one PySem.W.kitx_dict I.kIn ⟨o, h1, h2.1⟩ e (fun z => nomatch z) h
 | @dT a kvs ea =>
  cases (show u = Value.ref a from rx)
  obtain ⟨_, _, xs, _, o, es, ep, h1, h2, _⟩ := (show ObjOk X.prog X.w H s.heap a (.dT kvs) from I.hok a _ ea)
  exact PySem.W.kia_one PySem.W.kitx_dict I.kIn ⟨o, h1, h2.1⟩ e (fun z => nomatch z) h
 | @ins a C dx fs ea cl ha hn htk hm =>
  cases (show u = Value.ref a from rx)
  obtain ⟨mA, O, _⟩ := ins_get I.hok ea
  obtain ⟨od, J, _⟩ := O.look
  exact PySem.W.kia_one (PySem.W.kitx_own (cl.get _) cl.hd ha hn htk hm) I.kIn J e (fun z => nomatch z) h
end
end L2
namespace L2
open PySem PySem.Spec PyProof.Rows
structure Room (k : Nat) (A : Around) : Prop where
 hd : A.handled = none
 dp : A.depth + 3 * k + 5 < recursionLimit
 un : A.units + 16 * k + 200 < cLine
 gd : A.guards = some []
theorem Room.mono {j k : Nat} {A : Around} (r : Room k A) (h : j <= k) : Room j A := ⟨r.hd, by have := r.dp; omega, by have := r.un; omega, r.gd⟩
theorem Room.deeper {k : Nat} {A : Around} (r : Room (k + 1) A) (env : Env) : Room k (A.deeper env) :=
 ⟨r.hd, by have := r.dp; show A.depth + 1 + 3 * k + 5 < _; omega, by have := r.un; show A.units + 3 + 16 * k + 200 < _; omega, r.gd⟩
theorem make_depth {A : Around} {C : Addr} {us : List Value} {kw : List (Str × Value)} : (A.under (.builtin "type.__call__" ⟨.ref C :: us, kw⟩)).depth = A.depth + 1 := by
 first | rfl | simp [Around.under, Code.weight, Code.isCreation, Code.isGuard, Code.isCaller, Code.frames, Code.isFrame, guardIds]
theorem make_units {A : Around} {C : Addr} {us : List Value} {kw : List (Str × Value)} : (A.under (.builtin "type.__call__" ⟨.ref C :: us, kw⟩)).units = A.units + 1 := by
 first | rfl | simp [Around.under, Code.cUnits, Code.frames, Code.isFrame]
theorem make_guards {A : Around} {C : Addr} {us : List Value} {kw : List (Str × Value)} : (A.under (.builtin "type.__call__" ⟨.ref C :: us, kw⟩)).guards = A.guards := by
 first | rfl | simp [Around.under, Code.guards, Code.isGuard, guardIds, pushGuards]
theorem Room.make {k : Nat} {A : Around} (r : Room (k + 1) A) (C : Addr) (us : List Value) (kw : List (Str × Value)) : Room k (A.under (.builtin "type.__call__" ⟨.ref C :: us, kw⟩)) :=
 ⟨r.hd, by have := r.dp; rw [make_depth]; omega, by have := r.un; rw [make_units]; omega, make_guards.trans r.gd⟩
theorem Room.depth {k : Nat} {A : Around} (r : Room k A) : A.depth < recursionLimit := by have := r.dp; omega
def tNil : TA := fun _ H Q => Q [] H
def tCons (ta : TE) (tr : TA) : TA := fun σ H Q => ta σ H fun x H1 => tr σ H1 fun xs H2 => Q (x :: xs) H2
section
variable {X : Cx} {e : Expr} {es : List Expr} {te : TE} {t : TA} {pos : Pos}
theorem pa_nil : PA X [] tNil := fun _ _ _ _ H Q I h => Calls.spliced_nil ⟨[], H, I, .nil, h⟩
theorem pa_cons (ha : PE X e te) (hr : PA X es t) (hs : starEach (e :: es) X.env = (false, eval e X.env) :: starEach es X.env := by rfl) : PA X (e :: es) (tCons te t) := by
 intro pos pins s σ H Q I h
 rw [hs]
 show wpAny _ _ (spliced ((false, eval e X.env) :: backTo pos (starEach es X.env))) _ _ s
 refine Calls.spliced_cons (thn (ha pins s σ H _ I h) fun u s1 ⟨x, H1, I1, r1, q1⟩ => ?_)
 exact thn (hr pos pins s1 σ H1 _ I1 q1) fun us s2 ⟨xs, H2, I2, r2, q2⟩ => ⟨x :: xs, H2, I2, .cons r1 r2, q2⟩
def tTup (t : TA) : TE := fun σ H Q => t σ H fun xs H1 => xs.length <= sizeLine /\ ∀ p, H1 p = none -> Q (.ref p) (upd H1 p (.tup xs))
def tLst (t : TA) : TE := fun σ H Q => t σ H fun xs H1 => xs.length <= sizeLine /\ ∀ p, H1 p = none -> Q (.ref p) (upd H1 p (.lst xs))
theorem pe_tup {x1} (h : PA X es t) : PE X (.Tuple es x1 pos) (tTup t) := by
 intro pins s σ H Q I hq
 refine wpAny_Tuple_spliced (thn (h pos pins s σ H _ I hq) fun us s1 ⟨xs, H1, I1, r, z, q⟩ => ⟨by rw [<- r.length]; exact z, ?_⟩)
 have hf : H1 s1.heap.objs.size = none := I1.hok.fresh (Nat.le_refl _)
 refine ⟨.ref s1.heap.objs.size, upd H1 s1.heap.objs.size (.tup xs), I1.laid (t' := s1.toks) (fun b u e => Heap.get?_push_of_some _ e) (Nat.le_refl _) ?_, rfl, q _ hf⟩
 exact ⟨z, us, r, ⟨_, Heap.get?_push_size _ rfl, rfl, _, rfl⟩⟩
theorem pe_lst (h : PA X es t) : PE X (.List es pos) (tLst t) := by
 intro pins s σ H Q I hq
 refine wpAny_List_spliced (thn (h pos pins s σ H _ I hq) fun us s1 ⟨xs, H1, I1, r, z, q⟩ => ⟨by rw [<- r.length]; exact z, ?_⟩)
 have hf : H1 s1.heap.objs.size = none := I1.hok.fresh (Nat.le_refl _)
 refine ⟨.ref s1.heap.objs.size, upd H1 s1.heap.objs.size (.lst xs), I1.laid (t' := s1.toks) (fun b u e => Heap.get?_push_of_some _ e) (Nat.le_refl _) ?_, rfl, q _ hf⟩
 exact ⟨z, us, 0, r, Heap.get?_push_size _ rfl⟩
end
abbrev Sp := List V -> Hp -> VK -> XK -> Prop
abbrev CXT := List Env -> Hp -> Shared -> XK -> Value -> Shared -> Prop
structure Env0 (P : Program) (w : World) (K : PySem.W.Frag) (mg : Str -> Option Value) (base : Heap) (A : Around) (outer : List Env) (s : Shared) (H : Hp) : Prop where
 frames : A.frames = some outer
 mod : Mod K mg base
 bs : ∀ b o, base.get? b = some o -> s.heap.get? b = some o /\ H b = none
 bsz : base.objs.size <= s.heap.objs.size
 funs : s.heap.FunFrames base outer
 frf : ∀ b ∈ frs outer, H b = none
 hok : HOk P w H s.heap
 bare : AllBare s.gens
def CE (outer : List Env) (P : Program) (w : World) (H : Hp) (s : Shared) (Q : VK) (u : Value) (s' : Shared) : Prop :=
 ∃ v H', s'.os = s.os /\ AllBare s'.gens /\ Un (frs outer) [] H H' s.heap s'.heap /\ HOk P w H' s'.heap /\ RelV v u /\ Q v H'
def CR (CX : CXT) (outer : List Env) (P : Program) (w : World) (H : Hp) (s : Shared) (Q : VK) (E : XK) (r : Result) (s' : Shared) : Prop :=
 match r with
 | .ok (.ret u) => CE outer P w H s Q u s'
 | .ok _ => False
 | .error e => CX outer H s E e s'
structure FnOk (P : Program) (w : World) (K : PySem.W.Frag) (mg : Str -> Option Value) (base : Heap) (CX : CXT) (k : Nat) (f : Addr) (fd : FuncData) (ps : List Str) (sp : Sp) : Prop where
 len : ∀ vs H Q E, sp vs H Q E -> vs.length = ps.length
 run : ∀ (A : Around) (outer : List Env) (s : Shared) (H : Hp) (args : Args) (us : List Value) (vs : List V) (Q : VK) (E : XK), Room k A -> Env0 P w K mg base A outer s H -> BindsTo s fd args (ps.zip us) -> Vals vs us -> sp vs H Q E ->
  codeAny (model P w) A (.call (.ref f) args) (CR CX outer P w H s Q E) s
theorem Env0.make {P : Program} {w : World} {K : PySem.W.Frag} {mg : Str -> Option Value} {base : Heap} {A : Around} {outer : List Env} {s : Shared} {H : Hp} (e : Env0 P w K mg base A outer s H) (C : Addr) (us : List Value) (kw : List (Str × Value)) :
  Env0 P w K mg base (A.under (.builtin "type.__call__" ⟨.ref C :: us, kw⟩)) outer s H := ⟨by first | exact e.frames | (simpa [Around.under, Code.envs, Code.isFrame, pushEnvs] using e.frames), e.mod, e.bs, e.bsz, e.funs, e.frf, e.hok, e.bare⟩
section
variable {X : Cx} {pins : List (Addr × Obj)} {σ : St} {H : Hp} {s s' : Shared}
theorem Inv.env0 (I : Inv X pins σ H s) : Env0 X.prog X.w X.K X.mg X.base X.A X.stack s H :=
 ⟨I.ok.frames, I.ok.mod, I.bs, Nat.le_trans I.ok.bsz I.sz, I.stack, I.stkFree, I.hok, I.bare⟩
theorem Inv.after {Q : VK} {u : Value} (I : Inv X pins σ H s) (h : CE X.stack X.prog X.w H s Q u s') : EP X pins σ Q u s' := by
 obtain ⟨v, H', os, bare, un, hok, r, q⟩ := h
 obtain ⟨hh, g, d, t, os'⟩ := s'
 obtain rfl : os' = s.os := os
 exact ⟨v, H', I.call (h' := hh) (g' := g) (d' := d) (t' := t) (ch := []) un hok bare (fun b z => absurd z (by simp)), r, q⟩
end
def tCall (sp : Sp) (dvs : List V) (E : XK) (t : TA) : TE := fun σ H Q => t σ H fun vs H1 => sp (vs ++ dvs) H1 Q E
def Binds (K : PySem.W.Frag) (fd : FuncData) (ps : List Str) (ds : List Value) : Prop :=
 ∀ (s : Shared) (us : List Value), K.In s.heap -> (us ++ ds).length = ps.length -> BindsTo s fd ⟨us, []⟩ (ps.zip (us ++ ds))
theorem Binds.all {K : PySem.W.Frag} {fd : FuncData} {ps : List Str} (h : ∀ us : List Value, us.length = ps.length -> bindArgs fd ⟨us, []⟩ = pure (ps.zip us)) : Binds K fd ps [] := fun s us _ hl => by
 rw [List.append_nil] at hl ⊢
 exact .of_eq (h us hl)
def Passes (CX : CXT) (X : Cx) (E : XK) : Prop := ∀ (pins : List (Addr × Obj)) (σ : St) (H : Hp) (s : Shared) (e : Value) (s' : Shared), Inv X pins σ H s -> CX X.stack H s E e s' -> X.xe e s'
section
variable {X : Cx} {CX : CXT} {k : Nat} {f C : Addr} {fd : FuncData} {ps : List Str} {sp : Sp} {dvs : List V} {ds : List Value} {E : XK} {x m : Str} {p pos apos : Pos} {e o : Expr} {es : List Expr} {ta : TE} {t : TA}
theorem run_fn {pins : List (Addr × Obj)} {σ : St} {H : Hp} {s : Shared} {Q : VK} {us : List Value} {vs : List V} (F : FnOk X.prog X.w X.K X.mg X.base CX k f fd ps sp) (hr : Room k X.A) (hb : Binds X.K fd ps ds) (hd : Vals dvs ds) (hx : Passes CX X E)
  (I : Inv X pins σ H s) (r : Vals vs us) (h : sp (vs ++ dvs) H Q E) : wpAny (model X.prog X.w) X.A (call (.ref f) us) (EP X pins σ Q) X.xe s := by
 have r2 : Vals (vs ++ dvs) (us ++ ds) := r.append hd
 have hl : (us ++ ds).length = ps.length := by rw [<- r2.length]; exact F.len _ _ _ _ h
 refine wpAny_call (codeAny_mono (F.run X.A X.stack s H ⟨us, []⟩ (us ++ ds) (vs ++ dvs) Q E hr I.env0 (hb s us I.kIn hl) r2 h) fun r s' hq => ?_)
 cases r with
 | error e => exact hx pins σ H s e s' I hq
 | ok fl =>
  cases fl with
  | ret u => exact I.after hq
  | next => exact False.elim hq
  | brk => exact False.elim hq
  | cont => exact False.elim hq
theorem pe_call (F : FnOk X.prog X.w X.K X.mg X.base CX k f fd ps sp) (hr : Room k X.A) (hg : Gl X x) (hm : X.mg x = some (.ref f)) (hk : PySem.W.keepIn X.K (.ref f) = true) (hb : Binds X.K fd ps ds) (hd : Vals dvs ds) (hx : Passes CX X E)
  (ha : PA X (e :: es) t) (hdb : (x == ("__debug__" : Str)) = false := by decide) (he : starEach (e :: es) X.env = (false, eval e X.env) :: starEach es X.env := by rfl) (hpl : (backTo pos (starEach es X.env)).any (·.1) = false := by rfl) :
  PE X (.Call (.Name x p) (e :: es) [] pos) (tCall sp dvs E t) := by
 intro pins s σ H Q I h
 refine wpAny_Call_Name_kw (ld_glob I hg hm ?_ hdb)
 refine PySem.W.callWith_K (h₀ := X.base) I.ok.mod.kin hk (thn (ha pos pins s σ H _ I h) fun us s1 ⟨vs, H1, I1, r, q⟩ => ⟨I1.kIn, ?_⟩) he hpl
 exact run_fn F hr hb hd hx I1 r q
theorem pe_call0 (F : FnOk X.prog X.w X.K X.mg X.base CX k f fd ps sp) (hr : Room k X.A) (hg : Gl X x) (hm : X.mg x = some (.ref f)) (hk : PySem.W.keepIn X.K (.ref f) = true) (hb : Binds X.K fd ps ds) (hd : Vals dvs ds) (hx : Passes CX X E)
  (hdb : (x == ("__debug__" : Str)) = false := by decide) : PE X (.Call (.Name x p) [] [] pos) (tCall sp dvs E tNil) := by
 intro pins s σ H Q I h
 refine wpAny_Call_Name_kw (ld_glob I hg hm ?_ hdb)
 exact PySem.W.callWith_K0 I.kIn hk (run_fn (us := []) F hr hb hd hx I .nil h)
structure Mk (K : PySem.W.Frag) (C f : Addr) : Prop where
 makes : PySem.W.makesIn K C = true
 init : PySem.W.findIn K (.ref C) "__init__" = some (some (.ref f))
 fn : PySem.W.isFn K (.ref f) = true
 kp : PySem.W.keepIn K (.ref C) = true
end
section
variable {X : Cx} {CX : CXT} {k : Nat} {f C : Addr} {fd : FuncData} {ps ks : List Str} {sp : Sp} {E : XK} {x m : Str} {p pos apos kpos : Pos} {e o : Expr} {es : List Expr} {kws : List Keyword} {te ta : TE} {t tk : TA} {nm : Option Str}
structure KBinds (K : PySem.W.Frag) (fd : FuncData) (ps ks : List Str) (g : List Value -> List Value -> List Value) (gV : List V -> List V -> List V) : Prop where
 to : ∀ (s : Shared) (us ws : List Value), K.In s.heap -> (g us ws).length = ps.length -> BindsTo s fd ⟨us, ks.zip ws⟩ (ps.zip (g us ws))
 rel : ∀ {vs : List V} {us : List Value} {zs : List V} {ws : List Value}, Vals vs us -> Vals zs ws -> Vals (gV vs zs) (g us ws)
variable {g : List Value -> List Value -> List Value} {gV : List V -> List V -> List V}
end
structure FnScope (N P : List Str) (sc : Scope) : Prop where
 kind : sc.kind = .function
 co : sc.isCoroutine = false
 gen : sc.isGenerator = false
 nd : N.Nodup
 pre : N.take P.length = P
 par : ∀ x ∈ P, sc.names.lookup x = some .local \/ sc.names.lookup x = some .cell
 nofree : ∀ y ∈ sc.names, y.2 ≠ .free
theorem bindL_out {kindOf : Str -> Option NameKind} {x : Str} : ∀ {binds : List (Str × Value)} {m : Str -> Option Value}, (∀ v, (x, v) ∉ binds) -> bindL kindOf binds m x = m x
 | [], _, _ => rfl
 | (n, v) :: r, m, h => by
  unfold bindL
  rw [bindL_out fun w hw => h w (List.mem_cons_of_mem _ hw)]
  split
  ·have : x ≠ n := by rintro rfl; exact h v List.mem_cons_self
   simp [this]
  ·rfl
theorem bindC_out {kindOf : Str -> Option NameKind} {x : Str} : ∀ {binds : List (Str × Value)} {m : Str -> Option Value}, (∀ v, (x, v) ∉ binds) -> bindC kindOf binds m x = m x
 | [], _, _ => rfl
 | (n, v) :: r, m, h => by
  unfold bindC
  rw [bindC_out fun w hw => h w (List.mem_cons_of_mem _ hw)]
  split
  ·rfl
  ·have : x ≠ n := by rintro rfl; exact h v List.mem_cons_self
   simp [this]
theorem bindL_get {kindOf : Str -> Option NameKind} {x : Str} {v : Value} : ∀ {P : List Str} {vs : List Value} {i : Nat} {m : Str -> Option Value}, P.Nodup -> P[i]? = some x -> vs[i]? = some v -> kindOf x = some .local ->
  bindL kindOf (P.zip vs) m x = some v
 | [], _, _, _, _, h, _, _ => by simp at h
 | _ :: _, [], _, _, _, _, h, _ => by simp at h
 | p :: P, w :: vs, 0, m, nd, h1, h2, hk => by
  simp at h1 h2; subst h1; subst h2
  show bindL kindOf ((p, w) :: P.zip vs) m p = _
  unfold bindL
  rw [bindL_out fun v hv => (List.nodup_cons.mp nd).1 (List.of_mem_zip hv).1, if_pos hk]
  simp
 | p :: P, w :: vs, i + 1, m, nd, h1, h2, hk => by
  show bindL kindOf ((p, w) :: P.zip vs) m x = _
  unfold bindL
  exact bindL_get (i := i) (List.nodup_cons.mp nd).2 (by simpa using h1) (by simpa using h2) hk
theorem bindC_get {kindOf : Str -> Option NameKind} {x : Str} {v : Value} : ∀ {P : List Str} {vs : List Value} {i : Nat} {m : Str -> Option Value}, P.Nodup -> P[i]? = some x -> vs[i]? = some v -> kindOf x ≠ some .local ->
  bindC kindOf (P.zip vs) m x = some v
 | [], _, _, _, _, h, _, _ => by simp at h
 | _ :: _, [], _, _, _, _, h, _ => by simp at h
 | p :: P, w :: vs, 0, m, nd, h1, h2, hk => by
  simp at h1 h2; subst h1; subst h2
  show bindC kindOf ((p, w) :: P.zip vs) m p = _
  unfold bindC
  rw [bindC_out fun v hv => (List.nodup_cons.mp nd).1 (List.of_mem_zip hv).1, if_neg hk]
  simp
 | p :: P, w :: vs, i + 1, m, nd, h1, h2, hk => by
  show bindC kindOf ((p, w) :: P.zip vs) m x = _
  unfold bindC
  exact bindC_get (i := i) (List.nodup_cons.mp nd).2 (by simpa using h1) (by simpa using h2) hk
def start (N : List Str) (vs : List V) : St := vs.map some ++ List.replicate (N.length - vs.length) none
def cxOf (CX : CXT) (P : Program) (w : World) (K : PySem.W.Frag) (mg : Str -> Option Value) (base : Heap) (N : List Str) (qual : Str) (scope : Scope) (f : Addr) (cd : Value) (A : Around) (outer : List Env) (s : Shared) (H : Hp) (E : XK) : Cx where
 prog := P
 w := w
 K := K
 mg := mg
 base := base
 A := A.deeper (envOfC qual scope s.heap.objs.size f cd)
 N := N
 s₀ := s
 H₀ := H
 env := envOfC qual scope s.heap.objs.size f cd
 outer := outer
 stack := envOfC qual scope s.heap.objs.size f cd :: outer
 ex := []
 calm := true
 fn := fun _ => true
 pn := []
 xe := fun e s' => wpAny (model P w) (A.deeper (envOfC qual scope s.heap.objs.size f cd)) (leaving (envOfC qual scope s.heap.objs.size f cd) e) (fun _ s'' => CX outer H s E e s'') (fun e' s'' => CX outer H s E e' s'') s'
theorem cell_has {sc : Scope} {n : Nat} {x : Str} (h : sc.names.lookup x = some .cell) : ∃ c, (cellsFrom n sc.names []).lookup x = some c := by
 have q := PySem.W.cellsFrom_some sc.names n [] (.inl h)
 exact Option.isSome_iff_exists.mp q
theorem inv_start {CX : CXT} {P : Program} {w : World} {K : PySem.W.Frag} {mg : Str -> Option Value} {base : Heap} {N ps : List Str} {qual : Str} {scope : Scope} {f : Addr} {cd : Value} {A : Around} {outer : List Env} {s s1 : Shared} {H : Hp} {E : XK} {us : List Value} {vs : List V}
  (S : FnScope N ps scope) (hd : A.handled = none) (e0 : Env0 P w K mg base A outer s H) (hl : vs.length = ps.length) (r : Vals vs us)
  (x : InCallC s s.heap.objs.size (bindL (envOfC qual scope s.heap.objs.size f cd).kindOf (ps.zip us) fun _ => none) (cellsFrom (s.heap.objs.size + 1) scope.names []) (bindC (envOfC qual scope s.heap.objs.size f cd).kindOf (ps.zip us) fun _ => none) s1) :
  Inv (cxOf CX P w K mg base N qual scope f cd A outer s H E) [] (start N vs) H s1 := by
 have hpl : ps.length <= N.length := by have := congrArg List.length S.pre; rw [List.length_take] at this; omega
 obtain ⟨h1, tk, rfl, hk⟩ := x.done
 have noA : ∀ b : Addr, b ∉ (cxOf CX P w K mg base N qual scope f cd A outer s H E).ex := fun b z => absurd (show b ∈ ([] : List Addr) from z) (by simp)
 refine ⟨⟨e0.mod, S.kind, rfl, rfl, Nat.le_refl _, fun y z c h1 h2 => ?_, fun y hy => ?_, fun y c _ h => ?_, fun _ => hd, Around.frames_deeper e0.frames, .inr ⟨rfl, rfl⟩, fun b z => absurd z (noA b), e0.bs, e0.bsz, fun b _ _ => noA b, fun b z => absurd z (noA b), e0.funs, e0.frf⟩,
  rfl, e0.bare, Un.kept hk, ⟨_, x.toInCall.ns, fun i y v h1 h2 h3 => ?_⟩, fun y c h => ⟨_, x.cell y c h⟩, e0.hok.fresh (Nat.le_refl _), fun y c h => ?_, fun p hp => absurd (show p ∈ ([] : List (Addr × Obj)) from hp) (by simp), e0.hok.kept hk, ?_⟩
 ·exact name_of_addr x.apart (PySem.mem_of_lookup h1) (PySem.mem_of_lookup h2)
 ·have hy : scope.names.lookup y = some .cell \/ scope.names.lookup y = some .free := hy
  rcases hy with hy | hy
  ·exact cell_has hy
  ·exact absurd rfl (S.nofree _ (PySem.mem_of_lookup hy))
 ·exact Nat.le_of_lt (x.above y c (PySem.mem_of_lookup h))
 ·have hi : i < vs.length := by
   unfold start at h2
   by_cases hi : i < vs.length
   ·exact hi
   ·rw [List.getElem?_append_right (by simpa using hi)] at h2
    rw [List.getElem?_replicate] at h2
    split at h2 <;> cases h2
  have ha : vs[i]? = some v := by
   unfold start at h2
   rw [List.getElem?_append_left (by simpa using hi), List.getElem?_map] at h2
   cases e : vs[i]? with
   | none => rw [e] at h2; cases h2
   | some a => rw [e] at h2; cases h2; rfl
  obtain ⟨u, hu, rv⟩ := r.get ha
  have hp : ps[i]? = some y := by
   rw [<- S.pre, List.getElem?_take_of_lt (by omega)]; exact h1
  have ndP : ps.Nodup := by rw [<- S.pre]; exact S.nd.sublist (List.take_sublist _ _)
  refine ⟨u, rv, ?_⟩
  rcases S.par y (List.mem_of_getElem? hp) with k | k
  ·exact .inl ⟨k, bindL_get ndP hp hu k⟩
  ·obtain ⟨c, e⟩ := cell_has (n := s.heap.objs.size + 1) k
   refine .inr ⟨.inl k, c, e, ?_⟩
   have q := x.cell y c e
   rw [bindC_get ndP hp hu (by show scope.names.lookup y ≠ _; rw [k]; decide)] at q
   exact q
 ·exact e0.hok.fresh (Nat.le_of_lt (x.above y c (PySem.mem_of_lookup h)))
 ·unfold start
  show _ = N.length
  rw [List.length_append, List.length_map, List.length_replicate]
  omega
theorem fn_of {CX : CXT} {P : Program} {w : World} {K : PySem.W.Frag} {mg : Str -> Option Value} {base : Heap} {k : Nat} {f : Addr} {name qual : Str} {params : Arguments} {body : List Stmt} {scope : Scope} {dV kV doc pm cdv ct oc : Value} {an od : Option Addr}
  {osl : Array (Option Value)} {N ps : List Str} {sp : Sp} (lk : K.lookup f = some ⟨oc, od, .func (PySem.W.fnOf name qual params body scope dV kV doc pm an cdv ct), osl⟩) (hcd : PySem.W.codeIn K cdv qual = true) (S : FnScope N ps scope)
  (len : ∀ vs H Q E, sp vs H Q E -> vs.length = ps.length)
  (hbody : ∀ (A : Around) (outer : List Env) (s : Shared) (H : Hp) (vs : List V) (Q : VK) (E : XK), Room k (A.deeper (envOfC qual scope s.heap.objs.size f cdv)) -> sp vs H Q E ->
   ∃ t, PSs (cxOf CX P w K mg base N qual scope f cdv A outer s H E) body t /\ t { nx := fun _ H' => Q .non H', rt := Q } (start N vs) H) :
  FnOk P w K mg base CX (k + 1) f (PySem.W.fnOf name qual params body scope dV kV doc pm an cdv ct) ps sp := by
 refine ⟨len, fun A outer s H args us vs Q E hr e0 hb r hsp => ?_⟩
 have hl := len _ _ _ _ hsp
 have KX : K.In s.heap := e0.mod.kin.keeps fun b o e => (e0.bs b o e).1
 have lim : s.heap.NoLimit := e0.mod.nolimit.keeps fun b o e => (e0.bs b o e).1
 have hkind : ∀ y ∈ ps.zip us, scope.names.lookup y.1 = some .local \/ (scope.names.lookup y.1 = some .cell /\ ((cellsFrom (s.heap.objs.size + 1) scope.names []).lookup y.1).isSome = true) := fun ⟨n, v⟩ hy => by
  rcases S.par n (List.of_mem_zip hy).1 with q | q
  ·exact .inl q
  ·exact .inr ⟨q, PySem.W.cellsFrom_some _ _ _ (.inl q)⟩
 refine codeAny_call_function hr.depth (KX _ _ lk) rfl S.co S.gen rfl (PySem.W.codeRec_of KX hcd) (hb _ _ _ _ ?_)
 refine wpAny_newFunctionEnv_cells S.kind hkind fun env he s1 x => ?_
 subst he
 refine ⟨lim.keeps x.toInCall.keep, codeAny_func ?_⟩
 obtain ⟨t, ht, hq⟩ := hbody A outer s H vs Q E (hr.deeper _) hsp
 have I : Inv (cxOf CX P w K mg base N qual scope f cdv A outer s H E) [] (start N vs) H s1 := inv_start S hr.hd e0 hl r x
 refine wpAny_mono (ht [] s1 (start N vs) H _ I hq) (fun fl s' hs => ?_) fun e s' hs => hs
 have fin : ∀ {σ' : St} {H' : Hp} {v : V} {u : Value}, Inv (cxOf CX P w K mg base N qual scope f cdv A outer s H E) [] σ' H' s' -> RelV v u -> Q v H' -> CE outer P w H s Q u s' :=
  fun {σ' H' v u} J rv q => ⟨v, H', J.os, J.bare, J.base, J.hok, rv, q⟩
 cases fl with
 | ret u =>
  obtain ⟨v, σ', H', J, rv, q⟩ := hs
  exact fin J rv q
 | next =>
  obtain ⟨σ', H', J, q⟩ := hs
  exact fin (v := V.non) (u := Value.none) J rfl q
 | brk =>
  obtain ⟨_, _, _, q⟩ := hs
  exact False.elim q
 | cont =>
  obtain ⟨_, _, _, q⟩ := hs
  exact False.elim q
end L2
namespace L2
open PySem PySem.Spec PyProof.Rows
section
variable {X : Cx} {x : Str} {p pos : Pos} {e : Expr} {es : List Expr} {t : TA} {id T : String} {r : List V -> Hp -> VK -> Prop}
def tCB (r : List V -> Hp -> VK -> Prop) (t : TA) : TE := fun σ H Q => t σ H fun vs H1 => r vs H1 Q
theorem pe_callB (hc : CallR X (.builtin id) r) (hg : Gl X x) (hm : X.mg x = none) (hv : bootBuiltins x = some (.builtin id)) (ha : PA X (e :: es) t) (hn : x ≠ "__name__" := by decide) (hdb : (x == ("__debug__" : Str)) = false := by decide)
  (he : starEach (e :: es) X.env = (false, eval e X.env) :: starEach es X.env := by rfl) (hpl : (backTo pos (starEach es X.env)).any (·.1) = false := by rfl) : PE X (.Call (.Name x p) (e :: es) [] pos) (tCB r t) := by
 intro pins s σ H Q I h
 refine wpAny_Call_Name_kw (ld_blt I hg hm hv ?_ hn hdb)
 exact PyProof.Rows.callWith_builtin1 (thn (ha pos pins s σ H _ I h) fun us s1 ⟨vs, H1, I1, r1, q1⟩ => hc pins s1 σ H1 vs us Q I1 r1 q1) he hpl
theorem pe_callTy (hc : CallR X (.type T) r) (hg : Gl X x) (hm : X.mg x = none) (hv : bootBuiltins x = some (.type T)) (ha : PA X (e :: es) t) (hn : x ≠ "__name__" := by decide) (hdb : (x == ("__debug__" : Str)) = false := by decide)
  (he : starEach (e :: es) X.env = (false, eval e X.env) :: starEach es X.env := by rfl) (hpl : (backTo pos (starEach es X.env)).any (·.1) = false := by rfl) : PE X (.Call (.Name x p) (e :: es) [] pos) (tCB r t) := by
 intro pins s σ H Q I h
 refine wpAny_Call_Name_kw (ld_blt I hg hm hv ?_ hn hdb)
 exact PyProof.Rows.callWith_type1 (thn (ha pos pins s σ H _ I h) fun us s1 ⟨vs, H1, I1, r1, q1⟩ => hc pins s1 σ H1 vs us Q I1 r1 q1) he hpl
end
end L2
namespace HT
open PySem PyProof.Rows
def lexLt : List Int -> List Int -> Bool
 | [], [] => false
 | [], _ :: _ => true
 | _ :: _, [] => false
 | x :: xs, y :: ys => if x = y then lexLt xs ys else decide (x < y)
section
open PySem.SeqAt
open PySem.AutoSeq1 (wpAny_loadPart')
open PySem.MeetsSeq PySem.MeetsSeq2 PySem.MeetsSeq3
end
section
variable {prog : Program} {w : World} {A : Around} {E : Value -> Shared -> Prop} {s : Shared}
end
end HT
namespace L2
open PySem PySem.Spec PyProof.Rows
abbrev TO := St -> Hp -> (Option Int -> Hp -> Prop) -> Prop
def PO (X : Cx) (e : Option Expr) (t : TO) : Prop :=
 ∀ (pins : List (Addr × Obj)) (s : Shared) (σ : St) (H : Hp) (Q : Option Int -> Hp -> Prop), Inv X pins σ H s -> t σ H Q ->
  wpAny (model X.prog X.w) X.A (evalPart e X.env) (fun u s' => ∃ o H', Inv X pins σ H' s' /\ IsPart u o /\ Q o H') X.xe s
def tNoPart : TO := fun _ H Q => Q none H
def tPart (t : TE) : TO := fun σ H Q => t σ H fun x H1 => ∃ i, x = .int i /\ Q (some i) H1
section
variable {X : Cx} {e : Expr} {te : TE} {lo hi : Option Expr} {tl th : TO} {pos p2 : Pos}
theorem po_none : PO X none tNoPart := by
 intro pins s σ H Q I h
 rw [evalPart_none]
 exact wpAny_pure ⟨none, H, I, .none, h⟩
theorem po_some (h : PE X e te) : PO X (some e) (tPart te) := by
 intro pins s σ H Q I hw
 rw [evalPart_some]
 refine thn (h pins s σ H _ I hw) fun u s1 ⟨x, H1, I1, r1, q1⟩ => ?_
 obtain ⟨i, rfl, q⟩ := q1
 obtain ⟨t, rfl⟩ := r1
 exact ⟨some i, H1, I1, .int i t, q⟩
def SlR (X : Cx) (r : V -> Option Int -> Option Int -> Hp -> VK -> Prop) : Prop :=
 ∀ (pins : List (Addr × Obj)) (s : Shared) (σ : St) (H : Hp) (x : V) (v vl vu : Value) (lo hi : Option Int) (sl : Addr) (Q : VK), Inv X pins σ H s -> RelV x v -> s.heap.IsSliceOf sl vl vu .none -> IsPart vl lo -> IsPart vu hi -> r x lo hi H Q ->
  ∃ T id, typeLookup (.type T) "__getitem__" = pure (some (.builtin id)) /\ s.TypeIs v T /\ wpAny (model X.prog X.w) X.A (getItem v (.ref sl)) (EP X pins σ Q) X.xe s
def tSl (r : V -> Option Int -> Option Int -> Hp -> VK -> Prop) (te : TE) (tl th : TO) : TE := fun σ H Q => te σ H fun x H1 => tl σ H1 fun l H2 => th σ H2 fun u H3 => r x l u H3 Q
theorem pe_slice {r : V -> Option Int -> Option Int -> Hp -> VK -> Prop} (hr : SlR X r) (he : PE X e te) (hl : PO X lo tl) (hu : PO X hi th) : PE X (.Subscript e (.Slice lo hi none p2) pos) (tSl r te tl th) := by
 intro pins s σ H Q I h
 refine Subscript_ (thn (he pins s σ H _ I h) fun v s1 ⟨x, H1, I1, r1, q1⟩ => ?_)
 refine wpAny_Slice (thn (hl pins s1 σ H1 _ I1 q1) fun vl s2 ⟨l, H2, I2, pl, q2⟩ => thn (hu pins s2 σ H2 _ I2 q2) fun vu s3 ⟨u, H3, I3, pu, q3⟩ => ?_)
 rw [evalPart_none]
 refine wpAny_pure ?_
 have I4 : Inv X pins σ H3 { s3 with heap := s3.heap.push { cls := .type "slice", data := .fields #[vl, vu, .none] } } := I3.kept (t' := s3.toks) fun b ob q => Heap.get?_push_of_some _ q
 obtain ⟨T, id, hT, ht, hg⟩ := hr pins { s3 with heap := s3.heap.push { cls := .type "slice", data := .fields #[vl, vu, .none] } } σ H3 x v vl vu l u s3.heap.objs.size Q I4 r1 (Heap.IsSliceOf.new ..) pl pu q3
 show wpAny (model X.prog X.w) X.A (subscriptTail e (.Slice lo hi none p2) v (.ref s3.heap.objs.size)) (EP X pins σ Q) X.xe { s3 with heap := s3.heap.push { cls := .type "slice", data := .fields #[vl, vu, .none] } }
 exact tail_any (ops := [.ref s3.heap.objs.size, v]) ht hT hg (by with_unfolding_all rfl)
end
end L2
namespace L2
open PySem PySem.Spec PyProof.Rows
def ixN (n : Nat) (i : Int) : Option Nat := if 0 <= i then (if i < n then some i.toNat else none) else if -(n : Int) <= i then some (i + n).toNat else none
def atI {α : Type} (xs : List α) (i : Int) : Option α := (ixN xs.length i).bind fun j => xs[j]?
theorem ixN_seq {n : Nat} {i : Int} {j : Nat} (h : ixN n i = some j) : seqIndex? i n = some j /\ j < n /\ -(n : Int) <= i /\ i < n := by
 unfold ixN at h
 by_cases h0 : 0 <= i
 ·rw [if_pos h0] at h
  by_cases h1 : i < n
  ·rw [if_pos h1] at h
   have e : i.toNat = j := Option.some.inj h
   exact ⟨by rw [seqIndex_of h0 h1, e], by omega, by omega, h1⟩
  ·rw [if_neg h1] at h; cases h
 ·rw [if_neg h0] at h
  by_cases h1 : -(n : Int) <= i
  ·rw [if_pos h1] at h
   have e : (i + n).toNat = j := Option.some.inj h
   exact ⟨by rw [seqIndex_neg (by omega) h1, e], by omega, h1, by omega⟩
  ·rw [if_neg h1] at h; cases h
theorem atI_get {α : Type} {xs : List α} {i : Int} {v : α} (h : atI xs i = some v) : ∃ j, seqIndex? i xs.length = some j /\ xs[j]? = some v /\ j < xs.length /\ -(xs.length : Int) <= i /\ i < xs.length := by
 unfold atI at h
 cases e : ixN xs.length i with
 | none => rw [e] at h; cases h
 | some j =>
  rw [e] at h
  obtain ⟨h1, h2, h3, h4⟩ := ixN_seq e
  exact ⟨j, h1, h, h2, h3, h4⟩
theorem atI_nat {α : Type} {xs : List α} {j : Nat} {v : α} (h : xs[j]? = some v) : atI xs (j : Int) = some v := by
 have hj : j < xs.length := (List.getElem?_eq_some_iff.mp h).1
 have e : ixN xs.length (j : Int) = some j := by
  unfold ixN
  rw [if_pos (by omega), if_pos (by omega)]; simp
 unfold atI; rw [e]; exact h
def PlainIx (b : Expr) : Prop := ∀ o i, subscripted b false o i = operate [o, i] (getItem o i)
def IxR (X : Cx) (r : R2) : Prop :=
 ∀ (value slice : Expr) (pins : List (Addr × Obj)) (s : Shared) (σ : St) (H : Hp) (x y : V) (v u : Value) (Q : VK), Inv X pins σ H s -> RelV x v -> RelV y u -> r x y H Q ->
  subscripted slice false v u = operate [v, u] (getItem v u) -> wpAny (model X.prog X.w) X.A (subscriptTail value slice v u) (EP X pins σ Q) X.xe s
def MtR (X : Cx) (id : String) (r : V -> List V -> Hp -> VK -> Prop) : Prop :=
 ∀ (pins : List (Addr × Obj)) (s : Shared) (σ : St) (H : Hp) (x : V) (xs : List V) (v : Value) (us : List Value) (Q : VK), Inv X pins σ H s -> RelV x v -> Vals xs us -> r x xs H Q ->
  wpAny (model X.prog X.w) X.A (call (.builtin id) (v :: us)) (EP X pins σ Q) X.xe s
section
variable {X : Cx} {a b : Expr} {ta tb : TE} {pos : Pos}
theorem pe_ix {r : R2} (hr : IxR X r) (ha : PE X a ta) (hb : PE X b tb) (hs : PlainIx b) : PE X (.Subscript a b pos) (tOp r ta tb) := by
 intro pins s σ H Q I h
 exact Subscript_ (binT ha hb I h fun v u s2 x y H2 I2 rx ry q => hr a b pins s2 σ H2 x y v u Q I2 rx ry q (hs _ _))
def rIxL (K : PySem.W.Frag) : R2 := fun x y H Q => ∃ p xs i v, x = .ref p /\ y = .int i /\ SqL K H p xs /\ atI xs i = some v /\ Q v H
def rIxT (K : PySem.W.Frag) : R2 := fun x y H Q => ∃ p xs i v, x = .ref p /\ y = .int i /\ SqT K H p xs /\ atI xs i = some v /\ Q v H
def rIxS : R2 := fun x y H Q => ∃ z i c, x = .str z /\ y = .int i /\ z.length <= sizeLine /\ atI z.cps.toList i = some c /\ Q (.str ⟨#[c]⟩) H
theorem ix_list : IxR X (rIxL X.K) := by
 intro value slice pins s σ H x y v u Q I rx ry h hs
 obtain ⟨p, xs, i, z, rfl, rfl, hq, he, q⟩ := h
 cases rx
 obtain ⟨t, rfl⟩ := ry
 obtain ⟨its, r, pl, hz⟩ := I.list hq
 obtain ⟨j, h1, h2, h3, h4, h5⟩ := atI_get he
 obtain ⟨w, ew, rw'⟩ := r.get h2
 have hl := r.length
 have hn := line63
 have fin : EP X pins σ Q w s := ⟨z, H, I, rw', q⟩
 by_cases h0 : 0 <= i
 ·have hj : i.toNat = j := by
   rw [seqIndex_of h0 h5] at h1
   exact Option.some.inj h1
  exact item_listR pl.isList h0 (by omega) (by rw [hj]; simpa using ew) fin hs
 ·have hj : (i + (its.toArray.size : Int)).toNat = j := by
   rw [seqIndex_neg (by omega) h4] at h1
   rw [List.size_toArray, <- hl]
   exact Option.some.inj h1
  exact subscriptTail_builtinR (x := w) pl.isList.typeIs slot_list_getitem.lookup
   (wpAny_getItem_list_neg (Q := fun r s' => r = w /\ EP X pins σ Q r s') pl.isList (by omega) (by rw [List.size_toArray] <;> omega) (by omega) (by rw [hj]; simpa using ew) ⟨rfl, fin⟩) hs
theorem ix_tup : IxR X (rIxT X.K) := by
 intro value slice pins s σ H x y v u Q I rx ry h hs
 obtain ⟨p, xs, i, z, rfl, rfl, hq, he, q⟩ := h
 cases rx
 obtain ⟨t, rfl⟩ := ry
 obtain ⟨its, r, pl, hz⟩ := I.tuple hq
 obtain ⟨j, h1, h2, h3, h4, h5⟩ := atI_get he
 obtain ⟨w, ew, rw'⟩ := r.get h2
 have hl := r.length
 have hn := line63
 have fin : EP X pins σ Q w s := ⟨z, H, I, rw', q⟩
 exact subscriptTail_builtinR (x := w) pl.typeIs slot_tuple_getitem.lookup
  (getItem_tuple (j := j) (Q := fun r s' => r = w /\ EP X pins σ Q r s') pl (by omega) (by omega) (by rw [List.size_toArray, <- hl]; exact h1) (by simpa using ew) ⟨rfl, fin⟩) hs
theorem ix_str : IxR X rIxS := by
 intro value slice pins s σ H x y v u Q I rx ry h hs
 obtain ⟨z, i, c, rfl, rfl, hz, he, q⟩ := h
 obtain ⟨t, rfl⟩ := rx
 obtain ⟨t', rfl⟩ := ry
 obtain ⟨j, h1, h2, h3, h4, h5⟩ := atI_get he
 have hl : z.cps.toList.length = z.length := by simp [Str.length]
 rw [hl] at h1 h4 h5
 have hn := line63
 exact tail_any (typeIs_str s z t) slot_str_getitem.lookup (getItem_str (c := c) (by
  have e1 : decide (i < -(2 ^ 63 : Int)) = false := decide_eq_false (by omega)
  have e2 : decide (i >= 2 ^ 63) = false := decide_eq_false (by omega)
  rw [e1, e2, Bool.or_false]) (by rw [h1]; simpa using h2) ⟨.str ⟨#[c]⟩, H, I.tok _, ⟨_, rfl⟩, q⟩) hs
theorem mapSeq_set (its : List Value) (n j : Nat) (u : Value) : Obj.mapSeq (·.setIfInBounds j u) { cls := .type "list", data := .seq its.toArray n } = { cls := .type "list", data := .seq (its.set j u).toArray n } := by
 simp [Obj.mapSeq]
theorem Inv.lst {pins : List (Addr × Obj)} {σ : St} {H : Hp} {s : Shared} {p : Addr} {xs : List V} (I : Inv X pins σ H s) (h : H p = some (.lst xs)) :
  ∃ (its : List Value) (n : Nat), Vals xs its /\ s.heap.get? p = some { cls := .type "list", data := .seq its.toArray n } /\ xs.length <= sizeLine := by
 obtain ⟨z, its, n, r, e⟩ := I.hok p _ h
 exact ⟨its, n, r, e, z⟩
theorem Inv.lstUpd {pins : List (Addr × Obj)} {σ : St} {H : Hp} {s : Shared} {p : Addr} {xs ys : List V} {its its' : List Value} {n n' : Nat} {f : Obj -> Obj} (I : Inv X pins σ H s) (h : H p = some (.lst xs))
  (ho : s.heap.get? p = some { cls := .type "list", data := .seq its.toArray n }) (hf : f { cls := .type "list", data := .seq its.toArray n } = { cls := .type "list", data := .seq its'.toArray n' }) (r : Vals ys its') (hz : ys.length <= sizeLine) (t : Nat) :
  Inv X pins σ (upd H p (.lst ys)) { s with heap := s.heap.update p f, toks := t } := by
 have e : (s.heap.update p f).get? p = some { cls := .type "list", data := .seq its'.toArray n' } := by
  rw [Heap.get?_update_self f ho (by rw [hf] <;> rfl), hf]
 refine I.write (x := p) (e := p) (by rw [h]; trivial) (.inl rfl) (fun b u hb q => (Heap.get?_update_other _ _ (Ne.symm hb)).trans q) ⟨_, e⟩ ?_
 exact ⟨hz, its', n', r, e⟩
def rSetL : V -> V -> V -> Hp -> (Hp -> Prop) -> Prop := fun o i v H Q => ∃ p xs k j, o = .ref p /\ i = .int k /\ H p = some (.lst xs) /\ ixN xs.length k = some j /\ Q (upd H p (.lst (xs.set j v)))
theorem set_list : PSet X rSetL := by
 intro pins s σ H o i v ov iv u Q I ro ri rv h
 obtain ⟨p, xs, k, j, rfl, rfl, hp, hj, q⟩ := h
 cases ro
 obtain ⟨t, rfl⟩ := ri
 obtain ⟨its, n, r, ho, hz⟩ := I.lst hp
 obtain ⟨h1, h2, h3, h4⟩ := ixN_seq hj
 have hl := r.length
 have hn := line63
 have I' : Inv X pins σ (upd H p (.lst (xs.set j v))) { s with heap := s.heap.update p (Obj.mapSeq (·.setIfInBounds j u)) } :=
  I.lstUpd hp ho (mapSeq_set its n j u) (r.set rv j) (by rw [List.length_set]; exact hz) s.toks
 by_cases h0 : 0 <= k
 ·have hk : k.toNat = j := by
   rw [seqIndex_of h0 h4] at h1
   exact Option.some.inj h1
  exact PySem.W.ki_setAt ho h0 (by omega) (by rw [List.size_toArray, <- hl]; exact h4) (by rw [hk]; exact ⟨_, I', q⟩)
 ·have hk : (k + (its.toArray.size : Int)).toNat = j := by
   rw [seqIndex_neg (by omega) h3] at h1
   rw [List.size_toArray, <- hl]
   exact Option.some.inj h1
  exact PySem.W.ki_setBack ho (by omega) (by rw [List.size_toArray, <- hl]; exact h3) (by omega) (by rw [hk]; exact ⟨_, I', q⟩)
def flatV : V -> Bool
 | .non => true
 | .bl _ => true
 | .int _ => true
 | .str _ => true
 | _ => false
def eqV : V -> V -> Bool
 | .non, .non => true
 | .bl a, .bl b => a == b
 | .bl a, .int b => (if a then 1 else 0) == b
 | .int a, .bl b => a == (if b then 1 else 0)
 | .int a, .int b => a == b
 | .str a, .str b => a == b
 | _, _ => false
theorem eqAt_V {A : Around} {s : Shared} {y x : V} {u v : Value} (ry : RelV y u) (rx : RelV x v) (fy : flatV y = true) (fx : flatV x = true) : SeqAt.EqAt A s u v (eqV y x) := by
 cases y with
 | non =>
  cases ry
  cases x with
  | non => cases rx; exact SeqAt.EqAt.same _
  | bl b => cases rx; exact SeqAt.EqAt.none_bool b
  | int b => obtain ⟨t, rfl⟩ := rx; exact SeqAt.EqAt.none_int b t
  | str b => obtain ⟨t, rfl⟩ := rx; exact SeqAt.EqAt.none_str b t
  | _ => exact absurd (show false = true from fx) Bool.false_ne_true
 | bl a =>
  cases ry
  cases x with
  | non => cases rx; exact SeqAt.EqAt.bool_none a
  | bl b => cases rx; exact SeqAt.EqAt.bool_bool a b
  | int b => obtain ⟨t, rfl⟩ := rx; exact SeqAt.EqAt.bool_int a b t
  | str b => obtain ⟨t, rfl⟩ := rx; exact SeqAt.EqAt.bool_str a b t
  | _ => exact absurd (show false = true from fx) Bool.false_ne_true
 | int a =>
  obtain ⟨t', rfl⟩ := ry
  cases x with
  | non => cases rx; exact SeqAt.EqAt.int_none a t'
  | bl b => cases rx; exact SeqAt.EqAt.int_bool a t' b
  | int b => obtain ⟨t, rfl⟩ := rx; exact SeqAt.EqAt.int_int a t' b t
  | str b => obtain ⟨t, rfl⟩ := rx; exact SeqAt.EqAt.int_str a t' b t
  | _ => exact absurd (show false = true from fx) Bool.false_ne_true
 | str a =>
  obtain ⟨t', rfl⟩ := ry
  cases x with
  | non => cases rx; exact SeqAt.EqAt.str_none a t'
  | bl b => cases rx; exact SeqAt.EqAt.str_bool a t' b
  | int b => obtain ⟨t, rfl⟩ := rx; exact SeqAt.EqAt.str_int a t' b t
  | str b => obtain ⟨t, rfl⟩ := rx; exact SeqAt.EqAt.str_str a t' b t
  | _ => exact absurd (show false = true from fx) Bool.false_ne_true
 | _ => exact absurd (show false = true from fy) Bool.false_ne_true
def eqU (x : V) (u : Value) : Bool := match u with
 | .none => eqV .non x
 | .bool b => eqV (.bl b) x
 | .int i _ => eqV (.int i) x
 | .str z _ => eqV (.str z) x
 | _ => false
theorem eqU_of {x y : V} {u : Value} (r : RelV y u) (f : flatV y = true) : eqU x u = eqV y x := by
 cases y with
 | non => cases r; rfl
 | bl b => cases r; rfl
 | int i => obtain ⟨t, rfl⟩ := r; rfl
 | str z => obtain ⟨t, rfl⟩ := r; rfl
 | _ => exact absurd (show false = true from f) Bool.false_ne_true
theorem any_eqU {x : V} : ∀ {xs : List V} {us : List Value}, Vals xs us -> xs.all flatV = true -> us.any (eqU x) = xs.any fun y => eqV y x
 | _, _, .nil, _ => rfl
 | y :: xs, u :: us, .cons r t, f => by
  rw [List.all_cons, Bool.and_eq_true] at f
  rw [List.any_cons, List.any_cons, eqU_of r f.1, any_eqU t f.2]
theorem mem_eqAt {A : Around} {s : Shared} {x : V} {v : Value} (rx : RelV x v) (fx : flatV x = true) : ∀ {xs : List V} {us : List Value}, Vals xs us -> xs.all flatV = true -> ∀ u ∈ us, SeqAt.EqAt A s u v (eqU x u)
 | _, _, .nil, _ => fun u hu => by cases hu
 | y :: xs, u :: us, .cons r t, f => fun u' hu => by
  rw [List.all_cons, Bool.and_eq_true] at f
  rcases List.mem_cons.mp hu with rfl | hu
  ·rw [eqU_of r f.1]; exact eqAt_V r rx f.1 fx
  ·exact mem_eqAt rx fx t f.2 u' hu
def inV (x : V) (xs : List V) : Bool := xs.any fun y => eqV y x
def rIn (K : PySem.W.Frag) (neg : Bool) : R2 := fun x y H Q => ∃ p xs, y = .ref p /\ (SqL K H p xs \/ SqT K H p xs) /\ flatV x = true /\ xs.all flatV = true /\ Q (.bl (if neg then !inV x xs else inV x xs)) H
theorem op_in_seq : OpR X (compareOp .In) (rIn X.K false) := by
 intro pins s σ H x y v u Q I rx ry h
 obtain ⟨p, xs, rfl, hq, fx, fs, q⟩ := h
 cases ry
 rcases hq with hq | hq
 ·obtain ⟨its, r, pl, hz⟩ := I.list hq
  refine SeqAt.in_listAt (eqU x) pl.isList (fun w hw => mem_eqAt rx fx r fs w (by simpa using hw)) ⟨.bl _, H, I, rfl, ?_⟩
  rw [show its.toArray.any (eqU x) = its.any (eqU x) by simp, any_eqU r fs]
  exact q
 ·obtain ⟨its, r, pl, hz⟩ := I.tuple hq
  refine SeqAt.in_tupleAt (eqU x) pl (fun w hw => mem_eqAt rx fx r fs w (by simpa using hw)) ⟨.bl _, H, I, rfl, ?_⟩
  rw [show its.toArray.any (eqU x) = its.any (eqU x) by simp, any_eqU r fs]
  exact q
theorem call_len_seq : CallR X (.builtin "len") (fun xs H Q => ∃ p ys, xs = [.ref p] /\ (SqL X.K H p ys \/ SqT X.K H p ys) /\ Q (.int ys.length) H) := by
 intro pins s σ H xs us Q I r h
 obtain ⟨p, ys, rfl, hq, q⟩ := h
 obtain ⟨u, rfl, rx⟩ := vals1 r
 cases rx
 have hn := line63
 rcases hq with hq | hq
 ·obtain ⟨its, r', pl, hz⟩ := I.list hq
  have hlen := r'.length
  exact Calls.call_len_list pl.isList (by simp only [List.size_toArray] <;> omega) ⟨.int ys.length, H, I.tok _, ⟨s.toks + 1, by rw [List.size_toArray, hlen]⟩, q⟩
 ·obtain ⟨its, r', pl, hz⟩ := I.tuple hq
  have hlen := r'.length
  exact len_tuple pl (by simp only [List.size_toArray] <;> omega) ⟨.int ys.length, H, I.tok _, ⟨s.toks + 1, by rw [List.size_toArray, hlen]⟩, q⟩
theorem call_len_str : CallR X (.builtin "len") (fun xs H Q => ∃ z, xs = [.str z] /\ z.length <= sizeLine /\ Q (.int z.length) H) := by
 intro pins s σ H xs us Q I r h
 obtain ⟨z, rfl, hz, q⟩ := h
 obtain ⟨u, rfl, t, rfl⟩ := vals1 r
 have hn := line63
 exact len_str (by omega) ⟨.int z.length, H, I.tok _, ⟨_, rfl⟩, q⟩
def tyV (K : PySem.W.Frag) (T : String) (x : V) (H : Hp) : Prop := match x with
 | .str _ => T = "str"
 | .int _ => T = "int"
 | .ref p => (T = "list" /\ ∃ xs, SqL K H p xs) \/ (T = "tuple" /\ ∃ o, K.lookup p = some o /\ o.cls = .type "tuple" /\ o.dict = none) \/
   (T = "dict" /\ ((∃ kvs, H p = some (.dK kvs)) \/ ∃ kvs, H p = some (.dT kvs))) \/ (T = "set" /\ ∃ S n, H p = some (.set S n))
 | _ => False
theorem tyV_is {pins : List (Addr × Obj)} {σ : St} {H : Hp} {s : Shared} {T : String} {x : V} {v : Value} (I : Inv X pins σ H s) (r : RelV x v) (ty : tyV X.K T x H) :
  s.TypeIs v T /\ ∀ a, v = .ref a -> ∃ ob, s.heap.get? a = some ob /\ ob.dict = none := by
 cases x with
 | str z =>
  obtain ⟨t, rfl⟩ := r
  cases (show T = "str" from ty)
  exact ⟨typeIs_str s z t, fun _ e => nomatch e⟩
 | int i =>
  obtain ⟨t, rfl⟩ := r
  cases (show T = "int" from ty)
  exact ⟨typeIs_int s i t, fun _ e => nomatch e⟩
 | ref p =>
  cases r
  rcases ty with ⟨rfl, xs, hq⟩ | ⟨rfl, o, hk, hc, hd⟩ | ⟨rfl, hk⟩ | ⟨rfl, S, n, hk⟩
  ·obtain ⟨its, _, pl, _⟩ := I.list hq
   refine ⟨pl.isList.typeIs, fun a e => ?_⟩
   cases e
   obtain ⟨o, n, e, c, hd, _⟩ := pl
   exact ⟨o, e, hd⟩
  ·refine ⟨⟨o, I.kIn p o hk, hc⟩, fun a e => ?_⟩
   cases e
   exact ⟨o, I.kIn _ o hk, hd⟩
  ·have z : ∃ o, s.heap.get? p = some o /\ o.ExactDict := by
    rcases hk with ⟨kvs, hk⟩ | ⟨kvs, hk⟩
    ·obtain ⟨_, _, _, _, o, _, _, e, ex, _⟩ := I.hok p _ hk
     exact ⟨o, e, ex⟩
    ·obtain ⟨_, _, _, _, o, _, _, e, ex, _⟩ := I.hok p _ hk
     exact ⟨o, e, ex⟩
   obtain ⟨o, e, ex⟩ := z
   refine ⟨⟨o, e, ex.1⟩, fun a e2 => ?_⟩
   cases e2
   exact ⟨o, e, ex.2.1⟩
  ·obtain ⟨o, _, _, _, e, ex, _⟩ := I.hok p _ hk
   refine ⟨⟨o, e, ex.1⟩, fun a e2 => ?_⟩
   cases e2
   exact ⟨o, e, ex.2.1⟩
 | _ => exact False.elim ty
def tBM0 (K : PySem.W.Frag) (T : String) (r : V -> List V -> Hp -> VK -> Prop) (to : TE) : TE := fun σ H Q => to σ H fun x H1 => tyV K T x H1 /\ r x [] H1 Q
def tBM (K : PySem.W.Frag) (T : String) (r : V -> List V -> Hp -> VK -> Prop) (to : TE) (t : TA) : TE := fun σ H Q => to σ H fun x H1 => tyV K T x H1 /\ t σ H1 fun xs H2 => r x xs H2 Q
variable {o e : Expr} {es : List Expr} {to : TE} {t : TA} {name : Str} {apos cpos : Pos} {T id : String} {r : V -> List V -> Hp -> VK -> Prop}
theorem pe_bm0 (pa : PlainAttrs T) (slot : Slot T name id) (hty : typeOf (.builtin id) = pure (.type "method_descriptor")) (hm : MtR X id r) (ho : PE X o to)
  (hbase : attributeBase o name X.env (eval o X.env) = eval o X.env := by rfl) (hline : (apos.endLine == cpos.line) = true := by rfl) : PE X (.Call (.Attribute o name apos) [] [] cpos) (tBM0 X.K T r to) := by
 intro pins s σ H Q I h
 refine wpAny_Call_method0_late hbase hline (thn (ho pins s σ H _ I h) fun v s1 ⟨x, H1, I1, r1, ty, q1⟩ => ?_)
 obtain ⟨h1, h2⟩ := tyV_is I1 r1 ty
 exact ⟨T, id, pa, slot, hty, h1, h2, Calls.callWith_builtin rfl (PySem.evalArgs_none (hm pins s1 σ H1 x [] v [] Q I1 r1 .nil q1))⟩
theorem pe_bm (pa : PlainAttrs T) (slot : Slot T name id) (hty : typeOf (.builtin id) = pure (.type "method_descriptor")) (hm : MtR X id r) (ho : PE X o to) (ha : PA X (e :: es) t)
  (hbase : attributeBase o name X.env (eval o X.env) = eval o X.env := by rfl)
  (hfew : ((backTo cpos (starEach (e :: es) X.env)).all (fun x => !x.1) && (backToKw cpos (keywordEach [] X.env)).all (fun x => x.1.isSome)
   && decide ((e :: es).length + ([] : List Keyword).length + (if ([] : List Keyword).isEmpty then 0 else 1) < 30)) = true := by rfl)
  (hline : (apos.endLine == cpos.line) = true := by rfl) (hs : starEach (e :: es) X.env = (false, eval e X.env) :: starEach es X.env := by rfl) (hplain : (backTo cpos (starEach es X.env)).any (·.1) = false := by rfl) :
  PE X (.Call (.Attribute o name apos) (e :: es) [] cpos) (tBM X.K T r to t) := by
 intro pins s σ H Q I h
 refine wpAny_Call_method_late hbase hfew hline rfl (thn (ho pins s σ H _ I h) fun v s1 ⟨x, H1, I1, r1, ty, q1⟩ => ?_)
 obtain ⟨h1, h2⟩ := tyV_is I1 r1 ty
 refine ⟨T, id, pa, slot, hty, h1, h2, ?_⟩
 have hA := ha cpos pins s1 σ H1 _ I1 q1
 rw [hs] at hA ⊢
 refine Calls.callWith_builtin (by show (false || (backTo cpos (starEach es X.env)).any (·.1)) = false; rw [hplain] <;> rfl) (Calls.evalArgs_plain ?_)
 exact thn hA fun us s2 ⟨vs, H2, I2, r2, q2⟩ => hm pins s2 σ H2 x vs v us Q I2 r1 r2 q2
end
end L2
namespace L2
open PySem PySem.Spec PyProof.Rows
def MtM (X : Cx) (id : String) (r : V -> List V -> Hp -> VK -> Prop) : Prop :=
 ∀ (pins : List (Addr × Obj)) (s : Shared) (σ : St) (H : Hp) (x : V) (xs : List V) (v : Value) (us : List Value) (Q : VK), Inv X pins σ H s -> RelV x v -> Vals xs us -> r x xs H Q ->
  wpAny (model X.prog X.w) X.A (call (.builtin id) (v :: us)) (EP X pins σ Q) X.xe s
theorem Vals.one : ∀ {x : V} {us : List Value}, Vals [x] us -> ∃ u, us = [u] /\ RelV x u
 | _, _, .cons r .nil => ⟨_, rfl, r⟩
section
variable {X : Cx} {pins : List (Addr × Obj)} {σ : St} {H : Hp} {s : Shared} {l b : Addr} {xs ys zs : List V}
theorem Inv.lset {its its' : List Value} {n : Nat} {f : Array Value -> Array Value} {t' : Nat} (I : Inv X pins σ H s) (hH : H l = some (.lst xs))
  (e : s.heap.get? l = some { cls := .type "list", data := .seq its.toArray n }) (hf : f its.toArray = its'.toArray) (hv : Vals ys its') (hz : ys.length <= sizeLine) :
  Inv X pins σ (upd H l (.lst ys)) { s with heap := s.heap.update l (Obj.mapSeq f), toks := t' } := by
 have q := PySem.IsL.update e f
 rw [hf] at q
 refine I.write (x := l) (e := l) (by rw [hH]; exact trivial) (.inl rfl) (fun b' u hb hu => (Heap.get?_update_other s.heap (Obj.mapSeq f) (Ne.symm hb)).trans hu) ⟨_, q⟩ ?_
 exact ⟨hz, its', _, hv, q⟩
theorem Inv.lnew {its : List Value} {t' : Nat} (I : Inv X pins σ H s) (hv : Vals ys its) (hz : ys.length <= sizeLine) :
  Inv X pins σ (upd H s.heap.objs.size (.lst ys)) { s with heap := s.heap.push { cls := .type "list", data := .seq its.toArray }, toks := t' } :=
 I.laid (fun _ _ q => Heap.get?_push_of_some _ q) (Nat.le_refl _) ⟨hz, its, 0, hv, Heap.get?_push_size _ rfl⟩
theorem Inv.fresh (I : Inv X pins σ H s) : H s.heap.objs.size = none := I.hok.fresh (Nat.le_refl _)
theorem Inv.lstM (I : Inv X pins σ H s) (hH : H l = some (.lst xs)) : xs.length <= sizeLine /\ ∃ (its : List Value) (n : Nat), Vals xs its /\ xs.length = its.length /\ s.heap.get? l = some { cls := .type "list", data := .seq its.toArray n } := by
 obtain ⟨z, its, n, r, e⟩ := I.hok l _ hH
 exact ⟨z, its, n, r, r.length, e⟩
end
section
variable {X : Cx}
def rAppend : V -> List V -> Hp -> VK -> Prop := fun x vs H Q => ∃ l xs y, x = .ref l /\ vs = [y] /\ H l = some (.lst xs) /\ xs.length < sizeLine /\ Q .non (upd H l (.lst (xs ++ [y])))
theorem mt_append : MtM X "list.append" rAppend := by
 intro pins s σ H x vs v us Q I rx rv h
 obtain ⟨l, xs, y, rfl, rfl, hH, hz, q⟩ := h
 cases rx
 obtain ⟨u, rfl, ru⟩ := rv.one
 obtain ⟨z, its, n, r, hl, e⟩ := I.lstM hH
 refine call_meets F.slot_list_append ⟨_, e, rfl⟩ F.entry_list_append (F.args_list_append_2 _ _) (PySem.list_append l its.toArray n u (by rw [List.size_toArray]; omega)) ⟨e, ?_⟩
 refine ⟨.non, _, I.lset (its' := its ++ [u]) hH e (by simp) (r.append (.cons ru .nil)) ?_, rfl, q⟩
 rw [List.length_append, List.length_singleton]
 omega
def rCat : R2 := fun x y H Q => ∃ l b xs zs, x = .ref l /\ y = .ref b /\ H l = some (.lst xs) /\ H b = some (.lst zs) /\ xs.length + zs.length <= sizeLine /\ ∀ p, H p = none -> Q (.ref p) (upd H p (.lst (xs ++ zs)))
theorem op_cat : OpR X (binaryOp .Add) rCat := by
 intro pins s σ H x y v u Q I rx ry h
 obtain ⟨l, b, xs, zs, rfl, rfl, hH, hB, hz, q⟩ := h
 cases rx
 cases ry
 obtain ⟨z, its, n, r, hl, e⟩ := I.lstM hH
 obtain ⟨z2, its2, n2, r2, hl2, e2⟩ := I.lstM hB
 refine PySem.P.add_list e e2 ?_ (by rw [List.size_toArray, List.size_toArray]; omega)
 have ea : its.toArray ++ its2.toArray = (its ++ its2).toArray := by simp
 rw [ea]
 exact ⟨.ref _, _, I.lnew (t' := s.toks) (r.append r2) (by rw [List.length_append]; omega), rfl, q _ I.fresh⟩
end
section
variable {prog : Program} {w : World} {A : Around} {E : Value -> Shared -> Prop} {s : Shared}
end
section
variable {X : Cx}
end
end L2
namespace Att
open PySem PySem.W PySem.Calls PyProof.Rows
theorem ints_of_wellAll {P : Params} {h : Heap} : ∀ (ns : List Int) (vs : List Value), WellAll P h vs (ns.map WData.int) -> IntsAre vs ns := by
 intro ns
 induction ns with
 | nil =>
  intro vs w
  rw [List.map_nil] at w
  cases w
  exact .nil
 | cons n ns ih =>
  intro vs w
  rw [List.map_cons] at w
  cases w with
  | cons a b =>
   cases a
   exact .cons _ _ (ih _ b)
theorem script_of {l : OpenLaw} {n : Nat} (hn : l.most = some n) {P : Params} {h : Heap} {args : List WData} {vals : List Value}
  (hpre : l.row.toRowW.claim.pre args = true) (hwl : WellAll P h vals args) :
  ∃ a vs ns, vals = [Value.ref a] /\ args = [WData.list (ns.map WData.int)] /\ h.get? a = some { cls := .type "list", data := .seq vs.toArray } /\ IntsAre vs ns /\ ns.length <= n := by
 have hsh : WShape.hasAll [] args [.list .int] = true := (pre_splitW hpre).1
 have hc : l.pre.holds [] { args := args } = true := (pre_splitW hpre).2
 obtain ⟨d, r, rfl, h1, h2⟩ := hasAllW_cons hsh
 obtain rfl := hasAllW_nil h2
 obtain ⟨xs, rfl, h3⟩ := hasW_list h1
 obtain ⟨ns, rfl⟩ := items_int h3
 have hlen : ns.length <= n := by
  unfold OpenLaw.pre at hc
  have h4 : (WTm.not (.lt (.lit (.int (n : Int))) (.len (.arg 0)))).holds [] { args := [.list (ns.map .int)] } = true := by
   have h4 := (holds_andW hc).1
   rw [hn] at h4
   exact h4
  have h5 := condW_of h4 (w_not (w_lt w_lit (w_len_list (w_arg rfl))))
  rw [List.length_map] at h5
  refine Nat.le_of_not_lt fun q => ?_
  have q' : (n : Int) < ((ns.length : Nat) : Int) := by omega
  first
   | (rw [decide_eq_true q'] at h5; exact absurd h5 (by decide))
   | (simp at h5; omega)
 cases hwl with
 | cons w1 w2 =>
  cases w2
  cases w1 with
  | list ho hall => exact ⟨_, _, ns, rfl, rfl, ho, ints_of_wellAll ns _ hall, hlen⟩
theorem post_true (l : OpenLaw) (args : List WData) : l.row.toRowW.claim.post args (.bool true) args = true :=
 postW_of (r := l.row.toRowW) (X := (true == true))
  (show WShape.has [] (.bool true) .bool = true by first | rfl | decide | simp [WShape.has, WShape.arms, WShape.armsAll])
  (show (WTm.eq .res (.lit (.bool true))).value [] { args := args, res := some (.bool true), after := args } = some (.bool (true == true)) from w_eq_bool (w_res rfl) w_lit) rfl
theorem attach_call {l : OpenLaw} {n : Nat} {q : Program} {loose : List Str} {XP : (Str -> Option Value) -> Heap -> Prop} {YP : World -> Heap -> Prop} {d : DefRec}
  (hn : l.most = some n) (hdf : d.params.defaults = [])
  (call : ∀ (w : World) (s₀ s₁ : Shared) (mg mb : Str -> Option Value) (fa : Addr) (o : Obj) (pm cd doc : Value) (a : Addr) (vs : List Value) (ns : List Int),
   Ground q loose [] XP w s₀ mg mb s₁.heap -> YP w s₁.heap ->
   s₁.heap.get? fa = some o -> o.data = .func (docDef d.name d.params d.body d.scope pm cd doc) -> s₁.heap.CodeRec cd d.name -> mg d.name = some (.ref fa) ->
   s₁.heap.get? a = some { cls := .type "list", data := .seq vs.toArray } -> IntsAre vs ns -> ns.length <= n -> s₁.gens = #[] ->
   codeAny (model l.prog w) callerA (.call (.ref fa) ⟨[.ref a], []⟩) (fun r s' => r = .ok (.ret (.bool true)) /\ OldK s₁.heap s'.heap /\ s'.os = s₁.os /\ AllBare s'.gens) s₁) :
  WalkO q loose XP YP l.row.toRowW d [] (fun f vs => PySem.call f vs) := by
 intro w s₀ s₁ mg mb G Y fa o pm cd doc dV kV ho hd hcd hD hmg hg args vals as hpre hlay hrd hwl hlo
 obtain rfl : dV = .none := Dflts.none hD hdf
 obtain rfl : kV = .none := Dflts.noKw hD
 obtain ⟨a, vs, ns, rfl, rfl, hobj, hints, hlen⟩ := script_of hn hpre hwl
 refine enter_call (codeAny_mono (call w s₀ s₁ mg mb fa o pm cd doc a vs ns G Y ho (fd_plain hd) hcd hmg hobj hints hlen hg) fun r s' hq => ?_)
 obtain ⟨rfl, h2, h3, h4⟩ := hq
 exact ⟨.inl ⟨.bool true, .bool true, [], rfl, fun _ => rfl, .bool true, post_true l _, fun _ => ⟨List.Pairwise.nil, fun _ hm => (nomatch hm)⟩⟩, h2, h3, h4⟩
section
variable {prog : Program} {w : World} {A : Around} {E : Value -> Shared -> Prop} {s : Shared} {K : Frag}
end
end Att
namespace L2
open PySem PySem.Spec PyProof.Rows
theorem vals_ints : ∀ {vs : List Value} {ns : List Int}, IntsAre vs ns -> Vals (ns.map V.int) vs
 | _, _, .nil => .nil
 | _, _, .cons n t h => .cons ⟨t, rfl⟩ (vals_ints h)
def Only (H : Hp) : Prop := ∀ b, H b = none \/ ∃ o xs, H b = some (.frz o (.lst xs))
theorem law_call {P : Program} {w : World} {K : PySem.W.Frag} {mg mb : Str -> Option Value} {CX : CXT} {k : Nat} {fa a : Addr} {fd : FuncData} {x : Str} {sp : Sp} {s₁ : Shared} {vs : List Value} {ns : List Int}
  (KX : K.In s₁.heap) (hns : s₁.heap.Ns mainGlobals mg) (hb : s₁.heap.Ns builtinsNs mb) (hbb : ∀ x : Str, x ≠ "__name__" -> mb x = bootBuiltins x) (hlim : s₁.heap.NoLimit) (hg : s₁.gens = #[])
  (ha : s₁.heap.get? a = some { cls := .type "list", data := .seq vs.toArray }) (hi : IntsAre vs ns) (hl : ns.length <= sizeLine) (hr : Room k callerA)
  (F : ∀ base : Heap, K.In base -> base.Ns mainGlobals mg -> FnOk P w K mg base CX k fa fd [x] sp) (hbind : ∀ (s : Shared) (u : Value), BindsTo s fd ⟨[u], []⟩ [(x, u)])
  (hsp : ∀ H : Hp, Only H -> SqL K H a (ns.map V.int) -> sp [.ref a] H (fun v _ => v = .bl true) fun _ _ _ => False)
  (hCX : ∀ H e s', CX [] H s₁ (fun _ _ _ => False) e s' -> False) :
  codeAny (model P w) callerA (.call (.ref fa) ⟨[.ref a], []⟩) (fun r s' => r = .ok (.ret (.bool true)) /\ OldK s₁.heap s'.heap /\ s'.os = s₁.os /\ AllBare s'.gens) s₁ := by
 have rv := vals_ints hi
 have lenV := hi.length
 have core : ∀ H : Hp, Only H -> SqL K H a (ns.map V.int) -> HOk P w H s₁.heap -> (∀ b, H b ≠ none -> b = a) -> (H a ≠ none -> K.lookup a = none) ->
   codeAny (model P w) callerA (.call (.ref fa) ⟨[.ref a], []⟩) (fun r s' => r = .ok (.ret (.bool true)) /\ OldK s₁.heap s'.heap /\ s'.os = s₁.os /\ AllBare s'.gens) s₁ := by
  intro H hO hS hok hA hK
  have base_of : ∀ {b : Addr} {o : Obj}, s₁.heap.get? b = some o -> H b = none -> (hidT s₁.heap H).get? b = some o := fun e n => hidT_get e n
  have noA : ∀ {b : Addr} {o : Obj} {es : Array DictEntry} {ep : Nat}, s₁.heap.get? b = some o -> o.data = .dict es ep -> H b = none := fun {b o es ep} e d => by
   cases q : H b with
   | none => rfl
   | some u =>
    have e' : b = a := hA b (by rw [q]; simp)
    subst e'
    rw [ha] at e; cases e
    have d' : Data.seq vs.toArray _ = Data.dict es ep := d
    cases d'
  have nsK : ∀ {b : Addr} {m : Str -> Option Value}, s₁.heap.Ns b m -> (hidT s₁.heap H).Ns b m := fun {b m} ⟨o, es, ep, e, d, r⟩ => ⟨o, es, ep, base_of e (noA e d), d, r⟩
  have hKb : K.In (hidT s₁.heap H) := fun b o e => base_of (KX b o e) (by
   cases q : H b with
   | none => rfl
   | some u =>
    have e' : b = a := hA b (by rw [q]; simp)
    subst e'
    rw [hK (by rw [q]; simp)] at e; cases e)
  have hM : Mod K mg (hidT s₁.heap H) := ⟨hKb, nsK hns, ⟨mb, nsK hb, hbb⟩, let ⟨mc, h1, h2⟩ := hlim; ⟨mc, nsK h1, h2⟩⟩
  have e0 : Env0 P w K mg (hidT s₁.heap H) callerA [] s₁ H := ⟨rfl, hM, fun b o e => of_hidT e, Nat.le_of_eq (hidT_size _ _), trivial, fun b hb => absurd (show b ∈ ([] : List Addr) from hb) (by simp), hok, .of_eq hg⟩
  refine codeAny_mono ((F _ hKb (nsK hns)).run callerA [] s₁ H ⟨[.ref a], []⟩ [.ref a] [.ref a] _ _ hr e0 (hbind s₁ (.ref a)) (.cons rfl .nil) (hsp H hO hS)) fun r s' h => ?_
  cases r with
  | error e => exact (hCX H e s' h).elim
  | ok fl =>
   cases fl with
   | next => exact False.elim h
   | brk => exact False.elim h
   | cont => exact False.elim h
   | ret u =>
    obtain ⟨v, H', os, bare, un, hok', r', q⟩ := h
    have q' : v = .bl true := q
    subst q'
    obtain rfl : u = Value.bool true := r'
    refine ⟨rfl, OldK.of_keep fun b o e => ?_, os, bare⟩
    cases q : H b with
    | none => exact un.keep b o e q (by intro z; exact absurd (show b ∈ ([] : List Addr) from z) (by simp)) (by simp)
    | some u =>
     rcases hO b with z | ⟨ob, xs, z⟩
     ·rw [q] at z; cases z
     ·have z2 := un.frzs b ob _ z
      obtain ⟨e1, _⟩ := hok b _ z
      obtain ⟨e2, _⟩ := hok' b _ z2
      rw [e] at e1; cases e1
      exact e2
 cases hk : K.lookup a with
 | some o =>
  have e := KX a o hk
  rw [ha] at e
  cases e
  refine core (fun _ => none) (fun _ => .inl rfl) (.inr ⟨_, vs.toArray, _, hk, rfl, rfl, rfl, by rw [List.size_toArray, lenV]; exact hl, by simpa using rv⟩) (fun b u z => by have z' : (none : Option HO) = some u := z; cases z') (fun b z => absurd rfl z) fun z => absurd rfl z
 | none =>
  refine core (fun b => if b = a then some (.frz { cls := .type "list", data := .seq vs.toArray } (.lst (ns.map V.int))) else none) (fun b => ?_) (.inl (.inr ⟨{ cls := .type "list", data := .seq vs.toArray }, if_pos rfl⟩)) (fun b u z => ?_) (fun b z => ?_) fun _ => hk
  ·by_cases hb : b = a
   ·exact .inr ⟨_, _, if_pos hb⟩
   ·exact .inl (if_neg hb)
  ·by_cases hb : b = a
   ·have z' := (if_pos hb).symm.trans z
    cases z'
    subst hb
    exact ⟨ha, by rw [List.length_map]; exact hl, vs, _, rv, ha⟩
   ·have z' := (if_neg hb).symm.trans z
    cases z'
  ·by_cases hb : b = a
   ·exact hb
   ·exact absurd (if_neg hb) z
end L2
namespace L2
open PySem PySem.Spec PyProof.Rows
theorem walk_of {l : PySem.W.OpenLaw} {n k : Nat} {q : Program} {loose : List Str} {XP : (Str -> Option Value) -> Heap -> Prop} {YP : World -> Heap -> Prop} {d : DefRec} {K : Params -> PySem.W.Frag} {CX : World -> CXT} {sp : World -> Sp} {x : Str}
  (hn : l.most = some n) (hn2 : n <= sizeLine) (hdf : d.params.defaults = []) (hr : Room k callerA)
  (hY : ∀ (w : World) (h : Heap), YP w h -> (K w.params).In h)
  (F : ∀ (w : World) (mg : Str -> Option Value) (fa : Addr) (h : Heap), (K w.params).In h -> h.Ns mainGlobals mg -> mg d.name = some (.ref fa) ->
   ∃ fd : FuncData, (∀ (s : Shared) (u : Value), BindsTo s fd ⟨[u], []⟩ [(x, u)]) /\
    ∀ base : Heap, (K w.params).In base -> base.Ns mainGlobals mg -> FnOk l.prog w (K w.params) mg base (CX w) k fa fd [x] (sp w))
  (hsp : ∀ (w : World) (H : Hp) (a : Addr) (ns : List Int), ns.length <= n -> Only H -> SqL (K w.params) H a (ns.map V.int) -> sp w [.ref a] H (fun v _ => v = .bl true) fun _ _ _ => False)
  (hCX : ∀ (w : World) (H : Hp) (s : Shared) (e : Value) (s' : Shared), CX w [] H s (fun _ _ _ => False) e s' -> False) :
  PySem.W.WalkO q loose XP YP l.row.toRowW d [] (fun f vs => PySem.call f vs) := by
 refine Att.attach_call hn hdf fun w s₀ s₁ mg mb fa o pm cd doc a vs ns G Y ho hd hcd hmg hobj hints hlen hg => ?_
 have KX := hY w _ Y
 obtain ⟨fd, hb, hF⟩ := F w mg fa _ KX G.T.g hmg
 exact law_call KX G.T.g G.T.b G.T.builtins G.T.nolimit hg hobj hints (Nat.le_trans hlen hn2) hr hF hb (fun H hO hS => hsp w H a ns hlen hO hS) fun H e s' => hCX w H s₁ e s'
end L2
namespace L2
open PySem PySem.Spec PyProof.Rows
def defArgs (s : Stmt) : Arguments := match s with
 | .FunctionDef _ a _ _ _ _ _ _ _ _ => a
 | _ => { posonlyargs := [], args := [], vararg := none, kwonlyargs := [], kw_defaults := [], kwarg := none, defaults := [] }
def defBody (s : Stmt) : List Stmt := match s with
 | .FunctionDef _ _ b _ _ _ _ _ _ _ => b
 | _ => []
def defScope (s : Stmt) : Scope := match s with
 | .FunctionDef _ _ _ _ _ _ sc _ _ _ => sc
 | _ => { kind := .function, names := [], isGenerator := false, isCoroutine := false }
abbrev CX0 : CXT := fun _ _ _ _ _ _ => False
abbrev E0 : XK := fun _ _ _ => False
theorem pass0 {X : Cx} : Passes CX0 X E0 := fun _ _ _ _ _ _ _ h => h.elim
structure Fun (K : PySem.W.Frag) (x qual : Str) (st : Stmt) (f : Addr) (fd : FuncData) : Prop where
 ex : ∃ (oc : Value) (od : Option Addr) (kV doc pm : Value) (an : Option Addr) (cdv ct : Value) (osl : Array (Option Value)),
  fd = PySem.W.fnOf x qual (defArgs st) (defBody st) (defScope st) .none kV doc pm an cdv ct /\ K.lookup f = some ⟨oc, od, .func fd, osl⟩ /\ PySem.W.codeIn K cdv qual = true
 kp : PySem.W.keepIn K (.ref f) = true
section
variable {P : Program} {w : World} {K : PySem.W.Frag} {mg : Str -> Option Value} {base : Heap}
theorem Fun.ok {x qual : Str} {st : Stmt} {f : Addr} {fd : FuncData} {N ps : List Str} {k : Nat} {sp : Sp} (F : Fun K x qual st f fd) (S : FnScope N ps (defScope st)) (len : ∀ vs H Q E, sp vs H Q E -> vs.length = ps.length)
  (hbody : ∀ (cdv : Value) (A : Around) (outer : List Env) (s : Shared) (H : Hp) (vs : List V) (Q : VK) (E : XK), Room k (A.deeper (envOfC qual (defScope st) s.heap.objs.size f cdv)) -> sp vs H Q E ->
   ∃ t, PSs (cxOf CX0 P w K mg base N qual (defScope st) f cdv A outer s H E).nox (defBody st) t /\ t { nx := fun _ H' => Q .non H', rt := Q } (start N vs) H) : FnOk P w K mg base CX0 (k + 1) f fd ps sp := by
 obtain ⟨oc, od, kV, doc, pm, an, cdv, ct, osl, rfl, lk, hcd⟩ := F.ex
 refine fn_of lk hcd S len fun A outer s H vs Q E hr hsp => ?_
 obtain ⟨t, h, q⟩ := hbody cdv A outer s H vs Q E hr hsp
 exact ⟨t, h.nox, q⟩
theorem Fun.binds {x qual : Str} {st : Stmt} {f : Addr} {fd : FuncData} {ps : List Str} (F : Fun K x qual st f fd)
  (h : ∀ (kV doc pm : Value) (an : Option Addr) (cdv ct : Value) (us : List Value), us.length = ps.length -> bindArgs (PySem.W.fnOf x qual (defArgs st) (defBody st) (defScope st) .none kV doc pm an cdv ct) ⟨us, []⟩ = pure (ps.zip us)) : Binds K fd ps [] := by
 obtain ⟨oc, od, kV, doc, pm, an, cdv, ct, osl, rfl, lk, hcd⟩ := F.ex
 exact .all (h kV doc pm an cdv ct)
theorem fun_mk {x qual : Str} {st : Stmt} {f : Addr} {oc : Value} {od an : Option Addr} {osl : Array (Option Value)} {kV doc pm cdv ct : Value} (l : K.lookup f = some ⟨oc, od, .func (PySem.W.fnOf x qual (defArgs st) (defBody st) (defScope st) .none kV doc pm an cdv ct), osl⟩)
  (c : PySem.W.codeIn K cdv qual = true) (k : PySem.W.keepIn K (.ref f) = true) : Fun K x qual st f (PySem.W.fnOf x qual (defArgs st) (defBody st) (defScope st) .none kV doc pm an cdv ct) := ⟨⟨oc, od, kV, doc, pm, an, cdv, ct, osl, rfl, l, c⟩, k⟩
end
section
variable {X : Cx}
theorem pv (i : Nat) {x : Str} {pos : Pos} (hN : X.N[i]? = some x := by rfl) (hv : Vis X.env.scope x := by first | exact Or.inl rfl | exact Or.inr (Or.inl rfl) | exact Or.inr (Or.inr rfl)) (hd : (x == ("__debug__" : Str)) = false := by decide)
  (hcd : (x == ("__classdict__" : Str)) = false := by decide) : PE X (.Name x pos) (tVar i) := pe_var hN hv hd hcd
end
theorem iteF {A B : Prop} (h : B) : if false = true then A else B := by
 rw [if_neg Bool.false_ne_true]
 exact h
theorem iteT {A B : Prop} (h : A) : if true = true then A else B := by
 rw [if_pos rfl]
 exact h
theorem ite2 {c A B : Prop} [Decidable c] (h1 : c -> A) (h2 : ¬ c -> B) : if c then A else B := by
 by_cases h : c
 ·rw [if_pos h]
  exact h1 h
 ·rw [if_neg h]
  exact h2 h
def Same (H H' : Hp) : Prop := ∀ b o, H b = some o -> H' b = some o
theorem Same.refl (H : Hp) : Same H H := fun _ _ h => h
theorem Same.trans {H H1 H2 : Hp} (a : Same H H1) (b : Same H1 H2) : Same H H2 := fun c o h => b c o (a c o h)
theorem Same.free {H H' : Hp} (e : Same H H') {l : Addr} (h : H' l = Option.none) : H l = Option.none := by
 cases q : H l with
 | none => rfl
 | some o =>
  rw [e l o q] at h
  cases h
theorem Same.seq {K : PySem.W.Frag} {H H' : Hp} {a : Addr} {xs : List V} (e : Same H H') (h : SqL K H a xs) : SqL K H' a xs := by
 rcases h with (h | ⟨o, h⟩) | h
 ·exact .inl (.inl (e _ _ h))
 ·exact .inl (.inr ⟨o, e _ _ h⟩)
 ·exact .inr h
end L2
set_option Elab.async false
set_option linter.all false
set_option maxRecDepth 100000
namespace L2
open PySem PySem.Spec PyProof.Rows
def clGo (env : Env) : List (Str × NameKind) -> List (Str × Addr) -> List (Str × Addr)
 | [], acc => acc
 | (n, k) :: r, acc => if k == .free then clGo env r ((n, (env.cells.lookup n).getD 0) :: acc) else clGo env r acc
def clOf (scope : Scope) (env : Env) : List (Str × Addr) := clGo env scope.names []
theorem clGo_mem {env : Env} {y : Str} {c : Addr} : ∀ {names : List (Str × NameKind)} {acc : List (Str × Addr)}, (y, c) ∈ clGo env names acc -> (y, c) ∈ acc \/ ((y, NameKind.free) ∈ names /\ c = (env.cells.lookup y).getD 0)
 | [], _, h => .inl h
 | (n, k) :: r, acc, h => by
  unfold clGo at h
  split at h
  ·rename_i hk
   have hk : k = .free := by simpa using hk
   rcases clGo_mem h with h1 | ⟨h1, h2⟩
   ·rcases List.mem_cons.mp h1 with h1 | h1
    ·cases h1
     exact .inr ⟨by rw [hk]; exact List.mem_cons_self, rfl⟩
    ·exact .inl h1
   ·exact .inr ⟨List.mem_cons_of_mem _ h1, h2⟩
  ·rcases clGo_mem h with h1 | ⟨h1, h2⟩
   ·exact .inl h1
   ·exact .inr ⟨List.mem_cons_of_mem _ h1, h2⟩
theorem clGo_keep {env : Env} {y : Str} : ∀ {names : List (Str × NameKind)} {acc : List (Str × Addr)}, (acc.lookup y).isSome = true -> ((clGo env names acc).lookup y).isSome = true
 | [], _, h => h
 | (n, k) :: r, acc, h => by
  unfold clGo
  split
  ·refine clGo_keep ?_
   rw [List.lookup_cons]
   split
   ·rfl
   ·exact h
  ·exact clGo_keep h
theorem clGo_has {env : Env} {y : Str} : ∀ {names : List (Str × NameKind)} {acc : List (Str × Addr)}, (y, NameKind.free) ∈ names -> ((clGo env names acc).lookup y).isSome = true
 | [], _, h => by simp at h
 | (n, k) :: r, acc, h => by
  unfold clGo
  rcases List.mem_cons.mp h with h1 | h1
  ·cases h1
   rw [if_pos (by rfl)]
   refine clGo_keep ?_
   rw [List.lookup_cons]
   simp
  ·split
   ·exact clGo_has h1
   ·exact clGo_has h1
theorem closure_go {env : Env} : ∀ (names : List (Str × NameKind)) (acc : List (Str × Addr)), (∀ p ∈ names, p.2 = .free -> (env.cells.lookup p.1).isSome = true) ->
  (forIn names acc (fun (x : Str × NameKind) cs => (if x.2 == .free then do let c <- cellOf env x.1; pure (ForInStep.yield ((x.1, c) :: cs)) else pure (ForInStep.yield cs) : Sem (ForInStep (List (Str × Addr)))))) = (pure (clGo env names acc) : Sem _)
 | [], acc, _ => by rw [List.forIn_nil]; rfl
 | (n, k) :: r, acc, h => by
  rw [List.forIn_cons]
  unfold clGo
  cases hk : (k == NameKind.free) with
  | false => exact closure_go r acc fun p hp => h p (List.mem_cons_of_mem _ hp)
  | true =>
   have hk' : k = .free := by simpa using hk
   have h1 := h (n, k) List.mem_cons_self hk'
   have e : cellOf env n = (pure ((env.cells.lookup n).getD 0) : Sem Addr) := by
    unfold cellOf
    cases e : env.cells.lookup n with
    | none => rw [e] at h1; cases h1
    | some c => rfl
   show ((do let c <- cellOf env n; pure (ForInStep.yield ((n, c) :: acc))) >>= _ : Sem _) = _
   rw [e]
   exact closure_go r ((n, (env.cells.lookup n).getD 0) :: acc) fun p hp => h p (List.mem_cons_of_mem _ hp)
theorem closure_eq {scope : Scope} {env : Env} (h : ∀ p ∈ scope.names, p.2 = .free -> (env.cells.lookup p.1).isSome = true) : closureFor scope env = pure (clOf scope env) := by
 have e := closure_go (env := env) scope.names [] h
 unfold closureFor clOf
 first
  | (simp only [bind_pure]; exact e)
  | exact e
  | (rw [<- e]; rfl)
theorem relabel_free {env : Env} : ∀ {names : List (Str × NameKind)} {x : Str}, names.lookup x = some .free ->
  (names.map fun (n, k) => if (k == NameKind.free && env.scope.kind == .function && env.kindOf n == some .cell) then (n, NameKind.cell) else (n, k)).lookup x = some .cell \/
  (names.map fun (n, k) => if (k == NameKind.free && env.scope.kind == .function && env.kindOf n == some .cell) then (n, NameKind.cell) else (n, k)).lookup x = some .free
 | [], _, h => by simp at h
 | (n, k) :: r, x, h => by
  have ih := @relabel_free env r x
  show List.lookup x ((if (k == NameKind.free && env.scope.kind == .function && env.kindOf n == some .cell) = true then (n, NameKind.cell) else (n, k)) :: _) = _ \/ List.lookup x ((if (k == NameKind.free && env.scope.kind == .function && env.kindOf n == some .cell) = true then (n, NameKind.cell) else (n, k)) :: _) = _
  cases hx : x == n with
  | true =>
   simp only [List.lookup_cons, hx] at h
   cases h
   by_cases hc : (NameKind.free == NameKind.free && env.scope.kind == .function && env.kindOf n == some .cell) = true
   ·rw [if_pos hc]; exact .inl (by simp only [List.lookup_cons, hx])
   ·rw [if_neg hc]; exact .inr (by simp only [List.lookup_cons, hx])
  | false =>
   simp only [List.lookup_cons, hx] at h
   by_cases hc : (k == NameKind.free && env.scope.kind == .function && env.kindOf n == some .cell) = true
   ·rw [if_pos hc]; simp only [List.lookup_cons, hx]; exact ih h
   ·rw [if_neg hc]; simp only [List.lookup_cons, hx]; exact ih h
theorem relabel_mem {env : Env} {names : List (Str × NameKind)} {x : Str} {k : NameKind} (h : (x, k) ∈ (names.map fun (n, k) => if (k == NameKind.free && env.scope.kind == .function && env.kindOf n == some .cell) then (n, NameKind.cell) else (n, k))) :
  (x, k) ∈ names \/ (x, NameKind.free) ∈ names := by
 obtain ⟨⟨n, k'⟩, h1, h2⟩ := List.mem_map.mp h
 dsimp only at h2
 split at h2
 ·rename_i hc
  cases h2
  have : k' = .free := by
   cases k' <;> first | rfl | (exfalso; revert hc; simp)
  subst this
  exact .inr h1
 ·cases h2
  exact .inl h1
def FvOk (X : Cx) (scope : Scope) : List (Str × Nat) -> Prop
 | [] => True
 | p :: r => (X.N[p.2]? = some p.1 /\ (X.env.scope.names.lookup p.1 = some .cell \/ X.env.scope.names.lookup p.1 = some .free) /\ scope.names.lookup p.1 = some .free) /\ FvOk X scope r
theorem FvOk.get {X : Cx} {scope : Scope} : ∀ {fv : List (Str × Nat)} {j : Nat} {p : Str × Nat}, FvOk X scope fv -> fv[j]? = some p -> X.N[p.2]? = some p.1 /\ (X.env.scope.names.lookup p.1 = some .cell \/ X.env.scope.names.lookup p.1 = some .free) /\ scope.names.lookup p.1 = some .free
 | [], _, _, _, e => by simp at e
 | _ :: _, 0, _, h, e => by simp at e; subst e; exact h.1
 | _ :: _, j + 1, _, h, e => h.2.get (j := j) (by simpa using e)
structure CompOk (scope : Scope) (x : Str) (fv : List (Str × Nat)) : Prop where
 kind : scope.kind = .function
 nocell : ∀ y ∈ scope.names, y.2 ≠ .cell
 names : ∀ y ∈ scope.names, y.2 = .local -> scope.names.lookup y.1 = some .local
 hx : scope.names.lookup x = some .local
 fr : ∀ y ∈ scope.names, y.2 = .free -> y.1 ∈ fv.map (·.1)
 nd : (x :: fv.map (·.1)).Nodup
def PTl (X : Cx) (ifs : List Expr) (t : TT) : Prop :=
 ∀ (pins : List (Addr × Obj)) (s : Shared) (σ : St) (H : Hp) (Q : Bool -> Hp -> Prop), Inv X pins σ H s -> t σ H Q ->
  wpAny (model X.prog X.w) X.A (forIn ifs true fun c r => if r = true then do let ok <- isTrue c X.env (eval c X.env); pure (ForInStep.yield ok) else pure (ForInStep.yield r)) (TP X pins σ Q) X.xe s
def tYes : TT := fun _ H Q => Q true H
theorem ptl_nil {X : Cx} : PTl X [] tYes := fun _ _ _ H _ I h => wpAny_tests_nil ⟨H, I, h⟩
theorem ptl_one {X : Cx} {c : Expr} {t : TT} (h : PT X c t) : PTl X [c] t := fun pins s σ H Q I hw => wpAny_tests_one (h pins s σ H Q I hw)
section
variable {X : Cx} {pins : List (Addr × Obj)} {σ : St} {scope : Scope} {x : Str} {fv : List (Str × Nat)} {elt iter : Expr} {ifs : List Expr} {px pos : Pos} {tt : TT} {te : TE}
end
end L2
set_option Elab.async false
set_option linter.all false
set_option maxRecDepth 100000
namespace L2
open PySem PySem.Spec PyProof.Rows
section
variable {κ : Type} [DecidableEq κ]
end
section
variable {P : Program} {w : World} {H : Hp} {h : Heap} {a : Addr}
end
section
variable {X : Cx} {pins : List (Addr × Obj)} {σ : St} {H : Hp} {s : Shared} {a : Addr} {y v : V} {u r : Value} {o : Option V} {A : Around} {E : Value -> Shared -> Prop}
theorem Inv.big (I : Inv X pins σ H s) : sysModules < s.heap.objs.size := by
 have h : mainGlobals < s.heap.objs.size := (I.mod.glob.keeps I.bk).lt
 exact Nat.lt_trans (by decide) h
end
section
variable {X : Cx} {pins : List (Addr × Obj)} {σ : St} {H : Hp} {s : Shared} {a : Addr} {kvs : List (Key × V)} {k : Key} {u : Value} {A : Around} {E : Value -> Shared -> Prop}
end
section
variable {X : Cx} {o i e value : Expr} {pos pos' tpos : Pos} {td ty tv : TE}
end
theorem dk_empty {P : Program} {w : World} {H : Hp} (h : Heap) (hb : sysModules < h.objs.size) : ObjOk P w H (h.push { cls := .type "dict", data := .dict #[] }) h.objs.size (.dK []) :=
 ⟨Nat.zero_le _, beq_eq_false_iff_ne.mpr (Ne.symm (Nat.ne_of_lt hb)), [], .nil, Heap.DictOf.new h⟩
def tDNewK : TE := fun _ H Q => ∀ p, H p = none -> Q (.ref p) (upd H p (.dK []))
section
variable {X : Cx} {pos : Pos}
theorem pe_dnewK : PE X (.Dict [] [] pos) tDNewK := fun pins s σ H Q I h =>
 wpAny_Dict_empty ⟨.ref s.heap.objs.size, _, I.laid (a := s.heap.objs.size) (o := .dK []) (t' := s.toks) (fun _ _ q => Heap.get?_push_of_some _ q) (Nat.le_refl _) (dk_empty s.heap I.big), rfl, h _ (I.hok.fresh (Nat.le_refl _))⟩
end
structure M1 (X : Cx) (o : Expr) (m : Str) (apos : Pos) (e : Expr) (cpos : Pos) : Prop where
 base : attributeBase o m X.env (eval o X.env) = eval o X.env
 few : ((backTo cpos (starEach [e] X.env)).all (fun x => !x.1) && (backToKw cpos (keywordEach [] X.env)).all (fun x => x.1.isSome)
  && decide (([e] : List Expr).length + ([] : List Keyword).length + (if ([] : List Keyword).isEmpty then 0 else 1) < 30)) = true
 line : (apos.endLine == cpos.line) = true
 trees : backTo cpos (starEach [e] X.env) = [(false, eval e X.env)]
structure M2 (X : Cx) (o : Expr) (m : Str) (apos : Pos) (e f : Expr) (cpos : Pos) : Prop where
 base : attributeBase o m X.env (eval o X.env) = eval o X.env
 few : ((backTo cpos (starEach [e, f] X.env)).all (fun x => !x.1) && (backToKw cpos (keywordEach [] X.env)).all (fun x => x.1.isSome)
  && decide (([e, f] : List Expr).length + ([] : List Keyword).length + (if ([] : List Keyword).isEmpty then 0 else 1) < 30)) = true
 line : (apos.endLine == cpos.line) = true
 trees : backTo cpos (starEach [e, f] X.env) = [(false, eval e X.env), (false, eval f X.env)]
section
variable {X : Cx} {pins : List (Addr × Obj)} {σ : St} {H : Hp} {s : Shared} {a : Addr} {y d : V} {u r : Value} {o : Option V} {A : Around} {E : Value -> Shared -> Prop}
end
section
variable {X : Cx} {o e f : Expr} {apos cpos : Pos} {td ty tx : TE}
end
section
variable {X : Cx} {pins : List (Addr × Obj)} {σ : St} {H : Hp} {s : Shared} {a : Addr} {kvs : List (Key × V)} {A : Around} {E : Value -> Shared -> Prop}
end
section
variable {X : Cx} {pins : List (Addr × Obj)} {σ : St} {H : Hp} {s : Shared} {a : Addr} {y : V} {u : Value} {A : Around} {E : Value -> Shared -> Prop}
end
end L2
set_option Elab.async false
set_option linter.all false
set_option maxRecDepth 100000
namespace L2
open PySem PySem.Spec PyProof.Rows
def compOkT (scope : Scope) (xs : List Str) (fv : List (Str × Nat)) : Bool :=
 (scope.kind == .function) && (scope.names.all fun y => y.2 != .cell) && (scope.names.all fun y => y.2 != .local || scope.names.lookup y.1 == some .local) && (xs.all fun x => scope.names.lookup x == some .local) &&
 (scope.names.all fun y => y.2 != .free || (fv.map (·.1)).contains y.1) && decide ((xs ++ fv.map (·.1)).Nodup)
structure CompOkT (scope : Scope) (xs : List Str) (fv : List (Str × Nat)) : Prop where
 kind : scope.kind = .function
 nocell : ∀ y ∈ scope.names, y.2 ≠ .cell
 names : ∀ y ∈ scope.names, y.2 = .local -> scope.names.lookup y.1 = some .local
 hx : ∀ x ∈ xs, scope.names.lookup x = some .local
 fr : ∀ y ∈ scope.names, y.2 = .free -> y.1 ∈ fv.map (·.1)
 nd : (xs ++ fv.map (·.1)).Nodup
theorem compOkT_of {scope : Scope} {xs : List Str} {fv : List (Str × Nat)} (h : compOkT scope xs fv = true) : CompOkT scope xs fv := by
 unfold compOkT at h
 simp only [Bool.and_eq_true, List.all_eq_true, Bool.or_eq_true, decide_eq_true_eq, bne_iff_ne, beq_iff_eq, List.contains_iff_mem, ne_eq] at h
 obtain ⟨⟨⟨⟨⟨h1, h2⟩, h3⟩, h4⟩, h5⟩, h6⟩ := h
 exact ⟨h1, h2, fun y hy hl => (h3 y hy).resolve_left fun z => z hl, h4, fun y hy hl => (h5 y hy).resolve_left fun z => z hl, h6⟩
def cxT (X : Cx) (scope : Scope) (xs : List Str) (fv : List (Str × Nat)) (C : Addr) (s₀ : Shared) (H₀ : Hp) (ex : List Addr) (pn : List (Addr × Obj)) : Cx :=
 { X with N := xs ++ fv.map (·.1), s₀ := s₀, H₀ := H₀, env := compEnvC scope (clOf scope X.env) C X.env, outer := X.stack, stack := X.stack, ex := ex, fn := fun _ => false, pn := pn, xe := fun _ _ => False }
def ρT (xs : List Str) (fv : List (Str × Nat)) (σ : St) : St := xs.map (fun _ => none) ++ fv.map fun p => (σ[p.2]?).join
def KeepT (xs : List Str) (a b : St) : Prop := b.drop xs.length = a.drop xs.length
theorem keepT_of {xs : List Str} {fv : List (Str × Nat)} {σ b : St} (h : KeepT xs (ρT xs fv σ) b) {j : Nat} {v : V} (e : (ρT xs fv σ)[j]? = some (some v)) : b[j]? = some (some v) := by
 unfold KeepT at h
 by_cases hj : j < xs.length
 ·unfold ρT at e
  rw [List.getElem?_append_left (by simpa using hj), List.getElem?_map] at e
  cases q : xs[j]? with
  | none => rw [q] at e; cases e
  | some y => rw [q] at e; cases e
 ·have ej : j = xs.length + (j - xs.length) := by omega
  have e1 : (ρT xs fv σ).drop xs.length = b.drop xs.length := h.symm
  rw [ej, <- List.getElem?_drop] at e
  rw [ej, <- List.getElem?_drop, <- e1]
  exact e
abbrev TB := Addr -> St -> Hp -> (Hp -> Prop) -> Prop
def PB (X : Cx) (body : Addr -> Env -> Sem Unit) (tb : TB) : Prop :=
 ∀ (pins : List (Addr × Obj)) (s : Shared) (σ : St) (H : Hp) (D : Addr) (N : Hp -> Prop), Inv X pins σ H s -> tb D σ H N -> wpAny (model X.prog X.w) X.A (body D X.env) (fun _ s' => ∃ H', Inv X pins σ H' s' /\ N H') X.xe s
def wCompT (o0 : HO) (xs : List Str) (fv : List (Str × Nat)) (g : TG) (tt : TT) (tb : TB) (σ : St) (J : It) (H1 : Hp) (Q : VK) : Prop :=
 ∀ D, H1 D = none -> ∃ W : Nat -> Nat -> Hp -> Prop, (∃ m, W 0 m (upd H1 D o0)) /\ ∀ i m H, W i m H ->
  (J.stop i H /\ Q (.ref D) H) \/ (J.go i H /\ ∃ N : Hp -> Prop, (∀ H', N H' -> ∃ m', m' < m /\ W (i + 1) m' H') /\ ∀ x H', J.yld i H x H' -> g x (ρT xs fv σ) H' fun σ2 H2 => KeepT xs (ρT xs fv σ) σ2 /\ tt σ2 H2 fun b H3 =>
   if b = true then tb D σ2 H3 N else N H3)
def tCompT (o0 : HO) (wi : TI) (xs : List Str) (fv : List (Str × Nat)) (g : TG) (tt : TT) (tb : TB) : TE := fun σ H Q => wi σ H fun J H1 => wCompT o0 xs fv g tt tb σ J H1 Q
def NewAcc (X : Cx) (newAcc : Sem Value) (o0 : HO) : Prop :=
 ∀ (pins : List (Addr × Obj)) (σ : St) (H : Hp) (s : Shared) (E : Value -> Shared -> Prop) (Q : Value -> Shared -> Prop), Inv X pins σ H s ->
  (∀ s', Inv X pins σ (upd H s.heap.objs.size o0) s' -> s'.heap.objs.size = s.heap.objs.size + 1 -> (∀ b o, s.heap.get? b = some o -> s'.heap.get? b = some o) -> Q (.ref s.heap.objs.size) s') -> wpAny (model X.prog X.w) X.A newAcc Q E s
section
variable {X : Cx} {pins : List (Addr × Obj)} {σ : St} {scope : Scope} {xs : List Str} {fv : List (Str × Nat)} {e tg iter : Expr} {ifs : List Expr} {pos : Pos} {tt : TT} {tb : TB} {g : TG} {o0 : HO} {body : Addr -> Env -> Sem Unit} {newAcc : Sem Value}
theorem comp_blockT {s₂ : Shared} {H2 : Hp} {it : Addr} {fp : List Addr} {tn : Nat -> Heap -> Prop} {J : It} {Q : VK} {E : Value -> Shared -> Prop} {RR : Value -> Addr -> Result -> Shared -> Prop}
  (hc : X.calm = true) (S : CompOkT scope xs fv) (hv : FvOk X scope fv)
  (ht : ∀ C s₀ H₀ ex pn, PTl (cxT X scope xs fv C s₀ H₀ ex pn) ifs tt) (hg : ∀ C s₀ H₀ ex pn, PG (cxT X scope xs fv C s₀ H₀ ex pn) tg g) (he : ∀ C s₀ H₀ ex pn, PB (cxT X scope xs fv C s₀ H₀ ex pn) body tb) (hnew : NewAcc X newAcc o0)
  (hund : ∀ (it acc : Value) (env : Env), X.A.under (.compLoop e 0 it acc env) = X.A) (hden : ∀ (it acc : Value) (env : Env), (model X.prog X.w).den (.compLoop e 0 it acc env) = (compTurn e 0 it acc env).onRaise (fun z => do noteFrame z env; theTreesLotGoes z))
  (hturn : ∀ (it : Value) (D : Addr) (env : Env), compTurn e 0 it (.ref D) env = (do
   standAt iter.pos
   match <- pyNext it with
   | none => pure (.done .next)
   | some v =>
    letOwnedTupleGo tg it v
    assign tg env v
    let mut ok := true
    for c in ifs do
     if ok then ok <- isTrue c env (eval c env)
    if ok then
     body D env
    again (.compLoop e 0 it (.ref D) env)))
  (hstart : ∀ (it acc : Value) (env : Env) (R : Result -> Shared -> Prop) (s : Shared), codeAny (model X.prog X.w) X.A (.compLoop e 0 it acc env) R s -> wpAny (model X.prog X.w) X.A (pyIter it) (fun it' s' => codeAny (model X.prog X.w) X.A (.compLoop e 0 it' acc env) R s') (notedBy (model X.prog X.w) X.A env fun x s' => R (.error x) s') s ->
   codeAny (model X.prog X.w) X.A (.compStart e 0 it acc env) R s)
  (I2 : Inv X pins σ H2 s₂) (T : Turn X.prog X.w X.K tg J fp it tn) (st2 : tn 0 s₂.heap) (f2 : ∀ b ∈ fp, FpOk X pins H2 b) (hw : wCompT o0 xs fv g tt tb σ J H2 Q)
  (hRR : ∀ D C s' H' m, Inv X pins σ H' s' -> Q (.ref D) H' -> s'.heap.Ns C m -> FpOk X pins H' C -> RR (.ref D) C (.ok .next) s') :
  wpAny (model X.prog X.w) X.A newAcc (fun acc s₃ => wpAny (model X.prog X.w) X.A (newFunctionEnv scope X.env.globals (clOf scope X.env) [] X.env.qual none .none (some X.env)) (fun cenv s₄ =>
   codeAny (model X.prog X.w) X.A (.compStart e 0 (.ref it) acc { cenv with scope := relabel scope X.env }) (RR acc cenv.locals) s₄) E s₃) E s₂ := by
 have kap : ∀ y : Str, (y, NameKind.free) ∈ scope.names -> (X.env.kindOf y = some .cell \/ X.env.kindOf y = some .free) := fun y hy => by
  obtain ⟨p, hp, e⟩ := List.mem_map.mp (S.fr _ hy rfl)
  obtain ⟨j, hj⟩ := List.getElem?_of_mem hp
  have q := (hv.get hj).2.1
  dsimp only at e
  rw [e] at q
  exact q
 have clk : ∀ y c, (clOf scope X.env).lookup y = some c -> X.env.cells.lookup y = some c := fun y c e => by
  rcases clGo_mem (PySem.mem_of_lookup e) with z | ⟨z, w⟩
  ·simp at z
  ·obtain ⟨c', e'⟩ := I2.ok.has y (kap y z)
   rw [e'] at w ⊢
   rw [w]; rfl
 have hD0 : H2 s₂.heap.objs.size = none := I2.fresh
 refine hnew pins σ H2 s₂ E _ I2 fun s₃ I3 hsz3 old3 => ?_
 generalize hH3 : upd H2 s₂.heap.objs.size o0 = H3 at I3
 refine wpAny_newFunctionEnv S.nocell (by intro y hy; simp at hy) (fun h₁ hns₁ hsb₁ => ?_) S.kind
 have old4 : ∀ b o, s₃.heap.get? b = some o -> h₁.get? b = some o := fun b o e => hsb₁.extBut b o (Nat.ne_of_lt (Heap.lt_size e)) (Heap.get?_push_of_some _ e)
 have lt2 : ∀ b ∈ fp, b < s₂.heap.objs.size := fun b hb => by
  obtain ⟨o, e, _⟩ := T.obj _ _ st2 b hb
  exact Heap.lt_size e
 have okX : (cxT X scope xs fv s₃.heap.objs.size s₃ H3 fp (X.pn ++ pins)).Ok := by
  refine ⟨I2.ok.mod, ?_, I2.ok.glob, I2.ok.blt, Nat.le_refl _, fun y z c e1 e2 => ?_, fun y hy => ?_, fun y c z => ?_, I2.ok.hd, I2.ok.frames, .inl rfl, fun b hb => ?_, fun b o e => I3.bs b o e, Nat.le_trans I3.ok.bsz I3.sz, fun b o e hb => ?_, fun b hb z => ?_, I3.stack, fun b hb => I3.stkFree b hb⟩
  ·exact S.kind
  ·exact I2.ok.inj y z c (clk y c e1) (clk z c e2)
  ·have hy' : (y, NameKind.free) ∈ scope.names := by
    rcases hy with hy | hy
    ·rcases relabel_mem (PySem.mem_of_lookup hy) with z | z
     ·exact absurd rfl (S.nocell _ z)
     ·exact z
    ·rcases relabel_mem (PySem.mem_of_lookup hy) with z | z <;> exact z
   exact Option.isSome_iff_exists.mp (clGo_has (env := X.env) (acc := []) hy')
  ·cases z
  ·refine ⟨Nat.ne_of_lt (by rw [hsz3]; exact Nat.lt_succ_of_lt (lt2 b hb)), fun y c e => (f2 b hb).2.2.2.2.1 y c (clk y c e)⟩
  ·rcases (f2 b hb).2.2.2.1 with z | z
   ·exact I2.ok.noex b o e z
   ·exact absurd (Nat.lt_of_lt_of_le (Heap.lt_size e) (Nat.le_trans I2.ok.bsz z)) (Nat.lt_irrefl _)
  ·rcases List.mem_cons.mp (I2.stkSub b z) with w | w
   ·exact (f2 b hb).2.1 w
   ·exact (f2 b hb).2.2.1 w
 have C0 : H3 s₃.heap.objs.size = none := I3.fresh
 have I4 : Inv (cxT X scope xs fv s₃.heap.objs.size s₃ H3 fp (X.pn ++ pins)) [] (ρT xs fv σ) H3 { s₃ with heap := h₁, toks := s₃.toks + ([] : List (Str × Value)).length } := by
  refine ⟨okX, rfl, I3.bare, Un.kept old4, ⟨_, hns₁, fun i y v e1 e2 e3 => ?_⟩, fun y c e => ?_, C0, fun y c e => I3.freeC y c (clk y c e), fun p hp => ?_, I3.hok.kept old4, ?_⟩
  ·have hi : ¬ i < xs.length := fun hi => by
    have e2' := e2
    unfold ρT at e2'
    rw [List.getElem?_append_left (by simpa using hi), List.getElem?_map] at e2'
    cases q : xs[i]? with
    | none => rw [q] at e2'; cases e2'
    | some y => rw [q] at e2'; cases e2'
   obtain ⟨j, rfl⟩ : ∃ j, i = xs.length + j := ⟨i - xs.length, by omega⟩
   have e1' : (fv.map (·.1))[j]? = some y := by
    have q : (xs ++ fv.map (·.1))[xs.length + j]? = some y := e1
    rw [List.getElem?_append_right (by omega)] at q
    simpa using q
   have e2' : (fv.map fun p => (σ[p.2]?).join)[j]? = some (some v) := by
    have q : (xs.map (fun _ => (none : Option V)) ++ fv.map fun p => (σ[p.2]?).join)[xs.length + j]? = some (some v) := e2
    rw [List.getElem?_append_right (by simp)] at q
    simpa using q
   rw [List.getElem?_map] at e1' e2'
   cases ep : fv[j]? with
   | none => rw [ep] at e1'; cases e1'
   | some p =>
    rw [ep] at e1' e2'
    have ey : p.1 = y := by simpa using e1'
    have ev : (σ[p.2]?).join = some v := by simpa using e2'
    obtain ⟨q1, q2, q3⟩ := hv.get ep
    rw [ey] at q1 q2 q3
    have ev' : σ[p.2]? = some (some v) := by
     cases es : σ[p.2]? with
     | none => rw [es] at ev; cases ev
     | some w => rw [es] at ev; cases w with
      | none => cases ev
      | some w' => cases ev; rfl
    obtain ⟨m, hn, hl⟩ := I3.loc
    obtain ⟨u, r, lk⟩ := hl p.2 y v q1 ev' (by rcases q2 with z | z; exact .inr (.inl z); exact .inr (.inr z))
    refine ⟨u, r, .inr ⟨relabel_free q3, ?_⟩⟩
    obtain ⟨c, e⟩ := Option.isSome_iff_exists.mp (clGo_has (env := X.env) (acc := []) (PySem.mem_of_lookup q3))
    refine ⟨c, e, ?_⟩
    rcases lk with ⟨k, _⟩ | ⟨_, c', e', z⟩
    ·rcases q2 with w | w
     ·rw [show X.env.kindOf y = _ from w] at k; cases k
     ·rw [show X.env.kindOf y = _ from w] at k; cases k
    ·rw [clk y c e] at e'
     cases e'
     obtain ⟨o, ho, hd⟩ := z
     exact ⟨o, old4 _ _ ho, hd⟩
  ·obtain ⟨v, o, ho, hd⟩ := I3.cell y c (clk y c e)
   exact ⟨v, o, old4 _ _ ho, hd⟩
  ·have hp' : p ∈ X.pn ++ pins := by simpa [cxT] using hp
   obtain ⟨e, n, ne, nf, d⟩ := I3.pin p hp'
   exact ⟨old4 _ _ e, n, Nat.ne_of_lt (Heap.lt_size e), fun z => (List.mem_cons.mp (I3.stkSub p.1 z)).elim ne nf, d⟩
  ·simp [ρT, cxT]
 have fpX : ∀ {H' : Hp}, (∀ b ∈ fp, H' b = none) -> ∀ b ∈ fp, FpOk (cxT X scope xs fv s₃.heap.objs.size s₃ H3 fp (X.pn ++ pins)) [] H' b := fun hn b hb =>
  ⟨hn b hb, Nat.ne_of_lt (by show b < s₃.heap.objs.size; rw [hsz3]; exact Nat.lt_succ_of_lt (lt2 b hb)), okX.exfs b hb, .inl hb, (okX.exf b hb).2, fun p hp => by
   have hp' : p ∈ X.pn ++ pins := by simpa [cxT] using hp
   exact (f2 b hb).2.2.2.2.2 p hp'⟩
 have tn4 : tn 0 h₁ := T.keep _ _ _ st2 fun b _ o e => old4 b o (old3 b o e)
 have fr4 : ∀ b ∈ fp, H3 b = none := fun b hb => by
  rw [<- hH3, upd_ne (Nat.ne_of_lt (lt2 b hb))]
  exact (f2 b hb).1
 have back : ∀ {H' : Hp} {σ' : St} {pl : List (Addr × Obj)} {s' : Shared}, Inv (cxT X scope xs fv s₃.heap.objs.size s₃ H3 fp (X.pn ++ pins)) pl σ' H' s' -> Inv X pins σ H' s' /\ (∃ m, s'.heap.Ns s₃.heap.objs.size m) /\ FpOk X pins H' s₃.heap.objs.size := fun {H' σ' pl s'} I' => by
  refine ⟨I3.call' I'.os I'.base I'.hok I'.bare fun b hb => ⟨(f2 b hb).2.2.2.1, (f2 b hb).2.1, (f2 b hb).2.2.2.2.1, (f2 b hb).2.2.2.2.2⟩, ?_, I3.fpOk (Nat.le_refl _) I'.free⟩
  obtain ⟨m, hn, _⟩ := I'.loc
  exact ⟨m, hn⟩
 obtain ⟨W, ⟨m0, w0⟩, turn⟩ := hw s₂.heap.objs.size hD0
 rw [hH3] at w0
 have loop : codeAny (model X.prog X.w) X.A (.compLoop e 0 (.ref it) (.ref s₂.heap.objs.size) (cxT X scope xs fv s₃.heap.objs.size s₃ H3 fp (X.pn ++ pins)).env)
   (RR (.ref s₂.heap.objs.size) s₃.heap.objs.size) { s₃ with heap := h₁, toks := s₃.toks + ([] : List (Str × Value)).length } := by
  refine codeAny_loop rfl (fun n s' => ∃ i H', Inv (cxT X scope xs fv s₃.heap.objs.size s₃ H3 fp (X.pn ++ pins)) [] (ρT xs fv σ) H' s' /\ tn i s'.heap /\ (∀ b ∈ fp, H' b = none) /\ W i n H') (fun n s5 hI => ?_) m0 ⟨0, H3, I4, tn4, fr4, w0⟩
  obtain ⟨i, H5, I5, st5, fr5, w5⟩ := hI
  rw [hund, hden]
  refine wpAny_noted ?_
  rw [hturn]
  refine wpAny_bind (wpAny_standAt (wpAny_bind ?_))
  rcases turn i n H5 w5 with ⟨stop, qn⟩ | ⟨go, N, hN, step⟩
  ·refine wpAny_mono (T.done (cxT X scope xs fv s₃.heap.objs.size s₃ H3 fp (X.pn ++ pins)) rfl rfl rfl hc i [] s5 _ H5 (fun _ _ => False) I5 (fpX fr5) st5 stop) (fun r s6 ⟨hr, I6⟩ => ?_) fun _ _ z => z.elim
   subst hr
   obtain ⟨b1, ⟨m, b2⟩, b3⟩ := back I6
   exact wpAny_pure (hRR _ _ _ _ _ b1 qn b2 b3)
  ·refine wpAny_mono (T.item (cxT X scope xs fv s₃.heap.objs.size s₃ H3 fp (X.pn ++ pins)) rfl rfl rfl hc i [] s5 _ H5 (fun _ _ => False) I5 (fpX fr5) st5 go) (fun r s6 ⟨u, hr, h6⟩ => ?_) fun _ _ z => z.elim
   subst hr
   refine wpAny_bind (wpAny_mono h6 (fun _ s7 ⟨y, H7, I7, r7, y7, st7, fr7⟩ => ?_) fun _ _ z => z.elim)
   have I7' := I7.pinned (fpX fr7) (T.obj _ _ st7)
   refine wpAny_bind (wpAny_mono (hg _ _ _ _ _ _ s7 _ H7 y u _ I7' r7 (step y H7 y7)) (fun _ s8 ⟨σ8, H8, I8, keep8, q8⟩ => ?_) fun _ _ z => z.elim)
   have again : ∀ {H9 : Hp} {s9 : Shared}, Inv (cxT X scope xs fv s₃.heap.objs.size s₃ H3 fp (X.pn ++ pins)) ([] ++ pinsAt fp s7.heap) σ8 H9 s9 -> (∃ m', m' < n /\ W (i + 1) m' H9) ->
     ∃ m, m < n /\ ∃ i H', Inv (cxT X scope xs fv s₃.heap.objs.size s₃ H3 fp (X.pn ++ pins)) [] (ρT xs fv σ) H' s9 /\ tn i s9.heap /\ (∀ b ∈ fp, H' b = none) /\ W i m H' := fun {H9 s9} I9 ⟨m', hm, w9⟩ => by
    refine ⟨m', hm, i + 1, H9, (I9.unpinned).weak (by rw [I9.len]; simp [ρT, cxT]) (fun j v e => keepT_of keep8 e), T.keep _ _ _ st7 fun b hb o e => (I9.pin (b, o) (List.mem_append_right _ (List.mem_append_right _ (mem_pinsAt hb e)))).1, fun b hb => ?_, w9⟩
    obtain ⟨o, e, d⟩ := T.obj _ _ st7 b hb
    exact (I9.pin (b, o) (List.mem_append_right _ (List.mem_append_right _ (mem_pinsAt hb e)))).2.1
   refine wpAny_bind (wpAny_mono (ht _ _ _ _ _ _ s8 _ H8 _ I8 q8) (fun ok s9 ⟨H9, I9, q9⟩ => ?_) fun _ _ z => z.elim)
   cases ok with
   | false =>
    rw [if_neg (by simp)] at q9
    exact wpAny_pure ⟨rfl, again I9 (hN _ q9)⟩
   | true =>
    rw [if_pos rfl] at q9
    refine wpAny_bind (wpAny_mono (he _ _ _ _ _ _ s9 _ H9 _ _ I9 q9) (fun _ s11 ⟨H11, I11, q11⟩ => ?_) fun _ _ z => z.elim)
    exact wpAny_pure ⟨rfl, again I11 (hN _ q11)⟩
 exact hstart _ _ _ _ _ loop (T.self X.A 0 _ _ _ tn4 loop)
end
end L2
namespace L2
open PySem PySem.Spec PyProof.Rows
section
variable {X : Cx} {pins : List (Addr × Obj)} {σ : St} {H : Hp} {s : Shared} {scope : Scope} {xs : List Str} {fv : List (Str × Nat)} {elt kx vx tg iter : Expr} {ifs : List Expr} {pos : Pos} {tt : TT} {te tk tv : TE} {g : TG}
def tbL (te : TE) : TB := fun D σ H N => te σ H fun y H3 => ∃ ys, H3 D = some (.lst ys) /\ ys.length < sizeLine /\ N (upd H3 D (.lst (ys ++ [y])))
abbrev bodyL (elt : Expr) : Addr -> Env -> Sem Unit := fun D env => do let _ <- call (.builtin "list.append") [.ref D, <- eval elt env]
theorem pb_list (he : PE X elt te) : PB X (bodyL elt) (tbL te) := by
 intro pins s σ H D N I h
 refine wpAny_bind (thn (he pins s σ H _ I h) fun v s1 ⟨y, H1, I1, r1, ys, hD, hz, q⟩ => ?_)
 refine wpAny_bind (wpAny_mono (mt_append pins s1 σ H1 (.ref D) [y] (.ref D) [v] (fun _ H2 => H2 = upd H1 D (.lst (ys ++ [y]))) I1 rfl (.cons r1 .nil) ⟨_, ys, y, rfl, rfl, hD, hz, rfl⟩) (fun _ s2 ⟨_, H2, I2, _, e2⟩ => ?_) fun _ _ z => z)
 subst e2
 exact wpAny_pure ⟨_, I2, q⟩
theorem new_list : NewAcc X (newList []) (.lst []) := by
 intro pins σ H s E Q I h
 refine wpAny_newObj_type (h _ (I.lnew (t' := s.toks) (its := []) .nil (Nat.zero_le _)) (Heap.size_push ..) fun b o e => Heap.get?_push_of_some _ e)
theorem hclT (I : Inv X pins σ H s) (S : CompOkT scope xs fv) (hv : FvOk X scope fv) : closureFor scope X.env = pure (clOf scope X.env) := closure_eq fun p hp hk => by
 obtain ⟨q, hq, e⟩ := List.mem_map.mp (S.fr _ hp hk)
 obtain ⟨j, hj⟩ := List.getElem?_of_mem hq
 have z := (hv.get hj).2.1
 rw [e] at z
 exact Option.isSome_iff_exists.mpr (I.ok.has _ z)
theorem pe_compL {wi : TI} (hc : X.calm = true) (hs : compOkT scope xs fv = true) (hv : FvOk X scope fv) (hi : PI X tg iter wi) (hg : ∀ C s₀ H₀ ex pn, PG (cxT X scope xs fv C s₀ H₀ ex pn) tg g)
  (ht : ∀ C s₀ H₀ ex pn, PTl (cxT X scope xs fv C s₀ H₀ ex pn) ifs tt) (he : ∀ C s₀ H₀ ex pn, PE (cxT X scope xs fv C s₀ H₀ ex pn) elt te)
  (hf : ∀ x, foldedSetIterable iter X.env x = pure x := by intro _; rfl) : PE X (.ListComp elt [⟨tg, iter, ifs, 0⟩] scope pos) (tCompT (.lst []) wi xs fv g tt (tbL te)) := by
 intro pins s σ H Q I h
 have S := compOkT_of hs
 rw [eval_ListComp]
 refine wpAny_comprehension_free (use := none) rfl hf (hclT I S hv) S.kind S.names (thn (hi pins s σ H _ I h) fun v s1 h1 => thn h1 fun itv s2 h2 => ?_)
 obtain ⟨it, fp, tn, J, H2, e, I2, T, st2, f2, hw⟩ := h2
 subst e
 refine comp_blockT (e := .ListComp elt [⟨tg, iter, ifs, 0⟩] scope pos) (iter := iter) (RR := fun acc C => compPost (model X.prog X.w) X.A X.xe none (EP X pins σ Q) acc C) hc S hv ht hg (fun C s₀ H₀ ex pn => pb_list (he C s₀ H₀ ex pn)) new_list (fun _ _ _ => rfl) (fun _ _ _ => rfl) (fun it D env => compTurn_list ..) (fun _ _ _ _ _ a b => codeAny_compStart_list a b) I2 T st2 f2 hw ?_
 intro D C s' H' m I' q hn fC
 exact ⟨m, hn, fun h' hs' => ⟨.ref D, H', I'.turned (t' := s'.toks) (fun b o hb e => (hs'.2 b hb).trans e) fC.1 fC.2.1 fC.2.2.2.1 fC.2.2.2.2.1 fC.2.2.2.2.2, rfl, q⟩⟩
end
end L2
set_option Elab.async false
set_option linter.all false
set_option maxRecDepth 100000
namespace L2
open PySem PySem.Spec PyProof.Rows
end L2
set_option Elab.async false
set_option linter.all false
set_option maxRecDepth 100000
namespace L2
open PySem PySem.Spec PyProof.Rows
section
variable {P : Program} {w : World} {A : Around} {R : Result -> Shared -> Prop} {J S : Addr} {fp wr : List Addr} {n : Nat} {Pv : Nat -> Value -> Prop} {St : Nat -> Heap -> Prop}
end
end L2
set_option Elab.async false
set_option linter.all false
set_option maxRecDepth 100000
namespace L2
open PySem PySem.Spec PyProof.Rows
end L2
set_option Elab.async false
set_option linter.all false
set_option maxRecDepth 100000
namespace L2
open PySem PySem.Spec PyProof.Rows
open AutoSeq1 (wpAny_loadPart')
section
variable {prog : Program} {w : World} {A : Around} {E : Value -> Shared -> Prop} {s : Shared}
end
def iSeq (K : PySem.W.Frag) (tl : TE) : TI := fun σ H R => tl σ H fun x H1 => ∃ a, x = .ref a /\ ((∃ xs, SqL K H1 a xs) /\ R (Itl K a) H1 \/ (∃ xs, SqT K H1 a xs) /\ R (Itt K a) H1)
theorem pi_seq {X : Cx} {tg l : Expr} {tl : TE} (hl : PE X l tl) : PI X tg l (iSeq X.K tl) := by
 intro pins s σ H R I h
 refine thn (hl pins s σ H _ I h) fun v s1 ⟨x, H1, I1, r1, a, e, q⟩ => ?_
 subst e
 cases r1
 have fp : ∀ b ∈ [s1.heap.objs.size], FpOk X pins H1 b := fun b hb => by rw [List.mem_singleton.mp hb]; exact I1.fpOk (Nat.le_refl _) (I1.hok.fresh (Nat.le_refl _))
 rcases q with ⟨⟨xs, hq⟩, q⟩ | ⟨⟨xs, hq⟩, q⟩
 ·obtain ⟨its, rv, pl, hz⟩ := I1.list hq
  exact wpAny_pyIter_list pl.isList ⟨s1.heap.objs.size, [s1.heap.objs.size], _, _, H1, rfl, I1.kept (t' := s1.toks) fun b o e => Heap.get?_push_of_some _ e, turn_list a _, ⟨_, Heap.get?_push_size _ rfl, rfl, rfl⟩, fp, q⟩
 ·obtain ⟨its, rv, pl, hz⟩ := I1.tuple hq
  exact wpAny_pyIter_tuple (show s1.heap.IsTuple a its.toArray from pl) ⟨s1.heap.objs.size, [s1.heap.objs.size], _, _, H1, rfl, I1.kept (t' := s1.toks) fun b o e => Heap.get?_push_of_some _ e, turn_tuple a _, ⟨_, Heap.get?_push_size _ rfl, rfl, rfl⟩, fp, q⟩
end L2
set_option Elab.async false
set_option linter.all false
set_option maxRecDepth 100000
namespace L2
open PySem PySem.Spec PyProof.Rows
section
variable {X : Cx} {pins : List (Addr × Obj)} {σ : St} {H : Hp} {s : Shared}
end
theorem compT_of {o0 : HO} {xs : List Str} {fv : List (Str × Nat)} {g : TG} {tt : TT} {tb : TB} {σ : St} {J : It} {H1 : Hp} {Q : VK} (n : Nat) (Pv : Nat -> Addr -> Hp -> Prop) (h0 : ∀ D, H1 D = none -> Pv 0 D (upd H1 D o0))
  (hgo : ∀ i D H, H1 D = none -> i < n -> Pv i D H -> J.go i H) (hst : ∀ D H, H1 D = none -> Pv n D H -> J.stop n H)
  (hs : ∀ i D H x H', H1 D = none -> i < n -> Pv i D H -> J.yld i H x H' -> g x (ρT xs fv σ) H' fun σ2 H2 => KeepT xs (ρT xs fv σ) σ2 /\ tt σ2 H2 fun b H3 => if b = true then tb D σ2 H3 (Pv (i + 1) D) else Pv (i + 1) D H3)
  (hd : ∀ D H, H1 D = none -> Pv n D H -> Q (.ref D) H) : wCompT o0 xs fv g tt tb σ J H1 Q := by
 intro D hD
 refine ⟨fun i m H => m = n - i /\ i <= n /\ Pv i D H, ⟨n, by simp, Nat.zero_le _, h0 D hD⟩, ?_⟩
 rintro i m H ⟨rfl, hi, p⟩
 by_cases hlt : i < n
 ·exact .inr ⟨hgo i D H hD hlt p, Pv (i + 1) D, fun H' p' => ⟨n - (i + 1), by omega, rfl, hlt, p'⟩, fun x H' y => hs i D H x H' hD hlt p y⟩
 ·obtain rfl : i = n := by omega
  exact .inl ⟨hst D H hD p, hd D H hD p⟩
theorem for_of {J : It} {g : TG} {tb : TS} {D : Ends} {σ : St} {H : Hp} (n : Nat) (Pv : Nat -> St -> Hp -> Prop) (h0 : Pv 0 σ H) (hgo : ∀ i σ H, i < n -> Pv i σ H -> J.go i H) (hst : ∀ σ H, Pv n σ H -> J.stop n H)
  (hs : ∀ i σ H x H', i < n -> Pv i σ H -> J.yld i H x H' -> g x σ H' fun σ2 H2 => tb { D with nx := Pv (i + 1), ct := Pv (i + 1), bk := D.nx } σ2 H2) (hd : ∀ σ H, Pv n σ H -> D.nx σ H) :
  ∃ W : Nat -> Nat -> St -> Hp -> Prop, (∃ m, W 0 m σ H) /\ ∀ i m σ H, W i m σ H ->
   (J.stop i H /\ D.nx σ H) \/ (J.go i H /\ ∃ N : St -> Hp -> Prop, (∀ σ' H', N σ' H' -> ∃ m', m' < m /\ W (i + 1) m' σ' H') /\ ∀ x H', J.yld i H x H' -> g x σ H' fun σ2 H2 => tb { D with nx := N, ct := N, bk := D.nx } σ2 H2) := by
 refine ⟨fun i m σ H => m = n - i /\ i <= n /\ Pv i σ H, ⟨n, by simp, Nat.zero_le _, h0⟩, ?_⟩
 rintro i m σ H ⟨rfl, hi, p⟩
 by_cases hlt : i < n
 ·exact .inr ⟨hgo i σ H hlt p, Pv (i + 1), fun σ' H' p' => ⟨n - (i + 1), by omega, rfl, hlt, p'⟩, fun x H' y => hs i σ H x H' hlt p y⟩
 ·obtain rfl : i = n := by omega
  exact .inl ⟨hst σ H p, hd σ H p⟩
theorem ndT {X : Cx} {scope : Scope} {xs : List Str} {fv : List (Str × Nat)} {C : Addr} {s₀ : Shared} {H₀ : Hp} {ex : List Addr} {pn : List (Addr × Obj)} (h : compOkT scope xs fv = true) : (cxT X scope xs fv C s₀ H₀ ex pn).N.Nodup := (compOkT_of h).nd
end L2
set_option Elab.async false
set_option linter.all false
set_option maxRecDepth 100000
namespace L2
open PySem PySem.Spec PyProof.Rows PySem.W
structure Lin (α : Type) where
 lt : α -> α -> Bool
 asym : ∀ a b, lt a b = true -> lt b a = false
 trans : ∀ a b c, lt b a = false -> lt c b = false -> lt c a = false
 anti : ∀ a b, lt a b = false -> lt b a = false -> a = b
section
variable {n : Nat} {r : Nat -> Nat -> Bool}
end
section
variable {κ : Type} (O : Lin κ) (g : Nat -> κ) {n : Nat}
def Lin.le (a b : κ) : Prop := O.lt b a = false
structure Pm (n : Nat) (p : Array Nat) : Prop where
 perm : p.Perm (List.toArray (List.range n))
end
end L2
set_option Elab.async false
set_option linter.all false
set_option maxRecDepth 100000
namespace L2
open PySem PySem.Spec PyProof.Rows
mutual
inductive DV (K : PySem.W.Frag) (H : Hp) : V -> PyData -> Prop
 | non : DV K H .non .none
 | bl (b : Bool) : DV K H (.bl b) (.bool b)
 | int (i : Int) : DV K H (.int i) (.int i)
 | str (x : Str) : DV K H (.str x) (.str x)
 | lst {a : Addr} {xs : List V} {ds : List PyData} : SqL K H a xs -> DVs K H xs ds -> DV K H (.ref a) (.list ds)
 | tup {a : Addr} {xs : List V} {ds : List PyData} : SqT K H a xs -> DVs K H xs ds -> DV K H (.ref a) (.tuple ds)
inductive DVs (K : PySem.W.Frag) (H : Hp) : List V -> List PyData -> Prop
 | nil : DVs K H [] []
 | cons {x : V} {xs : List V} {d : PyData} {ds : List PyData} : DV K H x d -> DVs K H xs ds -> DVs K H (x :: xs) (d :: ds)
end
theorem DVs.ints {K : PySem.W.Frag} {H : Hp} : ∀ ns : List Int, DVs K H (ns.map V.int) (ns.map PyData.int)
 | [] => .nil
 | n :: r => .cons (.int n) (DVs.ints r)
section
variable {X : Cx} {pins : List (Addr × Obj)} {σ : St} {H : Hp} {s : Shared}
mutual
theorem DV.reads (I : Inv X pins σ H s) : ∀ {v : V} {d : PyData} {u : Value}, DV X.K H v d -> RelV v u -> ∃ as, Reads s.heap u d as
 | _, _, _, .non, r => by cases r; exact ⟨_, .none⟩
 | _, _, _, .bl b, r => by cases r; exact ⟨_, .bool b⟩
 | _, _, _, .int i, r => by obtain ⟨t, rfl⟩ := r; exact ⟨_, .int i t⟩
 | _, _, _, .str x, r => by obtain ⟨t, rfl⟩ := r; exact ⟨_, .str x t⟩
 | _, _, _, .lst hq hs, r => by
  cases r
  obtain ⟨its, rv, ⟨o, n, e, c, _, d⟩, _⟩ := I.list hq
  obtain ⟨as, q⟩ := DVs.reads I hs rv
  exact ⟨_, .list e c d (by simpa using q)⟩
 | _, _, _, .tup hq hs, r => by
  cases r
  obtain ⟨its, rv, p, _⟩ := I.tuple hq
  obtain ⟨as, q⟩ := DVs.reads I hs rv
  obtain ⟨o, e, c, n, d⟩ := p
  exact ⟨_, .tuple e c d (by simpa using q)⟩
theorem DVs.reads (I : Inv X pins σ H s) : ∀ {vs : List V} {ds : List PyData} {us : List Value}, DVs X.K H vs ds -> Vals vs us -> ∃ as, ReadsAll s.heap us ds as
 | _, _, _, .nil, .nil => ⟨_, .nil⟩
 | _, _, _, .cons h t, .cons r rs => by
  obtain ⟨as, q⟩ := DV.reads I h r
  obtain ⟨bs, q'⟩ := DVs.reads I t rs
  exact ⟨_, .cons q q'⟩
end
end
section
variable {X : Cx} {k : Nat}
def rEqD (K : PySem.W.Frag) (neg : Bool) : R2 := fun x y H Q => ∃ d e, DV K H x d /\ DV K H y e /\ d.canLay0 = true /\ e.canLay0 = true /\ d.depth <= 100 /\ Q (.bl (if neg then !PyData.eqv d e else PyData.eqv d e)) H
theorem op_neD (hr : Room k X.A) : OpR X (compareOp .NotEq) (rEqD X.K true) := by
 intro pins s σ H x y v u Q I rx ry h
 obtain ⟨d, e, hd, he, h1, h2, h3, q⟩ := h
 obtain ⟨as, r1⟩ := hd.reads I rx
 obtain ⟨bs, r2⟩ := he.reads I ry
 refine SeqAt.compareNe_reads r1 r2 h1 h2 (by have := hr.un; have := Nat.min_le_left d.depth e.depth; omega) ?_
 exact ⟨.bl _, H, I, rfl, q⟩
def rInst (K : PySem.W.Frag) : List V -> Hp -> VK -> Prop := fun xs H Q => ∃ x t n b, xs = [x, .ty n] /\ TyOf K H x t /\ PySem.W.kitOne K t (.type n) = some b /\ Q (.bl b) H
theorem call_inst : CallR X (.builtin "isinstance") (rInst X.K) := by
 intro pins s σ H xs us Q I r h
 obtain ⟨x, t, n, b, rfl, ty, e, q⟩ := h
 obtain ⟨u, w', rfl, r1, r2⟩ := vals2 r
 cases r2
 exact isinst_ok I r1 ty e fun tk => ⟨.bl b, H, I.tok _, rfl, q⟩
end
end L2
set_option Elab.async false
set_option linter.all false
set_option maxRecDepth 100000
namespace L2
open PySem PySem.Spec PyProof.Rows PySem.W
def keyLt (a b : Int × List Int) : Bool := if a.1 = b.1 then HT.lexLt a.2 b.2 else decide (a.1 < b.1)
section
variable {X : Cx} {pins : List (Addr × Obj)} {σ : St} {H : Hp} {s : Shared}
theorem Inv.take {D : Addr} {o : HO} (I : Inv X pins σ H s) (f : FpOk X pins H D) (hs : X.s₀.heap.objs.size <= D) (new : ObjOk X.prog X.w (upd H D o) s.heap D o) : Inv X pins σ (upd H D o) s := by
 obtain ⟨f0, f1, f2, _, f4, f5⟩ := f
 have ne : ∀ b ob, X.s₀.heap.get? b = some ob -> b ≠ D := fun b ob e => Nat.ne_of_lt (Nat.lt_of_lt_of_le (Heap.lt_size e) hs)
 have nH : ∀ b u, H b = some u -> b ≠ D := fun b u e z => by rw [z, f0] at e; cases e
 refine ⟨I.ok, I.os, I.bare, ⟨fun b ob e n hb hx => I.base.keep b ob e n hb hx, fun b ob e n hb hx => I.base.slot b ob e n hb hx, fun b ob e n hx => ?_, I.base.there, fun b xs e => ?_, fun b ob xs e => ?_, fun b ps e => ?_⟩, I.loc, I.cell, ?_, fun y c e => ?_, fun p hp => ?_, fun b u e => ?_, I.len⟩
 ·rw [upd_ne (ne b ob e)]; exact I.base.free b ob e n hx
 ·rw [upd_ne (nH b _ (I.base.tups b xs e))]; exact I.base.tups b xs e
 ·rw [upd_ne (nH b _ (I.base.frzs b ob xs e))]; exact I.base.frzs b ob xs e
 ·obtain ⟨m, q⟩ := I.base.tbls b ps e
  exact ⟨m, by rw [upd_ne (nH b _ q)]; exact q⟩
 ·rw [upd_ne f1.symm]; exact I.free
 ·rw [upd_ne (f4 y c e)]; exact I.freeC y c e
 ·obtain ⟨z1, z2, z3⟩ := I.pin p hp
  exact ⟨z1, by rw [upd_ne (f5 p hp)]; exact z2, z3⟩
 ·by_cases hb : b = D
  ·subst hb; rw [upd_same] at e; cases e; exact new
  ·rw [upd_ne hb] at e
   exact (I.hok b u e).stay (fun _ _ _ q => q) (fun c q => by rw [upd_ne (ne_of_none q f0)]; exact q) fun c xs q => by rw [upd_ne (ne_of_none q f0)]; exact q
theorem canLay_ints : ∀ ms : List Int, PyData.canLayAll0 (ms.map PyData.int) = true
 | [] => rfl
 | _ :: r => by show (true && PyData.canLayAll0 (r.map PyData.int)) = true; rw [canLay_ints r]; rfl
theorem depthAll_ints : ∀ ms : List Int, PyData.depthAll (ms.map PyData.int) <= 1
 | [] => by simp [PyData.depthAll]
 | m :: r => by
  have := depthAll_ints r
  simp only [List.map_cons, PyData.depthAll, PyData.depth]
  omega
structure KeyAt (X : Cx) (H : Hp) (s : Shared) (v : Value) (n : Int) (ms : List Int) : Prop where
 ex : ∃ (a b : Addr) (t : Tok) (o : Obj) (k : Nat) (its : List Value) (bs : List Addr), v = .ref a /\ s.heap.get? a = some o /\ o.cls = .type "tuple" /\ o.data = .seq [.int n t, .ref b].toArray k /\ IsTup s.heap b its.toArray /\ IntsAre its ms /\ Reads s.heap (.ref b) (.tuple (ms.map PyData.int)) bs
end
end L2
set_option Elab.async false
set_option linter.all false
set_option maxRecDepth 100000
namespace L2
open PySem PySem.Spec PyProof.Rows PySem.W
section
variable {X : Cx} {pins : List (Addr × Obj)} {σ : St} {H : Hp} {s : Shared} {k : Nat} {f D : Addr} {fd : FuncData} {pn : Str} {sp : Sp} {kf : V -> Int × List Int} {xs : List V} {its : List Value} {kd : Int × List Int -> PyData} {okk : Int × List Int -> Prop} {KA : Hp -> Shared -> Value -> Int -> List Int -> Prop}
structure KForm (X : Cx) (kd : Int × List Int -> PyData) (okk : Int × List Int -> Prop) (KA : Hp -> Shared -> Value -> Int -> List Int -> Prop) : Prop where
 tup : ∀ a, ∃ ds, kd a = .tuple ds
 at_ : ∀ {pins : List (Addr × Obj)} {σ : St} {H : Hp} {s : Shared} {v : V} {u : Value} {n : Int} {ms : List Int}, Inv X pins σ H s -> DV X.K H v (kd (n, ms)) -> RelV v u -> okk (n, ms) -> KA H s u n ms
 ex : ∀ {H : Hp} {s : Shared} {v : Value} {n : Int} {ms : List Int}, KA H s v n ms -> ∃ (a b : Addr) (t : Tok) (o : Obj) (k : Nat), v = .ref a /\ s.heap.get? a = some o /\ o.cls = .type "tuple" /\ o.data = .seq [.int n t, .ref b].toArray k
 cmp : ∀ {H : Hp} {s : Shared} {A : Around} {E : Value -> Shared -> Prop} {u v : Value} {n m : Int} {ms ks : List Int} {C : Bool -> Shared -> Prop}, A.units + 10 < cLine -> KA H s u n ms -> KA H s v m ks -> C (keyLt (n, ms) (m, ks)) s -> wpAny (model X.prog X.w) A (keyLt' (tuples' true) u v) C E s
structure KeysTo (kd : Int × List Int -> PyData) (K : PySem.W.Frag) (H : Hp) (kf : V -> Int × List Int) (xs : List V) (ks : List Value) (i : Nat) : Prop where
 len : ks.length = i
 at' : ∀ j, j < i -> ∃ a, ks[j]? = some (.ref a) /\ DV K H (.ref a) (kd (kf (xs.getD j .non)))
theorem range_pick {α : Type} (xs : List α) (d : α) : (List.range xs.length).map (fun i => xs.getD i d) = xs := by
 apply List.ext_getElem
 ·simp
 ·intro i h1 h2
  simp at h1
  simp [h1]
end
end L2
set_option Elab.async false
set_option linter.all false
set_option maxRecDepth 100000
namespace L2
open PySem PySem.Spec PyProof.Rows
def Its (z : Str) : It := ⟨fun i _ => i < z.cps.size, fun i H x H' => H' = H /\ ∃ c, z.cps[i]? = some c /\ x = .str ⟨#[c]⟩, fun i _ => z.cps.size <= i⟩
theorem turn_str {P : Program} {w : World} {K : PySem.W.Frag} {y : Str} {py : Pos} (z : Str) (it : Addr) (tn : Nat -> Heap -> Prop) (ob : ∀ i h, tn i h -> ∃ o, h.get? it = some o /\ ∀ v, o.data ≠ .cell v)
  (W : ∀ A' : Around, A'.handled = none -> Walks P w A' it [it] [it] z.cps.size (SignAt z) tn) (sf : ∀ (A : Around) (i : Nat) (s : Shared) (Q : Value -> Shared -> Prop) (E : Value -> Shared -> Prop), tn i s.heap -> Q (.ref it) s -> wpAny (model P w) A (pyIter (.ref it)) Q E s)
  (le : ∀ i h, tn i h -> True) : Turn P w K (.Name y py) (Its z) [it] it (fun i h => tn i h /\ i <= z.cps.size) where
 mem := by simp
 obj := fun i h st b hb => by
  have e : b = it := by simpa using hb
  subst e
  exact ob i h st.1
 keep := fun i h h' st k => ⟨(W {} rfl).frame i h h' st.1 fun b hb o e => k b hb o e, st.2⟩
 item := by
  intro X hP hw hK hc i pins s σ H E I hf st hg
  subst hP hw hK
  obtain ⟨f0, f1, f2, f3, f4, f5⟩ := hf it (by simp)
  refine (W X.A (I.ok.hd hc)).item i s _ E hg st.1 fun v h' tk hv st' hk => ?_
  obtain ⟨c, u, hc', rfl⟩ := hv
  have I1 : Inv X pins σ H { s with heap := h', toks := tk } := I.turned (t' := tk) (fun b o hb e => hk b o (by simpa using hb) e) f0 f1 f3 f4 f5
  exact ⟨_, rfl, wpAny_pure ⟨.str ⟨#[c]⟩, H, I1, ⟨_, rfl⟩, ⟨rfl, c, hc', rfl⟩, ⟨st', hg⟩, fun b hb => (hf b hb).1⟩⟩
 done := by
  intro X hP hw hK hc i pins s σ H E I hf st hg
  subst hP hw hK
  obtain ⟨f0, f1, f2, f3, f4, f5⟩ := hf it (by simp)
  have e : i = z.cps.size := Nat.le_antisymm st.2 hg
  have st1 := st.1
  rw [e] at st1
  exact (W X.A (I.ok.hd hc)).done s _ E st1 fun h' tk hk => ⟨rfl, I.turned (t' := tk) (fun b o hb e => hk b o (by simpa using hb) e) f0 f1 f3 f4 f5⟩
 self := fun A i s Q E st h => sf A i s Q E st.1 h
section
variable {X : Cx}
def iStr (tl : TE) : TI := fun σ H R => tl σ H fun x H1 => ∃ z, x = .str z /\ R (Its z) H1
theorem pi_str {l : Expr} {tl : TE} {y : Str} {py : Pos} (hl : PE X l tl) : PI X (.Name y py) l (iStr tl) := by
 intro pins s σ H R I h
 refine thn (hl pins s σ H _ I h) fun v s1 ⟨x, H1, I1, r1, q1⟩ => ?_
 obtain ⟨z, e, q⟩ := q1
 subst e
 obtain ⟨t, rfl⟩ := r1
 have fin : ∀ (ty : String) (o : Obj), o = { cls := .type ty, data := .fields #[.str z t, rawInt 0] } -> (∀ A' : Around, A'.handled = none -> Walks X.prog X.w A' s1.heap.objs.size [s1.heap.objs.size] [s1.heap.objs.size] z.cps.size (SignAt z) (fun i h => h.IsStrIter s1.heap.objs.size ty z t i)) ->
   (∀ (A : Around) (i : Nat) (s : Shared) (Q : Value -> Shared -> Prop) (E : Value -> Shared -> Prop), s.heap.IsStrIter s1.heap.objs.size ty z t i -> Q (.ref s1.heap.objs.size) s -> wpAny (model X.prog X.w) A (pyIter (.ref s1.heap.objs.size)) Q E s) -> (s1.heap.push o).IsStrIter s1.heap.objs.size ty z t 0 ->
   PIE X pins σ (.Name y py) R (.ref s1.heap.objs.size) { s1 with heap := s1.heap.push o } := fun ty o ho W sf st => by
  refine ⟨s1.heap.objs.size, [s1.heap.objs.size], _, _, H1, rfl, I1.kept (t' := s1.toks) fun b o e => Heap.get?_push_of_some _ e, turn_str z _ _ (fun i h hst => ?_) W sf (fun _ _ _ => trivial), ⟨st, Nat.zero_le _⟩, fun b hb => ?_, q⟩
  ·obtain ⟨o, e, c, d⟩ := hst
   exact ⟨o, e, fun v zz => by rw [d] at zz; cases zz⟩
  ·have e : b = s1.heap.objs.size := by simpa using hb
   subst e
   exact I1.fpOk (Nat.le_refl _) (I1.hok.fresh (Nat.le_refl _))
 cases ha : z.cps.all (· < 128)
 ·exact wpAny_pyIter_wide ha (fin "str_iterator" _ rfl (fun A' hA => Walks.strWide hA _ z t) (fun A i s Q E st h => wpAny_pyIter_striter_wide st h) ⟨_, Heap.get?_push_size _ rfl, rfl, rfl⟩)
 ·exact wpAny_pyIter_ascii ha (fin "str_ascii_iterator" _ rfl (fun A' hA => Walks.strAscii hA _ z t) (fun A i s Q E st h => wpAny_pyIter_striter_ascii st h) ⟨_, Heap.get?_push_size _ rfl, rfl, rfl⟩)
theorem bools_at {bs : List Bool} {us : List Value} (r : Vals (bs.map V.bl) us) (i : Nat) (v : Value) (h : us[i]? = some v) : v = .bool (bs.getD i true) := by
 have hl := r.length
 rw [List.length_map] at hl
 have hi : i < bs.length := by rw [hl]; exact (List.getElem?_eq_some_iff.mp h).1
 obtain ⟨u, hu, ru⟩ := r.get (i := i) (x := .bl bs[i]) (by rw [List.getElem?_map, List.getElem?_eq_getElem hi]; rfl)
 rw [h] at hu
 cases hu
 have : v = .bool bs[i] := ru
 rw [this]
 simp [hi]
theorem range_all (bs : List Bool) : ((List.range bs.length).all fun i => bs.getD i true) = bs.all id := by
 have := range_pick bs true
 conv => rhs; rw [<- this]
 rw [List.all_map]; rfl
def rAll (K : PySem.W.Frag) : List V -> Hp -> VK -> Prop := fun xs H Q => ∃ (p : Addr) (bs : List Bool), xs = [.ref p] /\ SqL K H p (bs.map V.bl) /\ Q (.bl (bs.all id)) H
theorem call_all (hc : X.calm = true) : CallR X (.builtin "all") (rAll X.K) := by
 intro pins s σ H xs us Q I r h
 obtain ⟨p, bs, rfl, hq, q⟩ := h
 obtain ⟨u, rfl, ru⟩ := vals1 r
 cases ru
 obtain ⟨its, rv, pl, hz⟩ := I.list hq
 have hl := rv.length
 rw [List.length_map] at hl
 have hh : X.A.in1.handled = none := I.ok.hd hc
 have hlt : p < s.heap.objs.size := by obtain ⟨o, n, e, _⟩ := pl; exact Heap.lt_size e
 refine call_all_walk (wpAny_pyIter_list pl.isList ?_)
 refine ⟨s.heap.objs.size, _, _, _, _, _, fun i => bs.getD i true, rfl, Walks.list hh s.heap.objs.size p (Nat.ne_of_lt hlt) its.toArray, ⟨⟨_, Heap.get?_push_size _ rfl, rfl, rfl⟩, pl.isList.push _⟩, fun i v s' Q' E' hP hq' => ?_, fun h' tk hk => ?_⟩
 ·have : v = .bool (bs.getD i true) := bools_at rv i v (by simpa using hP)
  subst this
  exact wpAny_truthy_bool hq'
 ·rw [List.size_toArray, <- hl, range_all]
  refine ⟨.bl (bs.all id), H, I.kept (t' := tk) fun b o e => ?_, rfl, q⟩
  exact hk b o (fun zz => by have e2 := Heap.lt_size e; rw [List.mem_singleton.mp zz] at e2; exact Nat.lt_irrefl _ e2) (Heap.get?_push_of_some _ e)
theorem fit_of {n : Nat} (h : n <= 16000000) : Builtin.Str.tooLong n = false := by
 unfold Builtin.Str.tooLong
 exact decide_eq_false (Nat.not_lt.mpr (Nat.le_trans h (by decide)))
theorem slice_len (z : Str) (l u : Option Int) : (Txt.slice z l u).length <= z.length := by
 unfold Txt.slice
 split
 ·exact Nat.le_refl _
 ·show (((Builtin.Str.strSliceIndices l u 1 z.length).filterMap (z.cps[·]?)).toArray).size <= _
  rw [List.size_toArray]
  exact Nat.le_trans (List.length_filterMap_le _ _) (sliceIndices_le l u z.length)
def rSlS : V -> Option Int -> Option Int -> Hp -> VK -> Prop := fun x lo hi H Q => ∃ z, x = .str z /\ z.length <= sizeLine /\ Q (.str (Txt.slice z lo hi)) H
theorem sl_str : SlR X rSlS := by
 intro pins s σ H x v vl vu lo hi sl Q I rx hs pl pu h
 obtain ⟨z, rfl, hz, q⟩ := h
 obtain ⟨t, rfl⟩ := rx
 refine ⟨"str", _, F.slot_str_getitem.lookup, typeIs_str _ _ _, ?_⟩
 obtain ⟨o, ho, hc, hd⟩ := hs
 have fin : ∀ (l u : Option (Int × Tok)), l.map (·.1) = lo -> u.map (·.1) = hi -> vl = partValue l -> vu = partValue u -> wpAny (model X.prog X.w) X.A (getItem (.str z t) (.ref sl)) (EP X pins σ Q) X.xe s := fun l u h1 h2 e1 e2 => by
  subst h1 h2 e1 e2
  refine wpAny_getItem_str_slice (l := l) (u := u) (st := none) ⟨o, ho, hc, hd⟩ rfl ?_
  have hl := slice_len z (l.map (·.1)) (u.map (·.1))
  unfold sliceMade
  unfold Txt.slice at q hl
  have e0 : slicePicked z l u none = Builtin.Str.strSliceIndices (l.map (·.1)) (u.map (·.1)) 1 z.length := rfl
  rw [e0]
  by_cases c : ((1 : Int) == 1 && (Builtin.Str.strSliceIndices (l.map (·.1)) (u.map (·.1)) 1 z.length).length == z.length) = true
  ·have c' : (((Option.none : Option (Int × Tok)).map (·.1)).getD 1 == 1 && (Builtin.Str.strSliceIndices (l.map (·.1)) (u.map (·.1)) 1 z.length).length == z.length) = true := c
   rw [if_pos c] at q
   rw [if_pos c']
   exact ⟨.str z, H, I, ⟨_, rfl⟩, q⟩
  ·have c' : ¬ (((Option.none : Option (Int × Tok)).map (·.1)).getD 1 == 1 && (Builtin.Str.strSliceIndices (l.map (·.1)) (u.map (·.1)) 1 z.length).length == z.length) = true := c
   rw [if_neg c] at q hl
   rw [if_neg c']
   exact ⟨Nat.le_trans hl hz, .str _, H, I.tok _, ⟨_, rfl⟩, q⟩
 cases pl with
 | none => cases pu with
  | none => exact fin none none rfl rfl rfl rfl
  | int j tj => exact fin none (some (j, tj)) rfl rfl rfl rfl
 | int i ti => cases pu with
  | none => exact fin (some (i, ti)) none rfl rfl rfl rfl
  | int j tj => exact fin (some (i, ti)) (some (j, tj)) rfl rfl rfl rfl
theorem vals_numbered : ∀ (l : List (Str × Tok)), Vals (l.map fun p => V.str p.1) (strValues l)
 | [] => .nil
 | p :: r => .cons ⟨p.2, rfl⟩ (vals_numbered r)
theorem call_intS : CallR X (.type "int") (fun xs H Q => ∃ z n, xs = [.str z] /\ intText? z = some n /\ z.length <= 640 /\ Q (.int n) H) := by
 intro pins s σ H xs us Q I r h
 obtain ⟨z, n, rfl, hn, hl, q⟩ := h
 obtain ⟨u, rfl, ⟨t, rfl⟩⟩ := vals1 r
 exact PySem.W.KIN.call_text hn hl ⟨.int n, H, I.tok _, ⟨_, rfl⟩, q⟩
end
end L2
set_option Elab.async false
set_option linter.all false
set_option maxRecDepth 100000
namespace S
open PySem L2
def top (i : Nat) : Stmt := PySem.Challenge.pw_alwaysmeet_k05_texts_of_shares.main.body.getD i (.Pass ⟨0, 0, 0, 0⟩)
def meth (c i : Nat) : Stmt := match top c with
 | .ClassDef _ _ _ b .. => b.getD i (.Pass ⟨0, 0, 0, 0⟩)
 | _ => .Pass ⟨0, 0, 0, 0⟩
abbrev sWhole : Stmt := top 5
abbrev sMade : Stmt := top 6
abbrev sCommon : Stmt := top 10
abbrev sMakeA : Stmt := top 11
abbrev sIsShare : Stmt := top 12
abbrev sCheckS : Stmt := top 13
abbrev sShareText : Stmt := top 14
abbrev sWritten : Stmt := top 15
abbrev sShareIn : Stmt := top 16
abbrev sPlain : Stmt := top 7
abbrev sBox : Stmt := top 18
abbrev sTake : Stmt := top 19
abbrev sLaw : Stmt := top 30
abbrev sMeetErrorInit : Stmt := meth 1 0
abbrev sNoShareInit : Stmt := meth 2 0
abbrev s_law_common : Stmt := top 20
abbrev s_law_part : Stmt := top 21
abbrev s_law_share : Stmt := top 22
abbrev s_law_text : Stmt := top 23
abbrev s_law_number : Stmt := top 24
abbrev s_law_due : Stmt := top 25
abbrev s_law_told : Stmt := top 26
abbrev s_law_spoilt : Stmt := top 27
abbrev s_law_case : Stmt := top 28
abbrev s_law_long : Stmt := top 29
end S
set_option Elab.async false
set_option linter.all false
set_option maxRecDepth 100000
namespace L2
open PySem PySem.Spec PyProof.Rows
end L2
set_option Elab.async false
set_option linter.all false
set_option maxRecDepth 100000
namespace L2
open PySem PySem.Spec PyProof.Rows
def At1 (a : Addr) (H H' : Hp) : Prop := ∀ o, H a = some o -> H' a = some o
theorem SqL.at1 {K : PySem.W.Frag} {H H' : Hp} {a : Addr} {xs : List V} (e : At1 a H H') (h : SqL K H a xs) : SqL K H' a xs := by
 rcases h with (h | ⟨o, h⟩) | h
 ·exact .inl (.inl (e _ h))
 ·exact .inl (.inr ⟨o, e _ h⟩)
 ·exact .inr h
theorem SqT.at1 {K : PySem.W.Frag} {H H' : Hp} {a : Addr} {xs : List V} (e : At1 a H H') (h : SqT K H a xs) : SqT K H' a xs := by
 rcases h with (h | ⟨o, h⟩) | h
 ·exact .inl (.inl (e _ h))
 ·exact .inl (.inr ⟨o, e _ h⟩)
 ·exact .inr h
abbrev Sq (K : PySem.W.Frag) (H : Hp) (a : Addr) (xs : List V) : Prop := SqL K H a xs \/ SqT K H a xs
theorem seq_for {K : PySem.W.Frag} {g : TG} {tb : TS} {D : Ends} {σ : St} {H1 : Hp} {a : Addr} {ys : List V} (sq : Sq K H1 a ys) (Pv : Nat -> St -> Hp -> Prop) (h0 : Pv 0 σ H1) (hk : ∀ i σ H', Pv i σ H' -> At1 a H1 H')
  (hs : ∀ i σ H' x, i < ys.length -> ys[i]? = some x -> Pv i σ H' -> g x σ H' fun σ2 H2 => tb { D with nx := Pv (i + 1), ct := Pv (i + 1), bk := D.nx } σ2 H2) (hd : ∀ σ H', Pv ys.length σ H' -> D.nx σ H') :
  (∃ xs, SqL K H1 a xs) /\ (∃ W : Nat -> Nat -> St -> Hp -> Prop, (∃ m, W 0 m σ H1) /\ ∀ i m σ H, W i m σ H ->
   ((Itl K a).stop i H /\ D.nx σ H) \/ ((Itl K a).go i H /\ ∃ N : St -> Hp -> Prop, (∀ σ' H', N σ' H' -> ∃ m', m' < m /\ W (i + 1) m' σ' H') /\ ∀ x H', (Itl K a).yld i H x H' -> g x σ H' fun σ2 H2 => tb { D with nx := N, ct := N, bk := D.nx } σ2 H2)) \/
  (∃ xs, SqT K H1 a xs) /\ (∃ W : Nat -> Nat -> St -> Hp -> Prop, (∃ m, W 0 m σ H1) /\ ∀ i m σ H, W i m σ H ->
   ((Itt K a).stop i H /\ D.nx σ H) \/ ((Itt K a).go i H /\ ∃ N : St -> Hp -> Prop, (∀ σ' H', N σ' H' -> ∃ m', m' < m /\ W (i + 1) m' σ' H') /\ ∀ x H', (Itt K a).yld i H x H' -> g x σ H' fun σ2 H2 => tb { D with nx := N, ct := N, bk := D.nx } σ2 H2)) := by
 rcases sq with sq | sq
 ·refine .inl ⟨⟨_, sq⟩, for_of ys.length Pv h0 (fun i σ H' hi hP => ⟨ys, ys[i], SqL.at1 (hk _ _ _ hP) sq, by simp [hi]⟩) (fun σ H' hP => ⟨ys, SqL.at1 (hk _ _ _ hP) sq, Nat.le_refl _⟩) (fun i σ H' x H2 hi hP y => ?_) hd⟩
  obtain ⟨rfl, hx⟩ := y
  exact hs i σ _ x hi (hx ys (SqL.at1 (hk _ _ _ hP) sq)) hP
 ·refine .inr ⟨⟨_, sq⟩, for_of ys.length Pv h0 (fun i σ H' hi hP => ⟨ys, ys[i], SqT.at1 (hk _ _ _ hP) sq, by simp [hi]⟩) (fun σ H' hP => ⟨ys, SqT.at1 (hk _ _ _ hP) sq, Nat.le_refl _⟩) (fun i σ H' x H2 hi hP y => ?_) hd⟩
  obtain ⟨rfl, hx⟩ := y
  exact hs i σ _ x hi (hx ys (SqT.at1 (hk _ _ _ hP) sq)) hP
theorem seq_comp {K : PySem.W.Frag} {o0 : HO} {xs : List Str} {fv : List (Str × Nat)} {g : TG} {tt : TT} {tb : TB} {σ : St} {H1 : Hp} {Q : VK} {a : Addr} {ys : List V} (sq : Sq K H1 a ys) (Pv : Nat -> Addr -> Hp -> Prop) (h0 : ∀ D, H1 D = none -> Pv 0 D (upd H1 D o0))
  (hk : ∀ i D H', H1 D = none -> Pv i D H' -> At1 a H1 H')
  (hs : ∀ i D H' x, H1 D = none -> i < ys.length -> ys[i]? = some x -> Pv i D H' -> g x (ρT xs fv σ) H' fun σ2 H2 => KeepT xs (ρT xs fv σ) σ2 /\ tt σ2 H2 fun b H3 => if b = true then tb D σ2 H3 (Pv (i + 1) D) else Pv (i + 1) D H3)
  (hd : ∀ D H', H1 D = none -> Pv ys.length D H' -> Q (.ref D) H') :
  (∃ xs, SqL K H1 a xs) /\ wCompT o0 xs fv g tt tb σ (Itl K a) H1 Q \/ (∃ xs, SqT K H1 a xs) /\ wCompT o0 xs fv g tt tb σ (Itt K a) H1 Q := by
 rcases sq with sq | sq
 ·refine .inl ⟨⟨_, sq⟩, compT_of ys.length Pv h0 (fun i D H' hD hi hP => ⟨ys, ys[i], SqL.at1 (hk _ _ _ hD hP) sq, by simp [hi]⟩) (fun D H' hD hP => ⟨ys, SqL.at1 (hk _ _ _ hD hP) sq, Nat.le_refl _⟩) (fun i D H' x H2 hD hi hP y => ?_) hd⟩
  obtain ⟨rfl, hx⟩ := y
  exact hs i D _ x hD hi (hx ys (SqL.at1 (hk _ _ _ hD hP) sq)) hP
 ·refine .inr ⟨⟨_, sq⟩, compT_of ys.length Pv h0 (fun i D H' hD hi hP => ⟨ys, ys[i], SqT.at1 (hk _ _ _ hD hP) sq, by simp [hi]⟩) (fun D H' hD hP => ⟨ys, SqT.at1 (hk _ _ _ hD hP) sq, Nat.le_refl _⟩) (fun i D H' x H2 hD hi hP y => ?_) hd⟩
  obtain ⟨rfl, hx⟩ := y
  exact hs i D _ x hD hi (hx ys (SqT.at1 (hk _ _ _ hD hP) sq)) hP
end L2
set_option Elab.async false
set_option linter.all false
set_option maxRecDepth 100000
namespace L2
open PySem PySem.Spec PyProof.Rows
theorem comp_str {o0 : HO} {xs : List Str} {fv : List (Str × Nat)} {g : TG} {tt : TT} {tb : TB} {σ : St} {H1 : Hp} {Q : VK} {z : Str} (Pv : Nat -> Addr -> Hp -> Prop) (h0 : ∀ D, H1 D = none -> Pv 0 D (upd H1 D o0))
  (hs : ∀ i D H' c, H1 D = none -> z.cps[i]? = some c -> Pv i D H' -> g (.str ⟨#[c]⟩) (ρT xs fv σ) H' fun σ2 H2 => KeepT xs (ρT xs fv σ) σ2 /\ tt σ2 H2 fun b H3 => if b = true then tb D σ2 H3 (Pv (i + 1) D) else Pv (i + 1) D H3)
  (hd : ∀ D H', H1 D = none -> Pv z.cps.size D H' -> Q (.ref D) H') : wCompT o0 xs fv g tt tb σ (Its z) H1 Q := by
 refine compT_of z.cps.size Pv h0 (fun i D H' hD hi hP => hi) (fun D H' hD hP => Nat.le_refl _) (fun i D H' x H2 hD hi hP y => ?_) hd
 obtain ⟨rfl, c, hc, rfl⟩ := y
 exact hs i D _ c hD hc hP
theorem same_new {H : Hp} {p : Addr} (h : H p = none) (o : HO) : Same H (upd H p o) := fun b u q => by rw [upd_ne (ne_of_none q h)]; exact q
end L2
namespace S
open PySem L2
def FIG : Str := "0123456789"
def allIn (z signs : Str) : Bool := z.cps.toList.all fun c => decide (c ∈ signs.cps.toList)
def fitsLen (z : Str) (most : Int) : Bool := decide (1 <= (z.length : Int)) && decide ((z.length : Int) <= most)
def madeB (x : V) (signs : Str) (most : Int) : Bool := match x with
 | .str z => fitsLen z most && allIn z signs
 | _ => false
def intB (x : V) : Bool := match x with
 | .int _ => true
 | .bl _ => true
 | _ => false
def boolB (x : V) : Bool := match x with
 | .bl _ => true
 | _ => false
def strB (x : V) : Bool := match x with
 | .str _ => true
 | _ => false
def wholeB (x : V) : Bool := match x with
 | .int _ => true
 | _ => false
def zeroB (z : Str) : Bool := decide (V.str ⟨#[z.cps.toList.headD 0]⟩ = V.str "0") && !decide (V.str z = V.str "0")
def plainB (x : V) (most : Int) : V := match x with
 | .str z => if (madeB (.str z) FIG most && !zeroB z) = true then .int ((NumText.digitsVal z.cps.toList : Nat) : Int) else .non
 | _ => .non
def Th (H : Hp) (x : V) : Prop := match x with
 | .non => True
 | .bl _ => True
 | .int _ => True
 | .str z => z.length <= 100000
 | .ref a => (∃ xs, H a = some (.lst xs)) \/ (∃ xs, H a = some (.tup xs)) \/ ∃ kvs, H a = some (.dK kvs)
 | _ => False
structure Kit (K : PySem.W.Frag) : Prop where
 i_non : PySem.W.kitOne K (.type "NoneType") (.type "int") = some false
 i_bool : PySem.W.kitOne K (.type "bool") (.type "int") = some true
 i_str : PySem.W.kitOne K (.type "str") (.type "int") = some false
 i_list : PySem.W.kitOne K (.type "list") (.type "int") = some false
 i_tup : PySem.W.kitOne K (.type "tuple") (.type "int") = some false
 i_dict : PySem.W.kitOne K (.type "dict") (.type "int") = some false
 b_non : PySem.W.kitOne K (.type "NoneType") (.type "bool") = some false
 b_int : PySem.W.kitOne K (.type "int") (.type "bool") = some false
 b_str : PySem.W.kitOne K (.type "str") (.type "bool") = some false
 b_list : PySem.W.kitOne K (.type "list") (.type "bool") = some false
 b_tup : PySem.W.kitOne K (.type "tuple") (.type "bool") = some false
 b_dict : PySem.W.kitOne K (.type "dict") (.type "bool") = some false
 s_non : PySem.W.kitOne K (.type "NoneType") (.type "str") = some false
 s_int : PySem.W.kitOne K (.type "int") (.type "str") = some false
 s_bool : PySem.W.kitOne K (.type "bool") (.type "str") = some false
 s_list : PySem.W.kitOne K (.type "list") (.type "str") = some false
 s_tup : PySem.W.kitOne K (.type "tuple") (.type "str") = some false
 s_dict : PySem.W.kitOne K (.type "dict") (.type "str") = some false
theorem kit_int {K : PySem.W.Frag} (k : Kit K) {H : Hp} {x : V} (h : Th H x) : ∃ t, TyOf K H x t /\ PySem.W.kitOne K t (.type "int") = some (intB x) := by
 cases x with
 | non => exact ⟨_, .non, k.i_non⟩
 | bl b => exact ⟨_, .bl b, k.i_bool⟩
 | int i => exact ⟨_, .int i, rfl⟩
 | str z => exact ⟨_, .str z, k.i_str⟩
 | ref a =>
  rcases h with ⟨xs, h⟩ | ⟨xs, h⟩ | ⟨kvs, h⟩
  ·exact ⟨_, .lst h, k.i_list⟩
  ·exact ⟨_, .tup h, k.i_tup⟩
  ·exact ⟨_, .dK h, k.i_dict⟩
 | _ => exact h.elim
theorem kit_bool {K : PySem.W.Frag} (k : Kit K) {H : Hp} {x : V} (h : Th H x) : ∃ t, TyOf K H x t /\ PySem.W.kitOne K t (.type "bool") = some (boolB x) := by
 cases x with
 | non => exact ⟨_, .non, k.b_non⟩
 | bl b => exact ⟨_, .bl b, rfl⟩
 | int i => exact ⟨_, .int i, k.b_int⟩
 | str z => exact ⟨_, .str z, k.b_str⟩
 | ref a =>
  rcases h with ⟨xs, h⟩ | ⟨xs, h⟩ | ⟨kvs, h⟩
  ·exact ⟨_, .lst h, k.b_list⟩
  ·exact ⟨_, .tup h, k.b_tup⟩
  ·exact ⟨_, .dK h, k.b_dict⟩
 | _ => exact h.elim
theorem kit_str {K : PySem.W.Frag} (k : Kit K) {H : Hp} {x : V} (h : Th H x) : ∃ t, TyOf K H x t /\ PySem.W.kitOne K t (.type "str") = some (strB x) := by
 cases x with
 | non => exact ⟨_, .non, k.s_non⟩
 | bl b => exact ⟨_, .bl b, k.s_bool⟩
 | int i => exact ⟨_, .int i, k.s_int⟩
 | str z => exact ⟨_, .str z, rfl⟩
 | ref a =>
  rcases h with ⟨xs, h⟩ | ⟨xs, h⟩ | ⟨kvs, h⟩
  ·exact ⟨_, .lst h, k.s_list⟩
  ·exact ⟨_, .tup h, k.s_tup⟩
  ·exact ⟨_, .dK h, k.s_dict⟩
 | _ => exact h.elim
def spWhole : Sp := fun vs H Q _ => ∃ x, vs = [x] /\ Th H x /\ Q (.bl (wholeB x)) H
def spMade : Sp := fun vs H Q _ => ∃ x signs most, vs = [x, .str signs, .int most] /\ Th H x /\ ∀ H', Same H H' -> Q (.bl (madeB x signs most)) H'
structure Txt (mg : Str -> Option Value) : Prop where
 inst : mg "isinstance" = none
 int : mg "int" = none
 bool : mg "bool" = none
 str : mg "str" = none
 len : mg "len" = none
 all : mg "all" = none
 list : mg "list" = none
 range : mg "range" = none
 repr : mg "repr" = none
structure Def (P : Program) (w : World) (K : PySem.W.Frag) (mg : Str -> Option Value) (base : Heap) (k : Nat) (x : Str) (ps : List Str) (sp : Sp) (g : Addr) (gd : FuncData) : Prop where
 ok : FnOk P w K mg base CX0 k g gd ps sp
 b : Binds K gd ps []
 k : PySem.W.keepIn K (.ref g) = true
 m : mg x = some (.ref g)
section
variable {P : Program} {w : World} {K : PySem.W.Frag} {mg : Str -> Option Value} {base : Heap}
theorem scWhole : FnScope ["thing"] ["thing"] (defScope sWhole) := ⟨rfl, rfl, rfl, by decide +kernel, rfl, by decide +kernel, by decide +kernel⟩
theorem ok_whole {f : Addr} {fd : FuncData} (F : Fun K "is_whole" "is_whole" sWhole f fd) (T : Txt mg) (k : Kit K) : FnOk P w K mg base CX0 1 f fd ["thing"] spWhole := by
 refine F.ok scWhole (fun vs H Q E h => ?_) (fun cdv A outer s H vs Q E hr h => ?_)
 ·obtain ⟨x, rfl, _⟩ := h
  rfl
 obtain ⟨x, rfl, hx, q⟩ := h
 obtain ⟨t, ty, e⟩ := kit_int k hx
 obtain ⟨t2, ty2, e2⟩ := kit_bool k hx
 refine ⟨_, pss_one (ps_ret (pe_and (pe_callB call_inst rfl T.inst PyProof.Rows.boot_isinstance (pa_cons (pv 0) (pa_cons (pe_bltn (v := .ty "int") rfl T.int PyProof.Rows.boot_int rfl) pa_nil)))
  (pe_one (pe_not (pe_callB call_inst rfl T.inst PyProof.Rows.boot_isinstance (pa_cons (pv 0) (pa_cons (pe_bltn (v := .ty "bool") rfl T.bool PyProof.Rows.boot_bool rfl) pa_nil))))))), ?_⟩
 refine ⟨_, rfl, x, t, "int", _, rfl, ty, e, _, rfl, ?_⟩
 refine ite2 (fun c => ?_) (fun c => ?_)
 ·refine ⟨_, rfl, x, t2, "bool", _, rfl, ty2, e2, _, rfl, ?_⟩
  have : (!boolB x) = wholeB x := by cases x <;> first | rfl | cases c
  rw [this]
  exact q
 ·have : false = wholeB x := by cases x <;> first | rfl | exact absurd rfl c
  rw [<- this] at q
  exact q
theorem scMade : FnScope ["thing", "signs", "most"] ["thing", "signs", "most"] (defScope sMade) := ⟨rfl, rfl, rfl, by decide +kernel, rfl, by decide +kernel, by decide +kernel⟩
def inTo (z signs : Str) (i : Nat) : List Bool := (z.cps.toList.take i).map fun c => decide (c ∈ signs.cps.toList)
theorem inTo_succ {z signs : Str} {i c : Nat} (h : z.cps[i]? = some c) : inTo z signs (i + 1) = inTo z signs i ++ [decide (c ∈ signs.cps.toList)] := by
 unfold inTo
 have h' : z.cps.toList[i]? = some c := by rw [Array.getElem?_toList]; exact h
 rw [List.take_add_one, h', List.map_append]; rfl
theorem inTo_all (z signs : Str) : (inTo z signs z.cps.size).all id = allIn z signs := by
 unfold inTo allIn
 rw [List.take_of_length_le (by simp), List.all_map]; rfl
theorem ok_made {f : Addr} {fd : FuncData} (F : Fun K "is_made_of" "is_made_of" sMade f fd) (T : Txt mg) (k : Kit K) : FnOk P w K mg base CX0 1 f fd ["thing", "signs", "most"] spMade := by
 refine F.ok scMade (fun vs H Q E h => ?_) (fun cdv A outer s H vs Q E hr h => ?_)
 ·obtain ⟨x, signs, most, rfl, _⟩ := h
  rfl
 obtain ⟨x, signs, most, rfl, hx, q⟩ := h
 obtain ⟨t, ty, e⟩ := kit_str k hx
 have s1 : 100000 <= sizeLine := by decide
 refine ⟨_, pss_cons (ps_if (PW.pt (pw_or (pt_not (pt_val (pe_callB call_inst rfl T.inst PyProof.Rows.boot_isinstance (pa_cons (pv 0) (pa_cons (pe_bltn (v := .ty "str") rfl T.str PyProof.Rows.boot_str rfl) pa_nil)))))
   (pw_or1 (pt_not (pt_chain op_le op_le pe_int (pe_callB call_len_str rfl T.len PySem.boot_len (pa_cons (pv 0) pa_nil)) (pv 2)))))) (pss_one (ps_ret pe_bl)) pss_nil)
  (pss_one (ps_ret (pe_callB (call_all rfl) rfl T.all PyProof.Rows.boot_all (pa_cons (pe_compL (xs := ["sign"]) (fv := [("signs", 1)]) rfl (by decide +kernel) ⟨⟨rfl, Or.inl rfl, rfl⟩, trivial⟩ (pi_str (pv 0)) (fun _ _ _ _ _ => pg_name (i := 0) (ndT (by decide +kernel)) rfl (Or.inl rfl)) (fun _ _ _ _ _ => ptl_nil) (fun _ _ _ _ _ => pe_cmpR op_in_str (pv 0) (pv 1) (by with_unfolding_all rfl))) pa_nil)))), ?_⟩
 refine ⟨_, rfl, x, t, "str", _, rfl, ty, e, _, rfl, ?_⟩
 cases x with
 | str z =>
  have hz : z.length <= 100000 := hx
  refine iteF ?_
  have e0 : madeB (.str z) signs most = (fitsLen z most && allIn z signs) := rfl
  rw [e0] at q
  unfold fitsLen at q
  refine ⟨_, rfl, z, rfl, by omega, _, _, rfl, rfl, _, rfl, ?_⟩
  by_cases h1 : 1 <= (z.length : Int)
  ·rw [decide_eq_true h1, Bool.true_and] at q
   rw [decide_eq_true h1]
   refine iteT ⟨_, rfl, _, _, rfl, rfl, _, rfl, ?_⟩
   by_cases h2 : (z.length : Int) <= most
   ·rw [decide_eq_true h2, Bool.true_and] at q
    rw [decide_eq_true h2]
    refine iteF ?_
    refine ⟨_, rfl, z, rfl, comp_str (fun i D H' => Same H H' /\ H' D = some (.lst ((inTo z signs i).map V.bl))) (fun D hD => ⟨same_new hD _, upd_same⟩) (fun i D H' c hD hc hP => ?_) (fun D H' hD hP => ?_)⟩
    ·obtain ⟨g, hl⟩ := hP
     have hi : i < z.cps.size := (Array.getElem?_eq_some_iff.mp hc).1
     have hzs : z.cps.size <= 100000 := hz
     refine ⟨rfl, ?_⟩
     unfold tYes
     (try dsimp only)
     rw [if_pos rfl]
     refine ⟨_, rfl, _, rfl, _, _, rfl, rfl, _, hl, ?_, fun b o e => ?_, ?_⟩
     ·rw [List.length_map]; unfold inTo; rw [List.length_map, List.length_take]
      have : 100000 < sizeLine := by decide
      omega
     ·rw [upd_ne (ne_of_none e hD)]; exact g _ _ e
     ·rw [upd_same, inTo_succ hc, List.map_append, StrLaws.found_one]; rfl
    ·refine ⟨D, _, rfl, SqL.of hP.2, ?_⟩
     rw [inTo_all]
     exact q H' hP.1
   ·rw [decide_eq_false h2, Bool.false_and] at q
    rw [decide_eq_false h2]
    exact iteT (q H (Same.refl H))
  ·rw [decide_eq_false h1, Bool.false_and, Bool.false_and] at q
   rw [decide_eq_false h1]
   exact iteF ⟨_, rfl, iteT (q H (Same.refl H))⟩
 | _ => exact iteT (q H (Same.refl H))
structure Glb (K : PySem.W.Frag) (mg : Str -> Option Value) : Prop where
 figs : ∃ t, mg "FIGURES" = some (.str FIG t)
theorem digits_of {z : Str} (h : allIn z FIG = true) : NumText.AllDigits z.cps.toList := fun c hc => by
 have h1 := List.all_eq_true.mp h c hc
 have h2 : c ∈ FIG.cps.toList := of_decide_eq_true h1
 have h3 : ∀ c ∈ FIG.cps.toList, 48 <= c /\ c <= 57 := by decide +kernel
 exact h3 c h2
theorem scPlain : FnScope ["text", "most"] ["text", "most"] (defScope sPlain) := ⟨rfl, rfl, rfl, by decide +kernel, rfl, by decide +kernel, by decide +kernel⟩
def spPlain : Sp := fun vs H Q _ => ∃ x most, vs = [x, .int most] /\ most <= 640 /\ Th H x /\ ∀ H', Same H H' -> Q (plainB x most) H'
theorem ok_plain {f a1 : Addr} {fd d1 : FuncData} (F : Fun K "plain_number" "plain_number" sPlain f fd) (T : Txt mg) (G : Glb K mg) (D1 : Def P w K mg base 1 "is_made_of" ["thing", "signs", "most"] spMade a1 d1) : FnOk P w K mg base CX0 2 f fd ["text", "most"] spPlain := by
 refine F.ok scPlain (fun vs H Q E h => ?_) (fun cdv A outer s H vs Q E hr h => ?_)
 ·obtain ⟨x, most, rfl, _⟩ := h
  rfl
 obtain ⟨x, most, rfl, hm, hx, q⟩ := h
 obtain ⟨t1, g1⟩ := G.figs
 refine ⟨_, pss_cons (ps_if (pt_not (pt_val (pe_call D1.ok hr rfl D1.m D1.k D1.b .nil pass0 (pa_cons (pv 0) (pa_cons (pe_glob (v := .str FIG) rfl g1 ⟨_, rfl⟩) (pa_cons (pv 1) pa_nil)))))) (pss_one (ps_ret pe_non)) pss_nil)
  (pss_cons (ps_if (PW.pt (pw_and (pt_cmpR op_eq (pe_ix ix_str (pv 0) pe_int (fun _ _ => rfl)) pe_str (nomark _)) (pw_and1 (pt_cmpR op_ne (pv 0) pe_str (nomark _))))) (pss_one (ps_ret pe_non)) pss_nil)
  (pss_one (ps_ret (pe_callTy call_intS rfl T.int PyProof.Rows.boot_int (pa_cons (pv 0) pa_nil))))), ?_⟩
 refine ⟨_, rfl, _, rfl, x, FIG, most, rfl, hx, fun H' g => ⟨_, rfl, ?_⟩⟩
 have q' := q H' g
 by_cases c : madeB x FIG most = true
 ·rw [c]
  refine iteF ?_
  cases x with
  | str z =>
   have hz : z.length <= 100000 := hx
   have hc : (fitsLen z most && allIn z FIG) = true := c
   rw [Bool.and_eq_true] at hc
   obtain ⟨hf, ha⟩ := hc
   unfold fitsLen at hf
   rw [Bool.and_eq_true] at hf
   have l1 : 1 <= (z.length : Int) := of_decide_eq_true hf.1
   have l2 : (z.length : Int) <= most := of_decide_eq_true hf.2
   have hlen : z.cps.toList.length = z.length := Array.length_toList
   have e0 : plainB (.str z) most = if (madeB (.str z) FIG most && !zeroB z) = true then .int ((NumText.digitsVal z.cps.toList : Nat) : Int) else .non := rfl
   rw [e0, c, Bool.true_and] at q'
   unfold zeroB at q'
   have h0 : atI z.cps.toList 0 = some (z.cps.toList.headD 0) := by
    refine atI_nat (j := 0) ?_
    cases hl : z.cps.toList with
    | nil => rw [hl] at hlen; simp at hlen; omega
    | cons a r => rfl
   have s1 : 100000 <= sizeLine := by decide
   refine ⟨_, rfl, z, _, _, rfl, rfl, by omega, h0, rfl, _, rfl, ?_⟩
   have it := intText_digits (digits_of ha) (fun e => by rw [e] at hlen; simp at hlen; omega) (by omega)
   by_cases z1 : V.str ⟨#[z.cps.toList.headD 0]⟩ = V.str "0"
   ·rw [decide_eq_true z1, Bool.true_and] at q'
    rw [decide_eq_true z1]
    refine iteT ⟨_, rfl, rfl, _, rfl, ?_⟩
    by_cases z2 : V.str z = V.str "0"
    ·rw [decide_eq_true z2, Bool.not_true, Bool.not_false, if_pos rfl] at q'
     rw [decide_eq_true z2]
     exact iteF ⟨_, rfl, z, _, rfl, it, by omega, q'⟩
    ·rw [decide_eq_false z2, Bool.not_false, Bool.not_true, if_neg (by simp)] at q'
     rw [decide_eq_false z2]
     exact iteT q'
   ·rw [decide_eq_false z1, Bool.false_and, Bool.not_false, if_pos rfl] at q'
    rw [decide_eq_false z1]
    exact iteF (iteF ⟨_, rfl, z, _, rfl, it, by omega, q'⟩)
  | _ => cases c
 ·have c' : madeB x FIG most = false := by simpa using c
  rw [c']
  refine iteT ?_
  cases x with
  | str z =>
   have e0 : plainB (.str z) most = if (madeB (.str z) FIG most && !zeroB z) = true then .int ((NumText.digitsVal z.cps.toList : Nat) : Int) else .non := rfl
   rw [e0, c', Bool.false_and, if_neg (by simp)] at q'
   exact q'
  | _ => exact q'
end
end S
set_option Elab.async false
set_option linter.all false
set_option maxRecDepth 100000
namespace L2E
open PySem
section
variable {h : Heap} {g : Array GenState} {d : Drawn} {t : Nat} {os : OsState} {prog : Program} {w : World} {A : Around} {E : Value -> Shared -> Prop}
variable {nm q : Str} {C N : Addr} {bs bm bmN : List Value} {hdct : Bool} {sn : List Str} {sub : List Value} {ab : Bool} {col : Option Bool} {dd : Option Addr} {k0 k1 k2 k3 k5 : Option Value} {Bn newId inN : String}
structure Tail (bm : List Value) (Bn : String) : Prop where
 base : bm.contains (.type Bn) = true
 attr : bm.contains (.type "AttributeError") = false
 name : bm.contains (.type "NameError") = false
theorem Tail.has {bm : List Value} {Bn : String} (T : Tail bm Bn) (C : Addr) : (Value.ref C :: bm).contains (.type Bn) = true := by rw [List.contains_cons, T.base, Bool.or_true]
theorem Tail.noA {bm : List Value} {Bn : String} (T : Tail bm Bn) (C : Addr) : (Value.ref C :: bm).contains (.type "AttributeError") = false := by rw [List.contains_cons, T.attr]; rfl
theorem Tail.noN {bm : List Value} {Bn : String} (T : Tail bm Bn) (C : Addr) : (Value.ref C :: bm).contains (.type "NameError") = false := by rw [List.contains_cons, T.name]; rfl
theorem newChecked (Fn : ExcBaseFacts Bn newId inN bmN) (T : Tail bm Bn) {M : Model} {us : List Value} {Q : Unit -> Shared -> Prop} (at_ : h.get? C = some (excClassObj nm q C N bs bm hdct sn sub ab col dd k0 k1 k2 k3 k5 newId))
  (z : Q () ⟨h, g, d, t, os⟩) : wpAny M A (checkBuiltinCall newId ⟨.ref C :: us, []⟩) Q E ⟨h, g, d, t, os⟩ := by
 have c1 := T.has C
 have c2 := Fn.noStar
 simp only [Fn.newKind, Fn.newSplit, Fn.newRow, checkBuiltinCall]
 repeat (first | refine wpAny_loadPart_at at_ ?_ | (refine wpAny_isSubtype_exc at_ ?_; rw [c1]) | refine wpAny_staticBase_exc at_ ?_ | refine wpAny_madeBy_exc at_ ?_ | simp only [bne_self_eq_false, Bool.false_eq_true, if_false] | wp_step)
 exact z
theorem newRun (Fn : ExcBaseFacts Bn newId inN bmN) (T : Tail bm Bn) {R : Result -> Shared -> Prop} {us : List Value} (at_ : h.get? C = some (excClassObj nm q C N bs bm hdct sn sub ab col dd k0 k1 k2 k3 k5 newId))
  (z : R (.ok (.ret (.ref (h.objs.size + 1)))) ⟨(h.push { cls := .type "tuple", data := .seq us.toArray }).push { cls := .ref C, data := .fields #[.ref h.objs.size, .none, .none, .none, .bool false, .none] }, g, d, t, os⟩) (few : us.length <= sizeLine) :
  codeAny (model prog w) A (.builtin newId ⟨.ref C :: us, []⟩) R ⟨h, g, d, t, os⟩ := by
 have c0 := Fn.ends
 have c1 := T.has C
 have c2 := T.noA C
 have c3 := T.noN C
 refine codeAny_builtinAt Fn.entry ?_; unfold Builtin.«BaseException.__new__»
 refine wpAt_bind ?_; show wpAt _ _ _ (stack >>= _) _ _ _
 refine wpAt_bind (wpAt_stack fun _ _ => wpAt_of_wpAny ?_)
 wp_walk
 refine wpAt_of_wpAny ?_
 rw [Fn.owner]
 repeat (first | with_reducible refine wpAny_madeHere_exc Fn.canon at_ ?_ | with_reducible refine wpAny_loadPart_at at_ ?_ | (with_reducible refine wpAny_isSubtype_exc at_ ?_; first | rw [c1] | rw [c2] | rw [c3]) | wp_step)
 show R _ _
 rw [Heap.size_push]
 exact z
def Finds (h : Heap) (C : Addr) (x : Str) (v : Option Value) : Prop := ∀ (M : Model) (A : Around) (E : Value -> Shared -> Prop) (Q : Option Value -> Shared -> Prop) (g : Array GenState) (d : Drawn) (t : Nat) (os : OsState), Q v ⟨h, g, d, t, os⟩ -> wpAny M A (typeLookup (.ref C) x) Q E ⟨h, g, d, t, os⟩
def laid (h : Heap) (C : Addr) (us : List Value) : Heap := (h.push { cls := .type "tuple", data := .seq us.toArray }).push { cls := .ref C, data := .fields #[.ref h.objs.size, .none, .none, .none, .bool false, .none] }
theorem laid_old {h : Heap} {C : Addr} {us : List Value} {b : Addr} {o : Obj} (e : h.get? b = some o) : (laid h C us).get? b = some o := Heap.get?_push_of_some _ (Heap.get?_push_of_some _ e)
theorem laid_new {h : Heap} {C : Addr} {us : List Value} : (laid h C us).get? (h.objs.size + 1) = some { cls := .ref C, data := .fields #[.ref h.objs.size, .none, .none, .none, .bool false, .none] } := by unfold laid; heap_get
theorem typeCall (Fn : ExcBaseFacts Bn newId inN bmN) (T : Tail bm Bn) {us : List Value} {f : Addr} {of : Obj} {Q : Fin -> Shared -> Prop} (at_ : h.get? C = some (excClassObj nm q C N bs bm hdct sn sub ab col dd k0 k1 k2 k3 k5 newId))
  (hi : Finds (laid h C us) C "__init__" (some (.ref f))) (hf : h.get? f = some of) (hc : of.cls = .type "function") (few : us.length <= sizeLine)
  (z : wpAny (model prog w) A (call (.ref f) (.ref (h.objs.size + 1) :: us)) (fun r s' => r = .none /\ Q (.done (.ret (.ref (h.objs.size + 1)))) s') E ⟨laid h C us, g, d, t, os⟩) :
  wpAny (model prog w) A (Builtin.«type.__call__» ⟨.ref C :: us, []⟩) Q E ⟨h, g, d, t, os⟩ := by
 repeat (first | with_reducible refine wpAny_loadPart_at at_ ?_ | with_reducible refine wpAny_madeBy_exc at_ ?_ | wp_step)
 refine codeAny_call_builtin_code (Code.quiet_builtin _ Fn.quiet) (newChecked Fn T at_ ?_)
 refine newRun Fn T at_ ?_ few
 show wpAny _ _ _ _ _ ⟨laid h C us, g, d, t, os⟩
 have a1 := laid_old (C := C) (us := us) at_
 have a2 := laid_new (h := h) (C := C) (us := us)
 have self : (Value.ref C :: bm).contains (.ref C) = true := by simp
 unfold isInstance
 repeat (first | with_reducible refine wpAny_loadPart_at a2 ?_ | (with_reducible refine wpAny_isSubtype_exc a1 ?_; rw [self]) | wp_step)
 refine (show wpAny _ _ (typeLookup (.ref C) _) _ _ _ from hi _ _ _ _ _ _ _ _ ?_)
 refine wpAny_holding (wpAny_bind ?_); unfold bindSpecial
 refine wpAny_bind (wpAny_typeOf (T := "function") ⟨_, laid_old hf, hc⟩ ?_)
 rw [if_pos (by decide)]
 refine wpAny_pure (wpAny_bind (wpAny_mono z (fun r s' hr => ?_) fun _ _ x => x))
 obtain ⟨rfl, y⟩ := hr
 wp_walk
 exact y
theorem callErr (Fn : ExcBaseFacts Bn newId inN bmN) (T : Tail bm Bn) {us : List Value} {f : Addr} {of : Obj} {Q : Value -> Shared -> Prop} (at_ : h.get? C = some (excClassObj nm q C N bs bm hdct sn sub ab col dd k0 k1 k2 k3 k5 newId))
  (hi : Finds (laid h C us) C "__init__" (some (.ref f))) (hf : h.get? f = some of) (hc : of.cls = .type "function") (few : us.length <= sizeLine)
  (z : wpAny (model prog w) (A.under (.builtin "type.__call__" ⟨.ref C :: us, []⟩)) (call (.ref f) (.ref (h.objs.size + 1) :: us)) (fun r s' => r = .none /\ Q (.ref (h.objs.size + 1)) s') E ⟨laid h C us, g, d, t, os⟩) :
  wpAny (model prog w) A (call (.ref C) us) Q E ⟨h, g, d, t, os⟩ := by
 have b1 := tc_lookup
 have b2 := tc_bind (.ref C)
 have b3 : (⟨h, g, d, t, os⟩ : Shared).TypeIs (.ref C) "type" := ⟨_, at_, rfl⟩
 refine wpAny_call (codeAny_of_tree ?_); show wpAny _ _ (callAny (.ref C) _) _ _ _
 repeat (any_goals (first | assumption | with_reducible refine wpAny_loadPart_at at_ ?_ | wp_step))
 refine ⟨rfl, ?_⟩
 exact codeAny_call_builtin_at (Code.quiet_builtin _ (by decide +kernel)) entry_typeCall (wpAny_check_type_call_sub at_ (typeCall Fn T at_ hi hf hc few z))
end
end L2E
set_option Elab.async false
set_option linter.all false
set_option maxRecDepth 100000
namespace L2E
open PySem
section
variable {h : Heap} {g : Array GenState} {d : Drawn} {t : Nat} {os : OsState} {prog : Program} {w : World} {A : Around} {E : Value -> Shared -> Prop}
variable {nm q : Str} {C N : Addr} {bs bm bmB : List Value} {hdct : Bool} {sn : List Str} {sub : List Value} {ab : Bool} {col : Option Bool} {dd : Option Addr} {k0 k1 k2 k3 k5 : Option Value} {B nid newId initId : String}
theorem initChecked (F : ExcBaseFacts B nid initId bmB) (hB : bm.contains (.type B) = true) {M : Model} {e : Addr} {oe : Obj} {us : List Value} {Q : Unit -> Shared -> Prop}
  (at_ : h.get? C = some (excClassObj nm q C N bs bm hdct sn sub ab col dd k0 k1 k2 k3 k5 newId)) (he : h.get? e = some oe) (hc : oe.cls = .ref C) (z : Q () ⟨h, g, d, t, os⟩) :
  wpAny M A (checkBuiltinCall initId ⟨.ref e :: us, []⟩) Q E ⟨h, g, d, t, os⟩ := by
 have c1 : (Value.ref C :: bm).contains (.type B) = true := by rw [List.contains_cons, hB, Bool.or_true]
 have c2 := F.noStar
 simp only [F.initKind, F.initSplit, F.initRow, checkBuiltinCall]
 repeat (first | (with_reducible refine wpAny_loadPart_at he ?_; rw [hc]) | with_reducible refine wpAny_loadPart_at at_ ?_ | (with_reducible refine wpAny_isSubtype_exc at_ ?_; rw [c1]) | wp_step)
 refine wpAny_onRaise ?_
 have same : ∀ (a b : String) (n : Nat), Bind.check ⟨.positional, "*", B, .self, [⟨"args", .varPos, false⟩]⟩ a b n (List.map (fun x => x.fst) ({ pos := Value.ref e :: us } : Args).kw) = pure () := fun a b n => check_star_args _ _ _ _ _ _
 rw [same]
 exact wpAny_pure z
theorem initErr (F : ExcBaseFacts B nid initId bmB) (hB : bm.contains (.type B) = true) {e t0 : Addr} {de : Option Addr} {us : List Value} {Q : Value -> Shared -> Prop}
  (at_ : h.get? C = some (excClassObj nm q C N bs bm hdct sn sub ab col dd k0 k1 k2 k3 k5 newId)) (he : h.get? e = some { cls := .ref C, dict := de, data := .fields #[.ref t0, .none, .none, .none, .bool false, .none] }) (few : us.length <= sizeLine)
  (z : ∀ h', (∀ b o, b ≠ e -> h.get? b = some o -> h'.get? b = some o) -> h'.get? e = some { cls := .ref C, dict := de, data := .fields #[.ref h.objs.size, .none, .none, .none, .bool false, .none] } -> h'.get? h.objs.size = some { cls := .type "tuple", data := .seq us.toArray } -> Q .none ⟨h', g, d, t, os⟩) :
  wpAny (model prog w) A (call (.builtin initId) (.ref e :: us)) Q E ⟨h, g, d, t, os⟩ := by
 refine wpAny_call (codeAny_call_builtin F.init.plain F.initEntry (initChecked F hB at_ he rfl ?_))
 wp_walk
 have le : e < h.objs.size := Heap.lt_size he
 have he2 := Heap.get?_push_of_some { cls := .type "tuple", data := .seq us.toArray } he
 refine z _ (fun b o n hb => ?_) ?_ ?_
 ·rw [Heap.get?_update_other _ _ n.symm]
  exact Heap.get?_push_of_some _ hb
 ·rw [Heap.get?_update_self _ he2 rfl]
  rfl
 ·rw [Heap.get?_update_other _ _ (Nat.ne_of_lt le)]
  exact Heap.get?_push_at rfl rfl
end
end L2E
set_option Elab.async false
set_option linter.all false
set_option maxRecDepth 100000
namespace L2E
open PySem PySem.Builtin.ObjectAttr
section
variable {h : Heap} {g : Array GenState} {d : Drawn} {t : Nat} {os : OsState} {prog : Program} {w : World} {A : Around} {E : Value -> Shared -> Prop}
variable {nm q : Str} {C N x : Addr} {bs bm bmB : List Value} {sn : List Str} {sub : List Value} {ab : Bool} {col : Option Bool} {dd : Option Addr} {k0 k1 k2 k3 k5 : Option Value} {B newId sa owner : String} {name : Str} {v : Value}
theorem saChecked {M : Model} {o : Obj} {nameV : Value} {Q : Unit -> Shared -> Prop} (SF : StoreFacts B bmB sa owner) (own : bm.contains (.type owner) = true)
  (at_ : h.get? C = some (excClassObj nm q C N bs bm true sn sub ab col dd k0 k1 k2 k3 k5 newId)) (hx : h.get? x = some o) (hc : o.cls = .ref C) (z : Q () ⟨h, g, d, t, os⟩) : wpAny M A (checkBuiltinCall sa ⟨[.ref x, nameV, v], []⟩) Q E ⟨h, g, d, t, os⟩ := by
 have c1 : (Value.ref C :: bm).contains (.type owner) = true := by rw [List.contains_cons, own, Bool.or_true]
 have c2 := SF.args (.ref x) nameV v
 simp only [SF.kind, SF.split, checkBuiltinCall]
 refine wpAny_bind ?_
 unfold isInstance
 repeat (first | (with_reducible refine wpAny_loadPart_at hx ?_; rw [hc]) | (with_reducible refine wpAny_isSubtype_exc at_ ?_; rw [c1]) | wp_step)
 cases sg : Manifest.signature? sa with
 | none => exact wpAny_pure z
 | some s0 =>
  simp only [argsOk, sg] at c2
  have c3 : Bind.checkArgs sa s0 ⟨[.ref x, nameV, v], []⟩ = pure () := c2
  refine (show wpAny M A (Bind.checkArgs sa s0 ⟨[.ref x, nameV, v], []⟩) Q E _ from ?_)
  rw [c3]; exact wpAny_pure z
def dicted (o : Obj) (a : Addr) : Obj := { cls := o.cls, dict := some a, data := o.data, slots := o.slots }
theorem storeNew {tk : Tok} {Q : Fin -> Shared -> Prop} {o : Obj} (at_ : h.get? C = some (excClassObj nm q C N bs bm true sn sub ab col dd k0 k1 k2 k3 k5 newId)) (pass : refuseLoop (.ref x) "__setattr__" bm = pure ()) (fn : Finds h C name none)
  (hx : h.get? x = some o) (hc : o.cls = .ref C) (hd : o.dict = none) (hnc : ∀ c, o.data ≠ .cls c)
  (z : ∀ h' tk', h'.get? x = some (dicted o h.objs.size) -> h'.Ns1 h.objs.size (fun y => if y = name then some v else none) -> (∀ b o, b ≠ x -> h.get? b = some o -> h'.get? b = some o) -> Q (.done (.ret .none)) ⟨h', g, d, tk', os⟩) :
  wpAny (model prog w) A (Builtin.«object.__setattr__» ⟨[.ref x, .str name tk, v], []⟩) Q E ⟨h, g, d, t, os⟩ := by
 unfold Builtin.«object.__setattr__»
 repeat (first | rw [refuse_eq] | (rw [refuseLoop_ref, pass]) | (with_reducible refine wpAny_loadPart_at hx ?_; rw [hc]) | with_reducible refine wpAny_mroOf_exc at_ ?_ | wp_step)
 refine fn _ _ _ _ _ _ _ _ ?_
 repeat (first | (with_reducible refine wpAny_loadPart_at hx ?_; rw [hc]) | with_reducible refine wpAny_loadPart_at hx ?_ | wp_step)
 rw [hd, if_neg (by simp [typeHasDict])]
 split
 ·rename_i y; cases y
 split
 ·rename_i c y; exact absurd y (hnc c)
 have x1 : (h.push { cls := .type "dict", data := .dict #[] }).get? x = some o := Heap.get?_push_of_some _ hx
 have ne : x ≠ h.objs.size := Nat.ne_of_lt (Heap.lt_size hx)
 refine wpAny_bind (wpAny_alloc' (wpAny_bind (wpAny_update' x1 (wpAny_pure ?_))))
 have y1 : ((h.push { cls := .type "dict", data := .dict #[] }).update x fun o => dicted o h.objs.size).get? h.objs.size = some { cls := .type "dict", data := .dict #[] } := (Heap.get?_update_ne _ _ _ _ ne.symm).trans (Heap.get?_push_at rfl rfl)
 have y2 : ((h.push { cls := .type "dict", data := .dict #[] }).update x fun o => dicted o h.objs.size).Ns h.objs.size (fun _ => none) := ⟨_, #[], _, y1, rfl, fun e he => absurd he (by simp), fun _ => rfl⟩
 refine (show wpAny _ _ (storeInDict h.objs.size (.str name tk) name v) _ _ ⟨(h.push { cls := .type "dict", data := .dict #[] }).update x fun o => dicted o h.objs.size, _, _, _, _⟩ from ?_)
 unfold storeInDict newKeyGuard
 refine wpAny_bind (wpAny_pure (wpAny_bind (wpAny_nsSet1 (Heap.Ns1.of_empty y2) fun h2 n2 s2 => ?_)))
 obtain ⟨o3, e3, p3, a3, b3, c3⟩ := n2.count (Within.cons name v Within.nil)
 refine wpAny_bind (wpAny_lookBehind a3 (by rw [b3]; exact pastItsLine_dict (Nat.le_trans c3 (by rw [List.length_cons, List.length_nil, sizeLine_eq]; omega))) ?_)
 wp_walk
 refine z h2 _ ?_ n2 fun b ob n hb => ?_
 ·refine (s2.2 x ne).trans (Heap.get?_update_self _ x1 ?_)
  have fr := (Heap.get?_some_iff.mp hx).2
  obtain ⟨oc, od, odt, osl⟩ := o
  cases odt <;> first | rfl | exact fr
 ·exact (s2.2 b (Nat.ne_of_lt (Heap.lt_size hb))).trans ((Heap.get?_update_ne _ _ _ _ n).trans (Heap.get?_push_of_some _ hb))
theorem setErr {Q : Unit -> Shared -> Prop} {o : Obj} (SF : StoreFacts B bmB sa owner) (own : bm.contains (.type owner) = true) (at_ : h.get? C = some (excClassObj nm q C N bs bm true sn sub ab col dd k0 k1 k2 k3 k5 newId)) (pass : refuseLoop (.ref x) "__setattr__" bm = pure ())
  (fs : Finds h C "__setattr__" (some (.builtin sa))) (fn : Finds h C name none) (hx : h.get? x = some o) (hc : o.cls = .ref C) (hd : o.dict = none) (hnc : ∀ c, o.data ≠ .cls c)
  (z : ∀ h' tk', h'.get? x = some (dicted o h.objs.size) -> h'.Ns1 h.objs.size (fun y => if y = name then some v else none) -> (∀ b o, b ≠ x -> h.get? b = some o -> h'.get? b = some o) -> Q () ⟨h', g, d, tk', os⟩) :
  wpAny (model prog w) A (setAttr (.ref x) name v) Q E ⟨h, g, d, t, os⟩ := by
 have b1 := SF.slot.bind (.ref x)
 unfold setAttr callSpecial? specialOf
 repeat (any_goals (first | assumption | (with_reducible refine wpAny_loadPart_at hx ?_; rw [hc]) | wp_step))
 refine fs _ _ _ _ _ _ _ _ ?_
 repeat (any_goals (first | assumption | (with_reducible refine wpAny_loadPart_at hx ?_; rw [hc]) | wp_step))
 refine codeAny_call_builtin SF.slot.plain SF.entry (saChecked SF own at_ hx hc (storeNew at_ pass fn hx hc hd hnc fun h' tk' y1 y2 y3 => ?_))
 repeat (any_goals (first | assumption | wp_step))
 exact z h' tk' y1 y2 y3
end
end L2E
set_option Elab.async false
set_option linter.all false
set_option maxRecDepth 100000
namespace L2E
open PySem
section
variable {A : Around} {E : Value -> Shared -> Prop} {env : Env} {M : Model}
variable {nm q : Str} {C N : Addr} {bs bm : List Value} {hdct : Bool} {sn : List Str} {sub : List Value} {ab : Bool} {col : Option Bool} {dd : Option Addr} {k0 k1 k2 k3 k5 : Option Value} {newId : String}
theorem raiseErr {s : Shared} {x : Sem Value} {Q : Flow -> Shared -> Prop} (base : bm.contains (.type "BaseException") = true) (calm : A.handled = none)
  (h : wpAny M A x (fun v s1 => ∃ e dx ta sl, v = .ref e /\ s1.heap.get? C = some (excClassObj nm q C N bs bm hdct sn sub ab col dd k0 k1 k2 k3 k5 newId) /\ s1.heap.get? e = some { cls := .ref C, dict := dx, data := .fields #[.ref ta, .none, .none, .none, .bool false, .none], slots := sl } /\ E (.ref e) s1) E s) :
  wpAny M A (raiseStmt env (some x) none) Q E s := by
 have c1 : (Value.ref C :: bm).contains (.type "BaseException") = true := by rw [List.contains_cons, base, Bool.or_true]
 unfold raiseStmt
 refine wpAny_bind (wpAny_mono h (fun v s1 h1 => ?_) fun _ _ y => y)
 obtain ⟨e, dx, ta, sl, rfl, at_, he, z⟩ := h1
 obtain ⟨hp, g, d, tk, os⟩ := s1
 repeat (first | with_reducible refine wpAny_loadPart_at he ?_ | with_reducible refine wpAny_loadPart_at at_ ?_ | (with_reducible refine wpAny_isSubtype_exc at_ ?_; rw [c1]) | wp_step)
 exact wpAny_raiseNew_none calm z
end
end L2E
set_option Elab.async false
set_option linter.all false
set_option maxRecDepth 100000
namespace L2E
open PySem
section
variable {M : Model} {A : Around} {E : Value -> Shared -> Prop} {s : Shared}
structure Off (h h' : Heap) (e : Addr) (oe : Obj) (vs : Array Value) (l : List Env) (T : Addr) : Prop where
 fresh : h.objs.size <= T
 err : h'.get? e = some { oe with data := .fields (vs.setIfInBounds 1 (.ref T)) }
 tb : ∃ oT ts, h'.get? T = some oT /\ oT.data = .fields ts /\ ts[3]? = some .none
 keep : ∀ b o, b ≠ e -> vs[1]? ≠ some (.ref b) -> b ∉ L2.frs l -> h.get? b = some o -> h'.get? b = some o
 slot : ∀ b o, b ∈ L2.frs l -> h.get? b = some o -> ∃ sl, h'.get? b = some { o with slots := sl }
theorem mapFields_eq {o : Obj} {vs : Array Value} (hd : o.data = .fields vs) (f : Array Value -> Array Value) : o.mapFields f = { o with data := .fields (f vs) } := by
 obtain ⟨c, d, dt, sl⟩ := o
 simp only at hd
 subst hd
 rfl
theorem entryOff {base : Heap} {env : Env} {outer : List Env} {L e : Addr} {oe : Obj} {vs : Array Value} {head : Value} {hadNext : Bool} {Q : Unit -> Shared -> Prop}
  (hfr : A.frames = some (env :: outer)) (hl : s.heap.FunFrames base (env :: outer)) (hf : env.frame = some L)
  (he : s.heap.get? e = some oe) (hd : oe.data = .fields vs) (hsz : 1 < vs.size)
  (h : ∀ h' T, s.heap.objs.size <= T -> h'.get? e = some { oe with data := .fields (vs.setIfInBounds 1 (.ref T)) } -> (∃ oT ts, h'.get? T = some oT /\ oT.data = .fields ts /\ ts[3]? = some .none) ->
   (∀ b o, b ≠ e -> b ∉ L2.frs (env :: outer) -> s.heap.get? b = some o -> h'.get? b = some o) -> (∀ b o, b ∈ L2.frs (env :: outer) -> s.heap.get? b = some o -> ∃ sl, h'.get? b = some { o with slots := sl }) -> Q () { s with heap := h' }) :
  wpAny M A (do let a <- frameOf env; let pl <- entryPlaceOf L hadNext; let b <- EntryCells.newEntry head a .none (rawInt L) .none pl; setField (.ref e) 1 b) (fun _ s' => wpAny M A (setFlight (.ref e) none) Q E s') E s := by
 have hene : e ∉ (env :: outer).filterMap (·.frame) := fun hm => by
  obtain ⟨_, o, ho, hnf⟩ := hl.mem hm
  rw [he] at ho; injection ho with ho; subst ho; exact hnf vs hd
 refine wpAny_bind (wpAny_frameOf_fun hfr hl hf fun h₁ hs₁ => ?_)
 refine wpAny_bind (wpAny_entryPlaceOf fun pl hpl => ?_)
 unfold EntryCells.newEntry newFields
 refine wpAny_bind (wpAny_newObj_type ?_ (hpl.sizeOk5 _ _ _ _ _))
 have he₁ : h₁.get? e = some oe := (hs₁.2.1 e hene).trans he
 have he₂ := Heap.get?_push_of_some (h := h₁) { cls := .type "traceback", dict := none, data := .fields ([head, .ref L, .none, rawInt L, .none] ++ (if pl.isEmpty then List.replicate 6 Value.none else pl)).toArray } he₁
 refine wpAny_setField he₂ hd hsz ?_
 have hTe : h₁.objs.size ≠ e := Nat.ne_of_gt (Heap.lt_size he₁)
 have hd₃ := Obj.data_mapFields hd (·.setIfInBounds 1 (Value.ref h₁.objs.size))
 have he₃ := Heap.get?_update_self (Obj.mapFields (·.setIfInBounds 1 (Value.ref h₁.objs.size))) he₂ (Obj.isFreed_of_fields hd₃)
 have hT₃ := (Heap.get?_update_other (h₁.push { cls := .type "traceback", dict := none, data := .fields ([head, .ref L, .none, rawInt L, .none] ++ (if pl.isEmpty then List.replicate 6 Value.none else pl)).toArray })
  (Obj.mapFields (·.setIfInBounds 1 (Value.ref h₁.objs.size))) (Ne.symm hTe)).trans (Heap.get?_push_size h₁ rfl)
 unfold setFlight
 refine wpAny_bind (wpAny_field he₃ hd₃ (x := .ref h₁.objs.size) (by simp [hsz]) ?_)
 rw [if_pos (show (Value.ref h₁.objs.size != Value.none) = true from by simp)]
 have hsz1 : s.heap.objs.size <= h₁.objs.size := Nat.le_of_eq hs₁.1.symm
 have keep : ∀ b o, b ≠ e -> h₁.get? b = some o ->
   (((h₁.push { cls := .type "traceback", dict := none, data := .fields ([head, .ref L, .none, rawInt L, .none] ++ (if pl.isEmpty then List.replicate 6 Value.none else pl)).toArray }).update e (Obj.mapFields (·.setIfInBounds 1 (Value.ref h₁.objs.size)))).update h₁.objs.size
    (Obj.mapFields (·.setIfInBounds 3 ((none : Option Addr).elim Value.none fun f => rawInt f)))).get? b = some o := fun b o hbe hb => by
  have hbT : h₁.objs.size ≠ b := Nat.ne_of_gt (Heap.lt_size hb)
  rw [Heap.get?_update_other _ _ hbT, Heap.get?_update_other _ _ (Ne.symm hbe)]
  exact Heap.get?_push_of_some _ hb
 refine wpAny_setField hT₃ rfl (by simp only [List.size_toArray, List.length_append, List.length_cons, List.length_nil] <;> omega) (h _ h₁.objs.size hsz1 ?_ ?_ (fun b o hb hn q => ?_) fun b o hb q => ?_)
 ·rw [Heap.get?_update_other _ _ hTe, he₃, mapFields_eq hd]
 ·exact ⟨_, _, Heap.get?_update_self _ hT₃ (Obj.isFreed_of_fields (Obj.data_mapFields rfl _)), Obj.data_mapFields rfl _, by first | (simp; done) | (rcases hpl with rfl | ⟨_, _, _, _, _, _, _, rfl⟩ <;> simp)⟩
 ·exact keep b o hb ((hs₁.2.1 b hn).trans q)
 ·obtain ⟨sl, hs⟩ := hs₁.2.2 b o q
  exact ⟨sl, keep b _ (fun z => hene (z ▸ hb)) hs⟩
theorem noteOff {base : Heap} {env : Env} {outer : List Env} {L e : Addr} {oe : Obj} {vs : Array Value} {Q : Unit -> Shared -> Prop}
  (hfr : A.frames = some (env :: outer)) (hl : s.heap.FunFrames base (env :: outer)) (hf : env.frame = some L)
  (he : s.heap.get? e = some oe) (hd : oe.data = .fields vs)
  (hv : vs[1]? = some .none \/ ∃ T oT ts, vs[1]? = some (.ref T) /\ T ≠ e /\ s.heap.get? T = some oT /\ oT.data = .fields ts /\ ts[3]? = some .none)
  (h : ∀ h' T, Off s.heap h' e oe vs (env :: outer) T -> Q () { s with heap := h' }) :
  wpAny M A (noteFrame (.ref e) env) (fun _ s' => wpAny M A (setFlight (.ref e) none) Q E s') E s := by
 unfold noteFrame
 simp only [hf]
 rcases hv with h1 | ⟨T, oT, ts, h1, hTe, hT, hdT, h3⟩
 ·refine wpAny_bind (wpAny_field he hd h1 ?_)
  rw [if_neg (by decide)]
  exact entryOff hfr hl hf he hd (Array.getElem?_eq_some_iff.mp h1).1 fun h' T a1 a2 a3 a4 a5 => h h' T ⟨a1, a2, a3, fun b o hb _ hn q => a4 b o hb hn q, a5⟩
 ·refine wpAny_bind (wpAny_field he hd h1 ?_)
  rw [if_pos (show (Value.ref T != Value.none) = true from by simp)]
  refine wpAny_bind (wpAny_field hT hdT h3 ?_)
  rw [if_neg (show ¬ ((Value.none == rawInt L) = true) from by simp [rawInt])]
  refine wpAny_bind (wpAny_setField hT hdT (Array.getElem?_eq_some_iff.mp h3).1 ?_)
  have other : ∀ b, b ≠ T -> (s.heap.update T (Obj.mapFields (·.setIfInBounds 3 Value.none))).get? b = s.heap.get? b := fun b hb => Heap.get?_update_other _ _ (Ne.symm hb)
  have noRecord : ∀ b o, s.heap.get? b = some o -> (∀ vs, o.data ≠ .fields vs) -> b ≠ T := fun b o hb hnf q => by
   rw [q, hT] at hb; injection hb with hb; subst hb; exact hnf ts hdT
  have frT : ∀ b, b ∈ L2.frs (env :: outer) -> b ≠ T := fun b hb => by
   obtain ⟨_, o, ho, hnf⟩ := hl.mem hb
   exact noRecord b o ho hnf
  refine entryOff (s := { s with heap := s.heap.update T (Obj.mapFields (·.setIfInBounds 3 Value.none)) }) hfr (hl.of_keeps fun b o hb hnf => ⟨o, (other b (noRecord b o hb hnf)).trans hb, rfl⟩) hf ((other e (Ne.symm hTe)).trans he) hd (Array.getElem?_eq_some_iff.mp h1).1
   fun h' T' a1 a2 a3 a4 a5 => h h' T' ⟨by rw [Heap.size_update] at a1; exact a1, a2, a3, fun b o hb hbT hn q => a4 b o hb hn ((other b fun z => hbT (by rw [h1, z])).trans q), fun b o hb q => a5 b o hb ((other b (frT b hb)).trans q)⟩
theorem leaveOff {base : Heap} {env : Env} {outer : List Env} {L e : Addr} {oe : Obj} {vs : Array Value} {Q : Unit -> Shared -> Prop}
  (hfr : A.frames = some (env :: outer)) (hl : s.heap.FunFrames base (env :: outer)) (hf : env.frame = some L)
  (he : s.heap.get? e = some oe) (hd : oe.data = .fields vs)
  (hv : vs[1]? = some .none \/ ∃ T oT ts, vs[1]? = some (.ref T) /\ T ≠ e /\ s.heap.get? T = some oT /\ oT.data = .fields ts /\ ts[3]? = some .none)
  (h : ∀ h' T, Off s.heap h' e oe vs (env :: outer) T -> Q () { s with heap := h' }) : wpAny M A (leaving env (.ref e)) Q E s := by
 unfold leaving
 exact wpAny_bind (noteOff hfr hl hf he hd hv h)
end
end L2E
set_option Elab.async false
set_option linter.all false
set_option maxRecDepth 100000
namespace L2
open PySem PySem.Spec PyProof.Rows
structure Fly (h : Heap) (e C dx T : Addr) : Prop where
 ex : ∃ vs sl, h.get? e = some { cls := .ref C, dict := some dx, data := .fields vs, slots := sl } /\ vs[1]? = some (.ref T)
 ne : T ≠ e
 tb : ∃ oT ts, h.get? T = some oT /\ oT.data = .fields ts /\ ts[3]? = some .none
def CXE (P : Program) (w : World) : CXT := fun outer H s E ev s' => ∃ (e C dx T : Addr) (H' : Hp), ev = .ref e /\ s'.os = s.os /\ AllBare s'.gens /\ Un (frs outer) [] H H' s.heap s'.heap /\ HOk P w H' s'.heap /\
 Fly s'.heap e C dx T /\ s.heap.objs.size <= e /\ s.heap.objs.size <= T /\ H' e = none /\ H' T = none /\ E (.ref C) (some dx) H'
section
variable {X : Cx} {pins : List (Addr × Obj)} {σ : St} {H : Hp} {s : Shared} {h' : Heap}
structure Own (X : Cx) (pins : List (Addr × Obj)) (H : Hp) (h : Heap) (b : Addr) : Prop where
 new : X.s₀.heap.objs.size <= b
 free : H b = none
 recd : ∃ o vs, h.get? b = some o /\ o.data = .fields vs
 pin : ∀ p ∈ X.pn ++ pins, p.1 ≠ b
theorem Inv.off {e T' : Addr} {oe : Obj} {vs : Array Value} (I : Inv X pins σ H s) (hst : X.stack = X.env :: X.outer) (hfr : X.env.frame = some X.env.locals)
  (O : L2E.Off s.heap h' e oe vs X.stack T') (oe' : Own X pins H s.heap e) (oT : ∀ T, vs[1]? = some (.ref T) -> Own X pins H s.heap T) : Inv X pins σ H { s with heap := h' } := by
 let ch : List Addr := e :: (match (vs[1]? : Option Value) with | some (Value.ref T) => [T] | _ => [])
 have hch : ∀ b ∈ ch, Own X pins H s.heap b := fun b hb => by
  rcases List.mem_cons.mp hb with rfl | hb
  ·exact oe'
  ·split at hb
   ·rename_i T hT
    rw [List.mem_singleton.mp hb]
    exact oT T hT
   ·cases hb
 have nch : ∀ b, b ∉ ch -> b ≠ e /\ vs[1]? ≠ some (.ref b) := fun b hb => ⟨fun z => hb (z ▸ List.mem_cons_self ..), fun z => hb (by
  refine List.mem_cons_of_mem _ ?_
  rw [z]; exact List.mem_singleton.mpr rfl)⟩
 have frL : frs X.stack = X.env.locals :: X.fs := by
  rw [hst]
  unfold frs
  rw [List.filterMap_cons, hfr]; rfl
 have neL : ∀ b, Own X pins H s.heap b -> b ≠ X.env.locals := fun b ob z => by
  obtain ⟨m, ⟨o, es, ep, ho, hd, _⟩, _⟩ := I.loc
  obtain ⟨o', vs', ho', hd'⟩ := ob.recd
  rw [z, ho] at ho'; cases ho'; rw [hd] at hd'; cases hd'
 have neC : ∀ b, Own X pins H s.heap b -> ∀ x c, X.env.cells.lookup x = some c -> c ≠ b := fun b ob x c hc z => by
  obtain ⟨v, o, ho, hd⟩ := I.cell x c hc
  obtain ⟨o', vs', ho', hd'⟩ := ob.recd
  rw [z, ho'] at ho; cases ho; rw [hd'] at hd; cases hd
 refine I.step (g' := s.gens) (d' := s.drawn) (t' := s.toks) (ch := ch) (fun b hb => ⟨.inr (hch b hb).new, neL b (hch b hb), neC b (hch b hb), (hch b hb).pin⟩)
  (fun b o hL hb hc q _ => O.keep b o (nch b hc).1 (nch b hc).2 (by rw [frL]; exact fun z => (List.mem_cons.mp z).elim hL hb) q)
  (fun b o hL hb hc q _ => O.slot b o (by rw [frL]; exact List.mem_cons_of_mem _ hb) q) (fun _ _ _ _ n => n) (fun b o hc q => ?_) (fun _ _ q => q) (fun _ _ _ q => q) (fun b ps q => ⟨#[], by rw [q]; simp⟩) (fun m hm => ?_) (fun b u q => ?_) I.bare
 ·by_cases hb : b ∈ frs X.stack
  ·obtain ⟨sl, z⟩ := O.slot b o hb q
   exact ⟨_, z⟩
  ·exact ⟨o, O.keep b o (nch b hc).1 (nch b hc).2 hb q⟩
 ·obtain ⟨o, es, ep, ho, r⟩ := hm
  obtain ⟨sl, z⟩ := O.slot _ o (by rw [frL]; exact List.mem_cons_self ..) ho
  exact ⟨_, es, ep, z, r⟩
 ·refine (I.hok b u q).stay (fun c v hc z => ?_) (fun _ z => z) fun _ _ z => z
  have hcn : H c ≠ none := by
   rcases hc with rfl | hc
   ·rw [q]; simp
   ·rw [hc]; simp
  refine O.keep c v (fun y => hcn (y ▸ oe'.free)) (fun y => hcn (oT c y).free) (fun y => hcn (I.stkFree c y)) z
end
end L2
set_option Elab.async false
set_option linter.all false
set_option maxRecDepth 100000
namespace L2E
open PySem PySem.Builtin.ObjectAttr
section
variable {prog : Program} {w : World} {A : Around} {E : Value -> Shared -> Prop} {h : Heap} {g : Array GenState} {d : Drawn} {t : Nat} {os : OsState} {a dx : Addr} {o : Obj} {name : Str} {v : Value} {m : Str -> Option Value}
 {nm q : Str} {C N : Addr} {bs bm : List Value} {hdct : Bool} {sn : List Str} {sub : List Value} {ab : Bool} {col : Option Bool} {dd : Option Addr} {k0 k1 k2 k3 k5 : Option Value} {newId : String}
theorem gaChecked {M : Model} {nameV : Value} {Q : Unit -> Shared -> Prop} (base : bm.contains (.type "BaseException") = true) (at_ : h.get? C = some (excClassObj nm q C N bs bm hdct sn sub ab col dd k0 k1 k2 k3 k5 newId))
  (hx : h.get? a = some o) (hc : o.cls = .ref C) (hq : Q () ⟨h, g, d, t, os⟩) : wpAny M A (checkBuiltinCall "BaseException.__getattribute__" ⟨[.ref a, nameV], []⟩) Q E ⟨h, g, d, t, os⟩ := by
 have hk : builtinKind "BaseException.__getattribute__" = some .slot := by decide +kernel
 have hsplit : splitId "BaseException.__getattribute__" = some ("BaseException", "__getattribute__") := by decide +kernel
 have hcB : (Value.ref C :: bm).contains (.type "BaseException") = true := by rw [List.contains_cons, base, Bool.or_true]
 have ha := F.args_bexc_ga (.ref a) nameV
 simp only [checkBuiltinCall, hk, hsplit]
 refine wpAny_bind ?_
 ·unfold isInstance
  repeat (first | (with_reducible refine wpAny_loadPart_at hx ?_; rw [hc]) | (with_reducible refine wpAny_isSubtype_exc at_ ?_; rw [hcB]) | wp_step)
  exact hq
theorem foundEntry {tk : Tok} {Q : Fin -> Shared -> Prop} (at_ : h.get? C = some (excClassObj nm q C N bs bm true sn sub ab col dd k0 k1 k2 k3 k5 newId)) (fn : Finds h C name none)
  (hx : h.get? a = some o) (hc : o.cls = .ref C) (hnc : ∀ c, o.data ≠ .cls c) (hd : o.dict = some dx) (hns : h.Ns dx m) (hv : m name = some v) (hq : Q (.done (.ret v)) ⟨h, g, d, t, os⟩) :
  wpAny (model prog w) A (Builtin.«object.__getattribute__» ⟨[.ref a, .str name tk], []⟩) Q E ⟨h, g, d, t, os⟩ := by
 unfold Builtin.«object.__getattribute__»
 repeat (any_goals (first | assumption | (with_reducible refine wpAny_loadPart_at hx ?_; rw [hc]) | wp_step))
 refine fn _ _ _ _ _ _ _ _ ?_
 repeat (any_goals (first | assumption | (with_reducible refine wpAny_loadPart_at hx ?_; rw [hc]) | with_reducible refine wpAny_loadPart_at at_ ?_ | wp_step))
 split
 ·rename_i c hcd
  exact absurd hcd (hnc c)
 unfold instanceDict
 repeat (first | (with_reducible refine wpAny_loadPart_at hx ?_; rw [hc]) | (with_reducible refine wpAny_loadPart_at hx ?_; rw [hd]) | with_reducible refine wpAny_loadPart_at hx ?_ | with_reducible refine wpAny_loadPart_at at_ ?_ | wp_step)
 rw [hd]
 repeat (first | (with_reducible refine wpAny_nsGet hns ?_; rw [hv]) | wp_step)
 exact hq
theorem foundBy {tk : Tok} {fill expr : Bool} {Q : Value -> Shared -> Prop} (base : bm.contains (.type "BaseException") = true) (at_ : h.get? C = some (excClassObj nm q C N bs bm true sn sub ab col dd k0 k1 k2 k3 k5 newId)) (fn : Finds h C name none)
  (fg : Finds h C "__getattribute__" (some (.builtin "BaseException.__getattribute__"))) (fh : Finds h C "__getattr__" none) (bind : ∀ x : Value, bindSpecial (.builtin "BaseException.__getattribute__") x = pure (.builtin "BaseException.__getattribute__", [x]))
  (hx : h.get? a = some o) (hc : o.cls = .ref C) (hnc : ∀ c, o.data ≠ .cls c) (hd : o.dict = some dx) (hns : h.Ns dx m) (hv : m name = some v) (hh : handedOut v = pure v) (hq : Q v ⟨h, g, d, t, os⟩) :
  wpAny (model prog w) A (getAttrBy (.ref a) (.str name tk) fill expr) Q E ⟨h, g, d, t, os⟩ := by
 have f3 := bind (.ref a)
 have hx0 : (expr && onTheHeap (Value.builtin "BaseException.__getattribute__")) = false := by cases expr <;> rfl
 have hx2 : (Value.builtin "BaseException.__getattribute__" == Value.builtin "object.__getattribute__") = false := by decide +kernel
 have hx1 : (onTheHeap (Value.ref C) && Value.builtin "BaseException.__getattribute__" == Value.builtin "object.__getattribute__") = false := by rw [hx2]; rfl
 unfold getAttrBy
 repeat (any_goals (first | assumption | (with_reducible refine wpAny_loadPart_at hx ?_; rw [hc]) | wp_step))
 refine fg _ _ _ _ _ _ _ _ ?_
 repeat (any_goals (first | assumption | (with_reducible refine wpAny_loadPart_at hx ?_; rw [hc]) | wp_step))
 refine fh _ _ _ _ _ _ _ _ ?_
 repeat (any_goals (first | assumption | (with_reducible refine wpAny_loadPart_at hx ?_; rw [hc]) | wp_step))
 refine codeAny_call_builtin (by decide +kernel) F.entry_bexc_ga (gaChecked base at_ hx hc (foundEntry at_ fn hx hc hnc hd hns hv ?_))
 repeat (any_goals (first | assumption | wp_step))
theorem bga_bind (x : Value) : bindSpecial (.builtin "BaseException.__getattribute__") x = pure (.builtin "BaseException.__getattribute__", [x]) := by kernel_rfl
theorem getErr {expr : Bool} {Q : Value -> Shared -> Prop} (base : bm.contains (.type "BaseException") = true) (at_ : h.get? C = some (excClassObj nm q C N bs bm true sn sub ab col dd k0 k1 k2 k3 k5 newId)) (fn : Finds h C name none)
  (fg : Finds h C "__getattribute__" (some (.builtin "BaseException.__getattribute__"))) (fh : Finds h C "__getattr__" none)
  (hx : h.get? a = some o) (hc : o.cls = .ref C) (hnc : ∀ c, o.data ≠ .cls c) (hd : o.dict = some dx) (hns : h.Ns dx m) (hv : m name = some v) (hh : handedOut v = pure v) (hq : Q v ⟨h, g, d, t + 1, os⟩) :
  wpAny (model prog w) A (getAttr (.ref a) name expr) Q E ⟨h, g, d, t, os⟩ := by
 unfold getAttr
 repeat (any_goals (first | assumption | with_reducible apply foundBy base at_ fn fg fh bga_bind hx hc hnc hd hns hv hh | wp_step))
end
end L2E
set_option Elab.async false
set_option linter.all false
set_option maxRecDepth 100000
namespace L2
open PySem PySem.Spec PyProof.Rows
structure ErrC (K : PySem.W.Frag) (C f : Addr) (bm : List Value) : Prop where
 obj : ∃ nm q N bs sn sub ab col dd k0 k1 k2 k3 k5, K.lookup C = some (excClassObj nm q C N bs bm true sn sub ab col dd k0 k1 k2 k3 k5 "ValueError.__new__")
 init : PySem.W.findIn K (.ref C) "__init__" = some (some (.ref f))
 fn : PySem.W.isFn K (.ref f) = true
 kp : PySem.W.keepIn K (.ref C) = true
 sa : PySem.W.findIn K (.ref C) "__setattr__" = some (some (.builtin "object.__setattr__"))
 ga : PySem.W.findIn K (.ref C) "__getattribute__" = some (some (.builtin "BaseException.__getattribute__"))
 gh : PySem.W.findIn K (.ref C) "__getattr__" = some none
 tail : L2E.Tail bm "ValueError"
 base : bm.contains (.type "BaseException") = true
 own : bm.contains (.type "object") = true
 pass : ∀ x, refuseLoop x "__setattr__" bm = pure ()
theorem finds_K {K : PySem.W.Frag} {h : Heap} {C : Addr} {x : Str} {v : Option Value} (X : K.In h) (e : PySem.W.findIn K (.ref C) x = some v) : L2E.Finds h C x v := fun _ _ _ _ _ _ _ _ z => (PySem.W.looks_findIn X e).here z
theorem isFn_at {K : PySem.W.Frag} {h : Heap} {f : Addr} (X : K.In h) (e : PySem.W.isFn K (.ref f) = true) : ∃ o, h.get? f = some o /\ o.cls = .type "function" := by
 have e : (K.lookup f).map (·.cls) = some (.type "function") := beq_iff_eq.mp e
 cases q : K.lookup f with
 | none => rw [q] at e; cases e
 | some o => rw [q] at e; exact ⟨o, X _ _ q, by injection e⟩
def errO (e C : Addr) (dx : Option Addr) : HO := .ext fun h => ∃ t0, h.get? e = some { cls := .ref C, dict := dx, data := .fields #[.ref t0, .none, .none, .none, .bool false, .none] }
theorem errO_ok {P : Program} {w : World} {H : Hp} {h : Heap} {e C t0 : Addr} {dx : Option Addr} (he : h.get? e = some { cls := .ref C, dict := dx, data := .fields #[.ref t0, .none, .none, .none, .bool false, .none] }) : ObjOk P w H h e (errO e C dx) :=
 ⟨⟨t0, he⟩, ⟨_, he⟩, fun _ _ ⟨t, q⟩ k => ⟨t, k _ q⟩⟩
theorem errO_at {P : Program} {w : World} {H : Hp} {h : Heap} {e C : Addr} {dx : Option Addr} (ok : HOk P w H h) (he : H e = some (errO e C dx)) : ∃ t0, h.get? e = some { cls := .ref C, dict := dx, data := .fields #[.ref t0, .none, .none, .none, .bool false, .none] } := (ok e _ he).1
theorem upd_self {H : Hp} {a : Addr} {o : HO} (h : H a = some o) : upd H a o = H := funext fun b => by
 by_cases e : b = a
 ·subst e; rw [upd_same, h]
 ·rw [upd_ne e]
section
variable {X : Cx} {p ap pos : Pos} {a b : Expr} {ta : TA}
theorem ve_find {K : PySem.W.Frag} : PySem.W.findCls K (.type "ValueError") (.type "type") "__init__" = some (.val (.builtin "ValueError.__init__")) := by
 kernel_rfl
def tInitB (K : PySem.W.Frag) (ta : TA) : TE := fun σ H Q => ta σ H fun vs H1 => ∃ e C u f bm, vs = [.ref e, u] /\ ErrC K C f bm /\ H1 e = some (errO e C none) /\ Q .non H1
theorem pe_initB {pl : Sem Bool} (hg : Gl X "ValueError") (hm : X.mg "ValueError" = none) (ha : PA X [a, b] ta)
  (ht : eval (.Call (.Attribute (.Name "ValueError" p) "__init__" ap) [a, b] [] pos) X.env = (do
   let ov <- eval (.Name "ValueError" p) X.env
   standAt ap.atName
   let (f, first) <- holding [ov] (getMethod ov "__init__" pl)
   callWith pos f first (backTo pos (starEach [a, b] X.env)) (backToKw pos (keywordEach [] X.env))) := by rfl)
  (he : starEach [a, b] X.env = (false, eval a X.env) :: starEach [b] X.env := by rfl) (hpl : (backTo pos (starEach [b] X.env)).any (·.1) = false := by rfl) :
  PE X (.Call (.Attribute (.Name "ValueError" p) "__init__" ap) [a, b] [] pos) (tInitB X.K ta) := by
 intro pins s σ H Q I h
 refine PySem.W.methodCall_KW (pl := pl) (ld_blt I hg hm (by decide +kernel : bootBuiltins "ValueError" = some (.type "ValueError")) ?_) ht
 have L0 : ∀ {M : Model} {h : Heap}, PySem.W.Looks M h (typeOf (.type "ValueError")) (.type "type") := PySem.W.Looks.of_pure (PySem.W.kitMeta_of (by decide +kernel))
 have hg0 : PySem.W.findIn X.K (.type "type") "__getattribute__" = some (some (.builtin "type.__getattribute__")) := PySem.W.type_tga
 have L1 : PySem.W.Looks (model X.prog X.w) s.heap (specialOf (.type "ValueError") "__getattribute__") (some (.builtin "type.__getattribute__")) := L0.andThen (PySem.W.looks_findIn I.kIn hg0)
 unfold getMethod
 refine wpAny_bind (L1.here ?_)
 dsimp only
 rw [if_pos PySem.W.canon_tga]
 refine wpAny_bind (PySem.W.cls_open I.kIn (PySem.W.Looks.of_pure (by kernel_rfl)) L0 hg0 (PySem.W.looks_hook I.kIn (r := none) (by rfl)) (by show PySem.W.subIn X.K _ _ = _; rfl) ve_find (wpAny_pure ?_))
 show wpAny _ _ (handedOut _) _ _ _
 rw [PySem.W.handedOut_of (by decide +kernel)]
 refine wpAny_pure (wpAny_pure ?_)
 have I0 := I.tok (s.toks + 1)
 refine PyProof.Rows.callWith_builtin1 (thn (ha pos pins _ σ H _ I0 h) fun us s1 ⟨vs, H1, I1, r1, q1⟩ => ?_) he hpl
 obtain ⟨e, C, u, f, bm, rfl, ec, hH, q⟩ := q1
 cases r1 with
 | cons ra rb =>
  cases rb with
  | cons rc rd =>
   cases rd
   cases ra
   rename_i u'
   obtain ⟨nm, q0, N, bs, sn, sub, ab, col, dd, k0, k1, k2, k3, k5, lk⟩ := ec.obj
   have at_ := I1.kIn _ _ lk
   obtain ⟨t0, hx⟩ := errO_at I1.hok hH
   obtain ⟨hh, g, d, t, os⟩ := s1
   refine L2E.initErr PySem.F.excBase_ValueError ec.tail.base at_ hx (by show 1 <= sizeLine; decide) fun h' z1 z2 z3 => ?_
   have J := I1.write (h' := h') (x := e) (e := e) (o := errO e C none) (t' := t) (by rw [hH]; exact True.intro) (.inl rfl) z1 ⟨_, z2⟩ (errO_ok z2)
   rw [upd_self hH] at J
   exact ⟨.non, H1, J, rfl, q⟩
structure ClsFn (K : PySem.W.Frag) (C f : Addr) : Prop where
 sp : PySem.W.specialIn K (.ref C) "__getattribute__" = some (some (.builtin "type.__getattribute__"))
 rd : PySem.W.readsIn K C (.type "type") = true
 fc : PySem.W.findCls K (.ref C) (.type "type") "__init__" = some (.val (.ref f))
 kp : PySem.W.keepIn K (.ref f) = true
theorem pe_initM {pl : Sem Bool} {CX : CXT} {E : XK} {k : Nat} {C f : Addr} {fd : FuncData} {ps : List Str} {sp : Sp} {x : Str} {es : List Expr} (cf : ClsFn X.K C f) (F : FnOk X.prog X.w X.K X.mg X.base CX k f fd ps sp) (hr : Room k X.A) (hb : Binds X.K fd ps []) (hx : Passes CX X E)
  (hg : Gl X x) (hm : X.mg x = some (.ref C)) (ha : PA X (a :: es) ta)
  (ht : eval (.Call (.Attribute (.Name x p) "__init__" ap) (a :: es) [] pos) X.env = (do
   let ov <- eval (.Name x p) X.env
   standAt ap.atName
   let (f, first) <- holding [ov] (getMethod ov "__init__" pl)
   callWith pos f first (backTo pos (starEach (a :: es) X.env)) (backToKw pos (keywordEach [] X.env))) := by rfl)
  (hdb : (x == ("__debug__" : Str)) = false := by decide) (he : starEach (a :: es) X.env = (false, eval a X.env) :: starEach es X.env := by rfl) (hpl : (backTo pos (starEach es X.env)).any (·.1) = false := by rfl) :
  PE X (.Call (.Attribute (.Name x p) "__init__" ap) (a :: es) [] pos) (tCall sp [] E ta) := by
 intro pins s σ H Q I h
 refine PySem.W.methodCall_KW (pl := pl) (ld_glob I hg hm ?_ hdb) ht
 refine PySem.W.method_cls I.kIn cf.sp (PySem.W.cls_value I.kIn cf.rd cf.fc rfl ?_)
 have I0 := I.tok (s.toks + 1)
 refine PySem.W.callWith_K (h₀ := X.base) I.ok.mod.kin cf.kp (thn (ha pos pins _ σ H _ I0 h) fun us s1 ⟨vs, H1, I1, r, q⟩ => ⟨I1.kIn, ?_⟩) he hpl
 exact run_fn F hr hb .nil hx I1 r q
end
end L2
set_option Elab.async false
set_option linter.all false
set_option maxRecDepth 100000
namespace L2
open PySem PySem.Spec PyProof.Rows
section
variable {X : Cx} {pins : List (Addr × Obj)} {σ : St} {H : Hp} {s : Shared} {pos pos' : Pos} {o value : Expr} {fld : Str} {ta tv : TE}
def sSetE (K : PySem.W.Frag) (ta tv : TE) (fld : Str) : TS := fun D σ H => tv σ H fun y H1 => ta σ H1 fun x H2 => ∃ e C f bm, x = .ref e /\ ErrC K C f bm /\ PySem.W.findIn K (.ref C) fld = some none /\ H2 e = some (errO e C none) /\
 ∀ dx, H2 dx = none -> dx ≠ e -> D.nx σ (upd (upd H2 e (errO e C (some dx))) dx (.xd [(fld, y)]))
theorem ps_setE (ha : PE X o ta) (hv : PE X value tv) (hs : swapsWith value (some (.Attribute o fld pos')) pos.line X.env = pure false) : PS X (.Assign [.Attribute o fld pos'] value pos) (sSetE X.K ta tv fld) := by
 intro pins s σ H D I h
 refine plainObj_wpAny_Assign_Attribute (thn (hv pins s σ H _ I h) fun u s1 ⟨y, H1, I1, ry, q⟩ => thn (ha pins s1 σ H1 _ I1 q) fun ov s2 ⟨x, H2, I2, rx, e, C, f, bm, ex, ec, nf, hH, q2⟩ => ?_) hs
 subst ex
 obtain rfl : ov = Value.ref e := rx
 obtain ⟨nm, q0, N, bs, sn, sub, ab, col, dd, k0, k1, k2, k3, k5, lk⟩ := ec.obj
 have at_ := I2.kIn _ _ lk
 obtain ⟨t0, hx⟩ := errO_at I2.hok hH
 obtain ⟨hh, g, d, t, os⟩ := s2
 refine L2E.setErr PySem.F.store_ValueError ec.own at_ (ec.pass _) (finds_K I2.kIn ec.sa) (finds_K I2.kIn nf) hx rfl rfl (fun c z => nomatch z) fun h' tk' z1 z2 z3 => ?_
 have lt := Heap.lt_size hx
 have hn : H2 hh.objs.size = none := I2.hok.fresh (Nat.le_refl _)
 have J := I2.write (h' := h') (x := e) (e := e) (o := errO e C (some hh.objs.size)) (t' := tk') (by rw [hH]; exact True.intro) (.inl rfl) z3 ⟨_, z1⟩ (errO_ok z1)
 have ne : hh.objs.size ≠ e := Nat.ne_of_gt lt
 have hn' : upd H2 e (errO e C (some hh.objs.size)) hh.objs.size = none := by rw [upd_ne ne]; exact hn
 have J2 := J.take (D := hh.objs.size) (o := .xd [(fld, y)]) (I2.fpOk (Nat.le_refl _) hn') I2.sz ⟨_, z2, fun n => ?_⟩
 ·exact ⟨σ, _, J2, q2 _ hn ne⟩
 ·show RelO (List.lookup n [(fld, y)]) _
  rw [List.lookup_cons]
  by_cases c : n = fld
  ·subst c
   simp only [beq_self_eq_true, if_true]
   exact ry
  ·have : (n == fld) = false := by simpa using c
   rw [this, if_neg c]
   exact True.intro
def del (H : Hp) (e : Addr) : Hp := fun b => if b = e then none else H b
theorem del_same {H : Hp} {e : Addr} : del H e e = none := if_pos rfl
theorem del_ne {H : Hp} {e b : Addr} (n : b ≠ e) : del H e b = H b := if_neg n
theorem del_upd {H : Hp} {e : Addr} {o : HO} : del (upd H e o) e = del H e := funext fun b => by
 by_cases c : b = e
 ·subst c; rw [del_same, del_same]
 ·rw [del_ne c, del_ne c, upd_ne c]
theorem del_updN {H : Hp} {e a : Addr} {o : HO} (n : a ≠ e) : del (upd H a o) e = upd (del H e) a o := funext fun b => by
 by_cases c : b = e
 ·subst c; rw [del_same, upd_ne n.symm, del_same]
 ·rw [del_ne c]
  by_cases d : b = a
  ·subst d; rw [upd_same, upd_same]
  ·rw [upd_ne d, upd_ne d, del_ne c]
theorem del_none {H : Hp} {e : Addr} (h : H e = none) : del H e = H := funext fun b => by
 by_cases c : b = e
 ·subst c; rw [del_same, h]
 ·rw [del_ne c]
theorem Inv.drop {e C : Addr} {dx : Option Addr} (I : Inv X pins σ H s) (he : H e = some (errO e C dx)) : Inv X pins σ (del H e) s := by
 have nt : ∀ b u, H b = some u -> (∀ φ, u ≠ .ext φ) -> del H e b = some u := fun b u q n => by
  rw [del_ne]
  ·exact q
  ·rintro rfl
   rw [he] at q; cases q
   exact n _ rfl
 have nn : ∀ b, H b = none -> del H e b = none := fun b q => by
  by_cases c : b = e
  ·subst c; exact del_same
  ·rw [del_ne c]; exact q
 refine ⟨I.ok, I.os, I.bare, ⟨I.base.keep, I.base.slot, fun b o q n hx => nn b (I.base.free b o q n hx), I.base.there, fun b xs q => nt b _ (I.base.tups b xs q) (fun _ z => nomatch z), fun b o u q => nt b _ (I.base.frzs b o u q) (fun _ z => nomatch z), fun b ps q => ?_⟩, I.loc, I.cell, nn _ I.free, fun x c q => nn c (I.freeC x c q), fun p hp => ?_, fun b u q => ?_, I.len⟩
 ·obtain ⟨m, z⟩ := I.base.tbls b ps q
  exact ⟨m, nt b _ z (fun _ y => nomatch y)⟩
 ·obtain ⟨z1, z2, z3⟩ := I.pin p hp
  exact ⟨z1, nn _ z2, z3⟩
 ·have c : b ≠ e := by rintro rfl; rw [del_same] at q; cases q
  rw [del_ne c] at q
  exact (I.hok b u q).stay (fun _ _ _ z => z) (fun a z => nt a _ z (fun _ y => nomatch y)) fun a xs z => nt a _ z (fun _ y => nomatch y)
theorem run_err {CX : CXT} {E : XK} {k : Nat} {C f : Addr} {bm : List Value} {fd : FuncData} {ps : List Str} {sp : Sp} {Q : Value -> Shared -> Prop} {us : List Value} {vs : List V} (M : ErrC X.K C f bm) (F : FnOk X.prog X.w X.K X.mg X.base CX k f fd ps sp) (hr : Room (k + 1) X.A) (hb : Binds X.K fd ps [])
  (hx : Passes CX X E) (I : Inv X pins σ H s) (r : Vals vs us) (few : us.length <= sizeLine)
  (h : ∀ e, s.heap.objs.size <= e -> H e = none -> sp (.ref e :: vs) (upd H e (errO e C none)) (fun v H2 => v = .non /\ ∀ s', Inv X pins σ H2 s' -> Q (.ref e) s') E) :
  wpAny (model X.prog X.w) X.A (call (.ref C) us) Q X.xe s := by
 obtain ⟨nm, q0, N, bs, sn, sub, ab, col, dd, k0, k1, k2, k3, k5, lk⟩ := M.obj
 have at_ := I.kIn _ _ lk
 obtain ⟨of, hf, hc⟩ := isFn_at I.kIn M.fn
 obtain ⟨hh, g, d, t, os⟩ := s
 have hq := h (hh.objs.size + 1) (Nat.le_succ _) (I.hok.fresh (Nat.le_succ _))
 have kl : PySem.W.Frag.In X.K (L2E.laid hh C us) := I.kIn.keeps fun _ _ z => L2E.laid_old z
 have I2 : Inv X pins σ (upd H (hh.objs.size + 1) (errO (hh.objs.size + 1) C none)) ⟨L2E.laid hh C us, g, d, t, os⟩ := I.laid (h' := L2E.laid hh C us) (a := hh.objs.size + 1) (o := errO (hh.objs.size + 1) C none) (t' := t) (fun _ _ z => L2E.laid_old z) (Nat.le_succ _) (errO_ok L2E.laid_new)
 have r2 : Vals (V.ref (hh.objs.size + 1) :: vs) (Value.ref (hh.objs.size + 1) :: us) := .cons rfl r
 have hl : (Value.ref (hh.objs.size + 1) :: us ++ []).length = ps.length := by
  rw [List.append_nil, <- r2.length]
  exact F.len _ _ _ _ hq
 refine L2E.callErr PySem.F.excBase_ValueError M.tail at_ (finds_K kl M.init) hf hc few ?_
 refine wpAny_call (codeAny_mono (F.run _ X.stack _ _ ⟨Value.ref (hh.objs.size + 1) :: us, []⟩ (Value.ref (hh.objs.size + 1) :: us) _ _ E (hr.make C us []) (I2.env0.make C us []) (by have := hb _ (Value.ref (hh.objs.size + 1) :: us) I2.kIn hl; rw [List.append_nil] at this; exact this) r2 hq) fun r s' hq' => ?_)
 cases r with
 | error e => exact hx pins σ _ _ e s' I2 hq'
 | ok fl =>
  cases fl with
  | ret u =>
   obtain ⟨v, H', I3, rv, ev, q3⟩ := I2.after hq'
   subst ev
   exact ⟨rv, q3 _ I3⟩
  | next => exact False.elim hq'
  | brk => exact False.elim hq'
  | cont => exact False.elim hq'
def Throws (X : Cx) (E : XK) : Prop := ∀ (pins : List (Addr × Obj)) (σ : St) (H : Hp) (s : Shared) (e C dx : Addr) (vs : Array Value), Inv X pins σ H s -> s.heap.get? e = some { cls := .ref C, dict := some dx, data := .fields vs } -> vs[1]? = some .none -> Own X pins H s.heap e -> E (.ref C) (some dx) H -> X.xe (.ref e) s
end
theorem throwE {P : Program} {w : World} {K : PySem.W.Frag} {mg : Str -> Option Value} {base : Heap} {N : List Str} {qual : Str} {scope : Scope} {f : Addr} {cd : Value} {A : Around} {outer : List Env} {s0 : Shared} {H0 : Hp} {E : XK} :
  Throws (cxOf (CXE P w) P w K mg base N qual scope f cd A outer s0 H0 E) E := by
 intro pins σ H s e C dx vs I hx h1 ow hE
 have le := Heap.lt_size hx
 show wpAny _ _ (leaving _ (.ref e)) _ _ _
 refine L2E.leaveOff (base := base) I.ok.frames I.stack rfl hx rfl (.inl h1) fun h' T' O => ?_
 have J := I.off (h' := h') rfl rfl O ow fun T2 hT2' => by rw [h1] at hT2'; cases hT2'
 have hv1 : 1 < vs.size := (Array.getElem?_eq_some_iff.mp h1).1
 exact ⟨e, C, dx, T', H, rfl, J.os, J.bare, J.base, J.hok, ⟨⟨_, #[], O.err, by simp [hv1]⟩, Nat.ne_of_gt (Nat.lt_of_lt_of_le le O.fresh), O.tb⟩, ow.new, Nat.le_trans I.sz O.fresh, ow.free, I.hok.fresh O.fresh, hE⟩
end L2
set_option Elab.async false
set_option linter.all false
set_option maxRecDepth 100000
namespace L2
open PySem PySem.Spec PyProof.Rows
def spMeet (K : PySem.W.Frag) : Sp := fun vs H Q _ => ∃ e C u f bm, vs = [.ref e, u] /\ ErrC K C f bm /\ H e = some (errO e C none) /\ Q .non H
def spErr1 (C : Addr) (fld : Str) : Sp := fun vs H Q _ => ∃ e v, vs = [.ref e, v] /\ H e = some (errO e C none) /\ ∀ dx, H dx = none -> dx ≠ e -> Q .non (upd (upd H e (errO e C (some dx))) dx (.xd [(fld, v)]))
section
variable {X : Cx} {a : Expr} {t : TA} {E : XK} {k : Nat} {C f : Addr} {bm : List Value} {fd : FuncData} {ps : List Str} {x fld : Str} {p cpos pos : Pos}
def tRaise (C : Addr) (fld : Str) (E : XK) (t : TA) : TS := fun _ σ H => t σ H fun vs H1 => ∃ v, vs = [v] /\ ∀ dx, H1 dx = none -> E (.ref C) (some dx) (upd H1 dx (.xd [(fld, v)]))
theorem ps_raise1 (hc : X.calm = true) (M : ErrC X.K C f bm) (F : FnOk X.prog X.w X.K X.mg X.base CX0 k f fd ps (spErr1 C fld)) (hr : Room (k + 1) X.A) (hb : Binds X.K fd ps []) (hg : Gl X x) (hm : X.mg x = some (.ref C)) (ht : Throws X E) (ha : PA X [a] t)
  (hdb : (x == ("__debug__" : Str)) = false := by decide) (he : starEach [a] X.env = (false, eval a X.env) :: starEach [] X.env := by rfl) (hpl : (backTo cpos (starEach [] X.env)).any (·.1) = false := by rfl) :
  PS X (.Raise (some (.Call (.Name x p) [a] [] cpos)) none pos) (tRaise C fld E t) := by
 intro pins s σ H D I h
 obtain ⟨nm, q0, N, bs, sn, sub, ab, col, dd, k0, k1, k2, k3, k5, lk⟩ := M.obj
 have go : wpAny (model X.prog X.w) X.A (eval (.Call (.Name x p) [a] [] cpos) X.env) (fun v s1 => ∃ e dx ta sl, v = .ref e /\ s1.heap.get? C = some (excClassObj nm q0 C N bs bm true sn sub ab col dd k0 k1 k2 k3 k5 "ValueError.__new__") /\ s1.heap.get? e = some { cls := .ref C, dict := dx, data := .fields #[.ref ta, .none, .none, .none, .bool false, .none], slots := sl } /\ X.xe (.ref e) s1) X.xe s := by
  refine wpAny_Call_Name_kw (ld_glob I hg hm ?_ hdb)
  refine PySem.W.callWith_K (h₀ := X.base) I.ok.mod.kin M.kp (thn (ha cpos pins s σ H _ I h) fun us s1 ⟨vs, H1, I1, r, q⟩ => ⟨I1.kIn, ?_⟩) he hpl
  obtain ⟨v, rfl, q⟩ := q
  obtain ⟨u, rfl, ru⟩ := vals1 r
  refine run_err M F hr hb pass0 I1 r (by show 1 <= sizeLine; decide) fun e le hn => ⟨e, v, rfl, upd_same, fun dx hdx ne => ⟨rfl, fun s' I' => ?_⟩⟩
  rw [upd_ne ne] at hdx
  have hE := q dx hdx
  have heq : (upd (upd (upd H1 e (errO e C none)) e (errO e C (some dx))) dx (.xd [(fld, v)])) e = some (errO e C (some dx)) := by rw [upd_ne ne.symm, upd_same]
  obtain ⟨t0, hx⟩ := errO_at I'.hok heq
  have I'' := I'.drop heq
  rw [del_updN ne, del_upd, del_upd, del_none hn] at I''
  refine ⟨e, some dx, t0, #[], rfl, I'.kIn _ _ lk, hx, ht pins σ _ s' e C dx _ I'' hx rfl ⟨Nat.le_trans I1.sz le, by rw [upd_ne ne.symm]; exact hn, ⟨_, _, hx, rfl⟩, fun p hp z => ?_⟩ hE⟩
  have := Heap.lt_size (I1.pin p hp).1
  rw [z] at this
  exact absurd (Nat.lt_of_lt_of_le this le) (Nat.lt_irrefl _)
 rw [arm_exec_Raise]
 first
  | exact wpAny_bind (wpAny_standAt (L2E.raiseErr M.base (I.ok.hd hc) (wpAny_bind (wpAny_mono go (fun v s₁ h₁ => wpAny_bind (wpAny_standAt (wpAny_pure h₁))) fun _ _ x => x))))
  | (simp only [evalOpt, Option.map]; exact wpAny_bind (wpAny_standAt (L2E.raiseErr M.base (I.ok.hd hc) (wpAny_bind (wpAny_mono go (fun v s₁ h₁ => wpAny_bind (wpAny_standAt (wpAny_pure h₁))) fun _ _ x => x)))))
  | (show wpAny _ _ (do standAt pos; raiseStmt X.env (some (do let v <- eval (.Call (.Name x p) [a] [] cpos) X.env; standAt pos; pure v)) none) _ _ s; exact wpAny_bind (wpAny_standAt (L2E.raiseErr M.base (I.ok.hd hc) (wpAny_bind (wpAny_mono go (fun v s₁ h₁ => wpAny_bind (wpAny_standAt (wpAny_pure h₁))) fun _ _ x => x)))))
end
theorem Fun.okE {P : Program} {w : World} {K : PySem.W.Frag} {mg : Str -> Option Value} {base : Heap} {x qual : Str} {st : Stmt} {f : Addr} {fd : FuncData} {N ps : List Str} {k : Nat} {sp : Sp} (F : Fun K x qual st f fd) (S : FnScope N ps (defScope st)) (len : ∀ vs H Q E, sp vs H Q E -> vs.length = ps.length)
  (hbody : ∀ (cdv : Value) (A : Around) (outer : List Env) (s : Shared) (H : Hp) (vs : List V) (Q : VK) (E : XK), Room k (A.deeper (envOfC qual (defScope st) s.heap.objs.size f cdv)) -> sp vs H Q E ->
   ∃ t, PSs (cxOf (CXE P w) P w K mg base N qual (defScope st) f cdv A outer s H E) (defBody st) t /\ t { nx := fun _ H' => Q .non H', rt := Q } (start N vs) H) : FnOk P w K mg base (CXE P w) (k + 1) f fd ps sp := by
 obtain ⟨oc, od, kV, doc, pm, an, cdv, ct, osl, rfl, lk, hcd⟩ := F.ex
 exact fn_of lk hcd S len fun A outer s H vs Q E hr hsp => hbody cdv A outer s H vs Q E hr hsp
end L2
set_option Elab.async false
set_option linter.all false
set_option maxRecDepth 100000
namespace L2
open PySem PySem.Spec PyProof.Rows
abbrev Cx.pinned (X : Cx) (pn : List (Addr × Obj)) : Cx := { X with pn := pn }
abbrev Cx.suite (X : Cx) (e : Value) : Cx := { X with A := X.A.mark (some e), calm := false, xe := fun _ _ => False }
section
variable {X : Cx} {pins : List (Addr × Obj)} {σ : St} {H : Hp} {s : Shared} {E : XK} {xe : Value -> Shared -> Prop} {ev : Value}
theorem Inv.pinT (I : Inv X pins σ H s) : Inv (X.pinned (X.pn ++ pins)) [] σ H s :=
 ⟨⟨I.ok.mod, I.ok.kind, I.ok.glob, I.ok.blt, I.ok.above, I.ok.inj, I.ok.has, I.ok.cab, I.ok.hd, I.ok.frames, I.ok.stk, I.ok.exf, I.ok.bs, I.ok.bsz, I.ok.noex, I.ok.exfs, I.ok.funs, I.ok.frf⟩, I.os, I.bare, I.base, I.loc, I.cell, I.free, I.freeC, fun p hp => I.pin p (by simpa using hp), I.hok, I.len⟩
theorem Inv.unpinT {ps : List (Addr × Obj)} (I : Inv (X.pinned (X.pn ++ pins)) ps σ H s) : Inv X pins σ H s :=
 ⟨⟨I.ok.mod, I.ok.kind, I.ok.glob, I.ok.blt, I.ok.above, I.ok.inj, I.ok.has, I.ok.cab, I.ok.hd, I.ok.frames, I.ok.stk, I.ok.exf, I.ok.bs, I.ok.bsz, I.ok.noex, I.ok.exfs, I.ok.funs, I.ok.frf⟩, I.os, I.bare, I.base, I.loc, I.cell, I.free, I.freeC, fun p hp => I.pin p (List.mem_append_left _ hp), I.hok, I.len⟩
theorem Inv.suite (I : Inv X pins σ H s) (e : Value) : Inv (X.suite e) pins σ H s :=
 ⟨⟨I.ok.mod, I.ok.kind, I.ok.glob, I.ok.blt, I.ok.above, I.ok.inj, I.ok.has, I.ok.cab, (fun z => absurd z (by simp)), I.ok.frames, I.ok.stk, I.ok.exf, I.ok.bs, I.ok.bsz, I.ok.noex, I.ok.exfs, I.ok.funs, I.ok.frf⟩, I.os, I.bare, I.base, I.loc, I.cell, I.free, I.freeC, I.pin, I.hok, I.len⟩
theorem Inv.unsuite (ok : X.Ok) (I : Inv (X.suite ev) pins σ H s) : Inv X pins σ H s := ⟨ok, I.os, I.bare, I.base, I.loc, I.cell, I.free, I.freeC, I.pin, I.hok, I.len⟩
theorem SP.unpinned {D : Ends} {f : Flow} (h : SP ((X.pinned (X.pn ++ pins)).wish xe) [] D f s) : SP X pins D f s := by
 cases f with
 | next => obtain ⟨σ', H', I, q⟩ := h; exact ⟨σ', H', I.unwish.unpinT, q⟩
 | brk => obtain ⟨σ', H', I, q⟩ := h; exact ⟨σ', H', I.unwish.unpinT, q⟩
 | cont => obtain ⟨σ', H', I, q⟩ := h; exact ⟨σ', H', I.unwish.unpinT, q⟩
 | ret u => obtain ⟨v, σ', H', I, r, q⟩ := h; exact ⟨v, σ', H', I.unwish.unpinT, r, q⟩
end
def XE (X : Cx) (E : XK) : Value -> Shared -> Prop := fun ev s' => ∃ (e C dx : Addr) (vs : Array Value) (sl : Array (Option Value)) (σ' : St) (H' : Hp), ev = .ref e /\ Inv X [] σ' H' s' /\ s'.heap.get? e = some { cls := .ref C, dict := some dx, data := .fields vs, slots := sl } /\ Own X [] H' s'.heap e /\
 (vs[1]? = some .none \/ ∃ T oT ts, vs[1]? = some (.ref T) /\ T ≠ e /\ s'.heap.get? T = some oT /\ oT.data = .fields ts /\ ts[3]? = some .none /\ Own X [] H' s'.heap T) /\ E (.ref C) (some dx) H'
theorem Inv.nopins {X : Cx} {pins : List (Addr × Obj)} {σ : St} {H : Hp} {s : Shared} (I : Inv X pins σ H s) : Inv X [] σ H s := I.pins_of fun p hp => nomatch hp
theorem passT {Y : Cx} {E : XK} : Passes (CXE Y.prog Y.w) (Y.wish (XE Y E)) E := by
 intro pins σ H s ev s' I hc
 obtain ⟨e, C, dx, T, H', rfl, os, bare, un, hok, fly, e1, t1, he, hT, hE⟩ := hc
 obtain ⟨hh, g, d, t, os'⟩ := s'
 obtain rfl : os' = s.os := os
 have I' := I.call (h' := hh) (g' := g) (d' := d) (t' := t) (ch := []) un hok bare (fun b z => absurd z (by simp))
 obtain ⟨vs, sl, hx, h1⟩ := fly.ex
 obtain ⟨oT, ts, hT1, hT2, hT3⟩ := fly.tb
 have pl : ∀ b, s.heap.objs.size <= b -> ∀ p ∈ (Y.wish (XE Y E)).pn ++ pins, p.1 ≠ b := fun b hb p hp z => by
  have := Heap.lt_size (I.pin p hp).1
  rw [z] at this
  exact absurd (Nat.lt_of_lt_of_le this hb) (Nat.lt_irrefl _)
 have own : ∀ b, s.heap.objs.size <= b -> H' b = none -> (∃ o vs, hh.get? b = some o /\ o.data = .fields vs) -> Own Y [] H' hh b := fun b hb hn hr => ⟨Nat.le_trans I.sz hb, hn, hr, fun p hp => pl b hb p (List.mem_append_left _ (by simpa using hp))⟩
 exact ⟨e, C, dx, vs, sl, σ, H', rfl, I'.unwish.nopins, hx, own e e1 he ⟨_, vs, hx, rfl⟩, .inr ⟨T, oT, ts, h1, fly.ne, hT1, hT2, hT3, own T t1 hT ⟨oT, ts, hT1, hT2⟩⟩, hE⟩
def PH (X : Cx) (hs : List ExceptHandler) (t : Addr -> Addr -> TS) : Prop := ∀ (pins : List (Addr × Obj)) (s : Shared) (σ : St) (H : Hp) (D : Ends) (e C dx T : Addr), Inv X pins σ H s -> Fly s.heap e C dx T -> Own X pins H s.heap e -> Own X pins H s.heap T -> t C dx D σ H ->
 wpAny (model X.prog X.w) X.A (handleBy (.ref e) X.env hs) (SP X pins D) X.xe s
def tTry (tb : XK -> TS) (th : Addr -> Addr -> TS) : TS := fun D σ H => ∃ E : XK, tb E D σ H /\ ∀ C dx σ' H', E (.ref C) (some dx) H' -> σ'.length = σ.length -> th C dx D σ' H'
theorem ps_try {X : Cx} {body : List Stmt} {h₀ : ExceptHandler} {hs : List ExceptHandler} {pos : Pos} {tb : XK -> TS} {th : Addr -> Addr -> TS} (hst : X.stack = X.env :: X.outer) (hfr : X.env.frame = some X.env.locals)
  (hb : ∀ (pn : List (Addr × Obj)) (E : XK), PSs ((X.pinned pn).wish (XE (X.pinned pn) E)) body (tb E)) (hh : PH X (h₀ :: hs) th) : PS X (.Try body (h₀ :: hs) [] [] pos) (tTry tb th) := by
 intro pins s σ H D I ⟨E, ht, hx⟩
 refine wpAny_Try_except (wpAny_mono (hb (X.pn ++ pins) E [] s σ H D (I.pinT.wish _) ht) (fun f s1 hs => ?_) (fun ev s1 hx1 => ?_))
 ·have q := SP.unpinned hs
  cases f with
  | next => exact wpAny_execs_nil q
  | brk => exact q
  | cont => exact q
  | ret u => exact q
 ·obtain ⟨e, C, dx, vs, sl, σ', H', rfl, I', hx', oe, fl, hE⟩ := hx1
  have le := Heap.lt_size hx'
  refine L2E.noteOff (base := X.base) (env := X.env) (outer := X.outer) (L := X.env.locals) (by rw [<- hst]; exact I'.ok.frames) (by rw [<- hst]; exact I'.stack) hfr hx' rfl (fl.elim .inl fun ⟨T, oT, ts, a1, a2, a3, a4, a5, _⟩ => .inr ⟨T, oT, ts, a1, a2, a3, a4, a5⟩) fun h' T' O => ?_
  rw [<- hst] at O
  have J := I'.off (h' := h') hst hfr O oe fun T hT => by
   rcases fl with fl | ⟨T2, oT, ts, a1, a2, a3, a4, a5, a6⟩
   ·rw [fl] at hT; cases hT
   ·rw [a1] at hT; cases hT; exact a6
  have hv1 : 1 < vs.size := by
   rcases fl with fl | ⟨T2, oT, ts, a1, _⟩
   ·exact (Array.getElem?_eq_some_iff.mp fl).1
   ·exact (Array.getElem?_eq_some_iff.mp a1).1
  have fly : Fly h' e C dx T' := ⟨⟨_, sl, O.err, by simp [hv1]⟩, Nat.ne_of_gt (Nat.lt_of_lt_of_le le O.fresh), O.tb⟩
  have oe2 : Own X pins H' h' e := ⟨oe.new, oe.free, ⟨_, _, O.err, rfl⟩, fun p hp => oe.pin p (by simpa using hp)⟩
  obtain ⟨oT, ts, t1, t2, t3⟩ := O.tb
  have oT2 : Own X pins H' h' T' := ⟨Nat.le_trans I'.sz O.fresh, I'.hok.fresh O.fresh, ⟨oT, ts, t1, t2⟩, fun p hp z => by
   have := Heap.lt_size (I'.pin p (by simpa using hp)).1
   rw [z] at this
   exact absurd (Nat.lt_of_lt_of_le this O.fresh) (Nat.lt_irrefl _)⟩
  exact hh pins _ σ' H' D e C dx T' J.unpinT fly oe2 oT2 (hx C dx σ' H' hE (I'.len.trans I.len.symm))
end L2
set_option Elab.async false
set_option linter.all false
set_option maxRecDepth 100000
namespace L2
open PySem PySem.Spec PyProof.Rows
def errH (e C dx : Addr) : HO := .ext fun h => ∃ vs sl, h.get? e = some { cls := .ref C, dict := some dx, data := .fields vs, slots := sl }
theorem errH_ok {P : Program} {w : World} {H : Hp} {h : Heap} {e C dx : Addr} {vs : Array Value} {sl : Array (Option Value)} (he : h.get? e = some { cls := .ref C, dict := some dx, data := .fields vs, slots := sl }) : ObjOk P w H h e (errH e C dx) :=
 ⟨⟨vs, sl, he⟩, ⟨_, he⟩, fun _ _ ⟨v, s, q⟩ k => ⟨v, s, k _ q⟩⟩
section
variable {X : Cx} {pins : List (Addr × Obj)} {σ : St} {H : Hp} {s : Shared}
theorem Own.fp {b : Addr} (I : Inv X pins σ H s) (o : Own X pins H s.heap b) : FpOk X pins H b := by
 obtain ⟨ob, vs, h1, h2⟩ := o.recd
 refine ⟨o.free, ?_, ?_, .inr o.new, ?_, o.pin⟩
 ·rintro rfl
  obtain ⟨m, ⟨o', es, ep, ho, hd, _⟩, _⟩ := I.loc
  rw [h1] at ho; cases ho; rw [h2] at hd; cases hd
 ·intro hb
  obtain ⟨_, o', ho, hd⟩ := I.funs.mem hb
  rw [h1] at ho; cases ho; exact hd vs h2
 ·rintro x c hc rfl
  obtain ⟨v, o', ho, hd⟩ := I.cell x c hc
  rw [h1] at ho; cases ho; rw [h2] at hd; cases hd
theorem Inv.goes {i : Nat} {n : Str} {m : Str -> Option Value} {v : Option Value} {h' : Heap} {t' : Nat} (I : Inv X pins σ H s) (hN : X.N.Nodup) (hi : X.N[i]? = some n) (hm : s.heap.Ns X.env.locals m)
  (hl : ∀ (i : Nat) (x : Str) (v : V), X.N[i]? = some x -> σ[i]? = some (some v) -> Vis X.env.scope x -> ∃ u, RelV v u /\ Look X.env s.heap m x u)
  (hn : h'.Ns X.env.locals (fun x => if x = n then v else m x)) (hs : Heap.SameBut X.env.locals s.heap h') : Inv X pins (σ.set i none) H { s with heap := h', toks := t' } := by
 have hiσ : i < σ.length := by rw [I.len]; exact (List.getElem?_eq_some_iff.mp hi).1
 have cne := I.cne
 have neL : ∀ b o, X.s₀.heap.get? b = some o -> b ≠ X.env.locals := fun b o e => Nat.ne_of_lt (Nat.lt_of_lt_of_le (Heap.lt_size e) I.ok.above)
 refine ⟨I.ok, I.os, I.bare, ⟨fun b o e n hb hx => ?_, fun b o e n hb hx => ?_, I.base.free, fun b o e hx => ?_, I.base.tups, I.base.frzs, I.base.tbls⟩, ⟨_, hn, fun j y v' e1 e2 e3 => ?_⟩, fun y c e => ?_, I.free, I.freeC, fun p hp => ?_, fun b ob e => ?_, by simpa using I.len⟩
 ·exact (hs.2 b (neL b o e)).trans (I.base.keep b o e n hb hx)
 ·obtain ⟨sl, e1⟩ := I.base.slot b o e n hb hx
  exact ⟨sl, (hs.2 b (neL b o e)).trans e1⟩
 ·obtain ⟨o', e1⟩ := I.base.there b o e hx
  exact ⟨o', (hs.2 b (neL b o e)).trans e1⟩
 ·by_cases hj : j = i
  ·subst hj
   rw [List.getElem?_set_self hiσ] at e2
   cases e2
  ·rw [List.getElem?_set_ne (Ne.symm hj)] at e2
   obtain ⟨u', r', q⟩ := hl j y v' e1 e2 e3
   refine ⟨u', r', ?_⟩
   rcases q with ⟨k, e⟩ | ⟨k, c, e, z⟩
   ·refine .inl ⟨k, ?_⟩
    have : y ≠ n := fun e => hj (nodup_ix hN e1 (e ▸ hi))
    simp [this, e]
   ·exact .inr ⟨k, c, e, z.sameBut hs (cne y c e)⟩
 ·obtain ⟨w', z⟩ := I.cell y c e
  exact ⟨w', z.sameBut hs (cne y c e)⟩
 ·obtain ⟨e, n, ne, nf, d⟩ := I.pin p hp
  exact ⟨(hs.2 p.1 ne).trans e, n, ne, nf, d⟩
 ·refine (I.hok b ob e).stay (fun c w' hc q => (hs.2 c ?_).trans q) (fun _ q => q) fun _ _ q => q
  rintro rfl
  rcases hc with rfl | hc
  ·rw [I.free] at e; cases e
  ·rw [I.free] at hc; cases hc
theorem nameGoes {i : Nat} {n : Str} {pos : Pos} {Q : Unit -> Shared -> Prop} {E : Value -> Shared -> Prop} {A : Around} (I : Inv X pins σ H s) (hN : X.N.Nodup) (hi : X.N[i]? = some n) (hx : X.env.scope.names.lookup n = some .local)
  (h : ∀ s', Inv X pins (σ.set i none) H s' -> Q () s') : wpAny (model X.prog X.w) A (do bindName X.env n .none; unbindBehindTheSuite X.env n pos) Q E s := by
 have hk : X.env.kindOf n = some .local := hx
 have hp : (X.env.scope.kind == .class || (X.env.scope.kind == .module && X.env.locals != X.env.globals)) = false := by rw [I.ok.kind]; rfl
 refine wpAny_bind (wpAny_bindName (store_ok (v := .non) I hN hi (.inl hx) rfl (fun s1 I1 => ?_) (.inr hx)))
 obtain ⟨m, hm, hl⟩ := I1.loc
 have hiσ : i < σ.length := by rw [I.len]; exact (List.getElem?_eq_some_iff.mp hi).1
 have hsome : (m n).isSome = true := by
  obtain ⟨u, r, q⟩ := hl i n .non hi (by rw [List.getElem?_set_self hiσ]) (.inl hx)
  rcases q with ⟨_, e⟩ | ⟨k, _⟩
  ·rw [e]; rfl
  ·rw [hk] at k; rcases k with k | k <;> cases k
 unfold unbindBehindTheSuite
 refine wpAny_onRaise ?_
 unfold unbindName
 refine wpAny_bind (wpAny_point (wpAny_bind ?_))
 unfold deleteName
 simp only [hk, hp]
 rw [if_neg (by decide)]
 refine wpAny_bind (wpAny_nsDel_keeps hm fun h₂ v hn₂ hs₂ => ?_)
 rw [hsome]
 simp only [if_true, Bool.not_true, Bool.false_eq_true, if_false]
 refine wpAny_pure (wpAny_point (h _ ?_))
 have J := I1.goes (t' := s1.toks) hN hi hm hl hn₂ hs₂
 rw [List.set_set] at J
 exact J
end
end L2
set_option Elab.async false
set_option linter.all false
set_option maxRecDepth 100000
namespace L2
open PySem PySem.Spec PyProof.Rows
section
variable {X : Cx} {i : Nat} {n k fld : Str} {kp hp pos ap : Pos} {b₀ : Stmt} {suite : List Stmt} {rest : List ExceptHandler} {Ck : Addr} {ts : TS} {tr : Addr -> Addr -> TS}
def hAs (K : PySem.W.Frag) (Ck : Addr) (i : Nat) (ts : TS) (tr : Addr -> Addr -> TS) : Addr -> Addr -> TS := fun C dx D σ H => ∃ b, PySem.W.exmOne K (.ref C) (.ref Ck) = some b /\
 if b = true then (∀ e, H e = none -> ts { nx := fun σ2 H2 => D.nx (σ2.set i none) H2, rt := D.rt, bk := fun σ2 H2 => D.bk (σ2.set i none) H2, ct := fun σ2 H2 => D.ct (σ2.set i none) H2 } (σ.set i (some (.ref e))) (upd H e (errH e C dx))) else tr C dx D σ H
theorem ph_as (hN : X.N.Nodup) (hi : X.N[i]? = some n) (hx : X.env.scope.names.lookup n = some .local) (hg : Gl X k) (hm : X.mg k = some (.ref Ck)) (hs : ∀ e, PSs (X.suite (.ref e)) (b₀ :: suite) ts) (hr : PH X rest tr) (hdb : (k == ("__debug__" : Str)) = false := by decide) :
  PH X (.ExceptHandler (some (.Name k kp)) (some n) (b₀ :: suite) hp :: rest) (hAs X.K Ck i ts tr) := by
 intro pins s σ H D e C dx T I fly oe oT ⟨b, hb, h⟩
 obtain ⟨vs, sl, hx', h1⟩ := fly.ex
 have LT : PySem.W.Looks (model X.prog X.w) s.heap (typeOf (.ref e)) (.ref C) := (PySem.W.Looks.ld hx').andThen .now
 refine wpAny_handleBy_cons (codeAny_handlers_test (ld_glob (X := X.suite (.ref e)) (I.suite (.ref e)) hg hm ?_ hdb)) (by intro q; cases q)
 refine (PySem.W.exm_one I.kIn LT hb).here ?_
 cases b with
 | false => exact hr pins s σ H D e C dx T I fly oe oT h
 | true =>
  obtain ⟨oT', tsv, t1, t2, t3⟩ := fly.tb
  refine codeAny_handlers_suite_as ?_
  have fT := oT.fp I
  refine wpAny_setFlight_none hx' rfl h1 t1 t2 (Array.getElem?_eq_some_iff.mp t3).1 ?_
  have I1 : Inv X pins σ H { s with heap := s.heap.update T (Obj.mapFields (·.setIfInBounds 3 .none)) } := I.turned (t' := s.toks) (it := T) (fun b o hb q => by rw [Heap.get?_update_other _ _ hb.symm]; exact q) oT.free fT.2.1 (.inr oT.new) fT.2.2.2.2.1 oT.pin
  have hx1 : (s.heap.update T (Obj.mapFields (·.setIfInBounds 3 .none))).get? e = some { cls := .ref C, dict := some dx, data := .fields vs, slots := sl } := by rw [Heap.get?_update_other _ _ fly.ne]; exact hx'
  have oe1 : Own X pins H (s.heap.update T (Obj.mapFields (·.setIfInBounds 3 .none))) e := ⟨oe.new, oe.free, ⟨_, _, hx1, rfl⟩, oe.pin⟩
  have I2 := I1.take (D := e) (o := errH e C dx) (oe1.fp I1) oe.new (errH_ok hx1)
  refine store_ok (v := .ref e) I2 hN hi (.inl hx) rfl (fun s3 I3 => ?_) (.inr hx)
  refine wpAny_mono (hs e pins s3 _ _ _ (I3.suite (.ref e)) (h e oe.free)) (fun f s4 h4 => ?_) fun x s4 z => False.elim z
  show wpAny _ _ _ _ _ _
  cases f with
  | next => obtain ⟨σ', H', I4, q⟩ := h4; exact nameGoes (I4.unsuite I.ok) hN hi hx fun s5 I5 => ⟨_, _, I5, q⟩
  | brk => obtain ⟨σ', H', I4, q⟩ := h4; exact nameGoes (I4.unsuite I.ok) hN hi hx fun s5 I5 => ⟨_, _, I5, q⟩
  | cont => obtain ⟨σ', H', I4, q⟩ := h4; exact nameGoes (I4.unsuite I.ok) hN hi hx fun s5 I5 => ⟨_, _, I5, q⟩
  | ret u => obtain ⟨v, σ', H', I4, r, q⟩ := h4; exact nameGoes (I4.unsuite I.ok) hN hi hx fun s5 I5 => ⟨v, _, _, I5, r, q⟩
theorem ph_nil : PH X [] (fun _ _ _ _ _ => False) := fun _ _ _ _ _ _ _ _ _ _ _ _ _ h => False.elim h
def tErrF (K : PySem.W.Frag) (ta : TE) (fld : Str) : TE := fun σ H Q => ta σ H fun x H1 => ∃ e C dx f bm fs v, x = .ref e /\ H1 e = some (errH e C dx) /\ ErrC K C f bm /\ PySem.W.findIn K (.ref C) fld = some none /\ H1 dx = some (.xd fs) /\ fs.lookup fld = some v /\ Q v H1
theorem pe_errF {e : Expr} {ta : TE} (he : PE X e ta) (hb : attributeBase e fld X.env (eval e X.env) = eval e X.env) : PE X (.Attribute e fld pos) (tErrF X.K ta fld) := by
 intro pins s σ H Q I h
 refine attr_of hb (thn (he pins s σ H _ I h) fun u s1 ⟨x, H1, I1, rx, a, C, dx, f, bm, fs, v, ex, ea, ec, nf, hd, l, q⟩ => ?_)
 subst ex
 obtain rfl : u = Value.ref a := rx
 obtain ⟨nm, q0, N, bs, sn, sub, ab, col, dd, k0, k1, k2, k3, k5, lk⟩ := ec.obj
 have at_ := I1.kIn _ _ lk
 obtain ⟨vs, sl, hx⟩ := (I1.hok a _ ea).1
 obtain ⟨mA, hn, hr⟩ := I1.hok dx _ hd
 have rv := hr fld
 rw [l] at rv
 cases hv : mA fld with
 | none => rw [hv] at rv; exact False.elim rv
 | some u' =>
  rw [hv] at rv
  obtain ⟨hh, g, d, t, os⟩ := s1
  exact L2E.getErr ec.base at_ (finds_K I1.kIn nf) (finds_K I1.kIn ec.ga) (finds_K I1.kIn ec.gh) hx rfl (fun c z => nomatch z) rfl hn.ns hv (PySem.W.handedOut_of (handed_of rv)) ⟨v, H1, I1.tok (t + 1), rv, q⟩
end
end L2
set_option Elab.async false
set_option linter.all false
set_option maxRecDepth 100000
namespace L2
open PySem PySem.Spec PyProof.Rows
section
variable {prog : Program} {w : World} {A : Around} {E : Value -> Shared -> Prop} {s : Shared}
end
end L2
set_option Elab.async false
set_option linter.all false
set_option maxRecDepth 100000
namespace L2
open PySem PySem.Spec PyProof.Rows
section
variable {X : Cx}
def rPart : V -> List V -> Hp -> VK -> Prop := fun x vs H Q => ∃ z y, x = .str z /\ vs = [.str y] /\ (y.length == 0) = false /\ z.length <= sizeLine /\ ∀ p, H p = none -> Q (.ref p) (upd H p (.tup [.str (Txt.partition z y).1, .str (Txt.partition z y).2.1, .str (Txt.partition z y).2.2]))
theorem mt_partition : MtR X "str.partition" rPart := by
 intro pins s σ H x vs v us Q I rx rv h
 obtain ⟨z, y, rfl, rfl, hy, hz, q⟩ := h
 obtain ⟨t, rfl⟩ := rx
 obtain ⟨u, rfl, ⟨t', rfl⟩⟩ := rv.one
 refine call_meets F.slot_str_partition (typeIs_str _ _ _) F.entry_str_partition (F.args_str_partition_2 _ _) (meets_str_partition z y t t' hy hz) ?_
 have fin : ∀ (a b c : Str) (ta tb tc k : Nat), (a, b, c) = Txt.partition z y -> EP X pins σ Q (.ref s.heap.objs.size) { s with toks := k, heap := s.heap.push { cls := .type "tuple", data := .seq [.str a ta, .str b tb, .str c tc].toArray } } := fun a b c ta tb tc k e => by
  rw [<- e] at q
  exact ⟨.ref _, upd H s.heap.objs.size (.tup [.str a, .str b, .str c]), I.laid (t' := k) (o := .tup [.str a, .str b, .str c]) (fun b u e => Heap.get?_push_of_some _ e) (Nat.le_refl _) ⟨by show 3 <= sizeLine; decide, [.str a ta, .str b tb, .str c tc], .cons ⟨_, rfl⟩ (.cons ⟨_, rfl⟩ (.cons ⟨_, rfl⟩ .nil)), ⟨_, Heap.get?_push_size _ rfl, rfl, _, rfl⟩⟩, rfl, q _ I.fresh⟩
 unfold Txt.partition at fin
 revert fin
 cases Builtin.Str.occurrences z y 0 z.length 1 with
 | nil => intro fin; exact fin _ _ _ _ _ _ _ rfl
 | cons i r => intro fin; exact fin _ _ _ _ _ _ _ rfl
def rSplitS : V -> List V -> Hp -> VK -> Prop := fun x vs H Q => ∃ z y, x = .str z /\ vs = [.str y] /\ (y.length == 0) = false /\ z.length <= 100000 /\ ∀ D, H D = none -> Q (.ref D) (upd H D (.lst ((Txt.split z y).map V.str)))
theorem mt_splitS : MtR X "str.split" rSplitS := by
 intro pins s σ H x vs v us Q I rx rv h
 obtain ⟨z, y, rfl, rfl, hy, hz, q⟩ := h
 obtain ⟨t, rfl⟩ := rx
 obtain ⟨u, rfl, ⟨t', rfl⟩⟩ := rv.one
 have sl : 1000000 <= sizeLine := by decide
 have hn : (Builtin.Str.partsBetween z (Builtin.Str.occurrences z y 0 z.length (z.length + 1)) y.length).length <= 100002 := by
  have e1 := StrLaws.occ_length_le z y 0 z.length (z.length + 1)
  rw [length_partsBetween]; omega
 have fin : ∀ (l : List (Str × Tok)) (k : Nat), l.map (·.1) = Txt.split z y -> l.length <= 100002 -> EP X pins σ Q (.ref s.heap.objs.size) { s with toks := k, heap := s.heap.push { cls := .type "list", data := .seq (strValues l).toArray } } := fun l k e hl => by
  have hv := vals_numbered l
  have e' : (l.map fun p => V.str p.1) = (Txt.split z y).map V.str := by rw [<- e, List.map_map]; rfl
  rw [e'] at hv
  have hl' : ((Txt.split z y).map V.str).length <= sizeLine := by rw [<- e', List.length_map]; omega
  exact ⟨.ref _, _, I.lnew (t' := k) hv hl', rfl, q _ I.fresh⟩
 cases h1 : (decide (z.length < y.length) || decide (Builtin.Str.strKind z < Builtin.Str.strKind y))
 ·cases hf : (Builtin.Str.occurrences z y 0 z.length (z.length + 1)).isEmpty
  ·refine call_meets F.slot_str_split (typeIs_str _ _ _) F.entry_str_split (F.args_str_split_2 _ _) (meets_str_split_sep z y t t' h1 hy hf (by omega) (by omega)) ?_
   rw [strsFrom_eq]
   exact fin (numbered s.toks _) _ ((numbered_texts _ _).trans ((if_neg (ne_true_of_eq_false h1)).trans (if_neg (ne_true_of_eq_false hf))).symm) (by
    have := congrArg List.length (numbered_texts s.toks (Builtin.Str.partsBetween z (Builtin.Str.occurrences z y 0 z.length (z.length + 1)) y.length))
    rw [List.length_map] at this
    omega)
  ·exact call_meets F.slot_str_split (typeIs_str _ _ _) F.entry_str_split (F.args_str_split_2 _ _) (meets_str_split_not_found z y t t' h1 hy hf) (fin [(z, t)] s.toks ((if_neg (ne_true_of_eq_false h1)).trans (if_pos hf)).symm (show 1 <= 100002 by decide))
 ·exact call_meets F.slot_str_split (typeIs_str _ _ _) F.entry_str_split (F.args_str_split_2 _ _) (meets_str_split_cannot_occur z y t t' h1) (fin [(z, t)] s.toks (if_pos h1).symm (show 1 <= 100002 by decide))
def tFmt (te : TE) : TE := fun σ H Q => te σ H fun x H1 => ∃ i, x = .int i /\ i.natAbs.log2 < 1920 /\ Q (.str (toString i)) H1
theorem pe_fmt {e : Expr} {te : TE} {pos : Pos} (he : PE X e te) : PE X (.FormattedValue e (-1) none pos) (tFmt te) := by
 intro pins s σ H Q I h
 refine FormattedValue_plain (thn (he pins s σ H _ I h) fun v s1 ⟨x, H1, I1, r1, q1⟩ => ?_)
 obtain ⟨i, rfl, hb, q⟩ := q1
 obtain ⟨t, rfl⟩ := r1
 exact formatField_int_small hb ⟨.str _, H1, I1.tok _, ⟨_, rfl⟩, q⟩
theorem pe_f1 {e : Expr} {te : TE} {pos : Pos} (he : PE X e te) : PE X (.JoinedStr [e] pos) te := fun pins s σ H Q I h => JoinedStr_one (he pins s σ H Q I h)
def tF3 (ta tb tc : TE) : TE := fun σ H Q => ta σ H fun x H1 => ∃ a, x = .str a /\ a.length <= sizeLine /\ tb σ H1 fun y H2 => ∃ b, y = .str b /\ a.length + b.length <= sizeLine /\ tc σ H2 fun z H3 => ∃ c, z = .str c /\ a.length + b.length + c.length <= sizeLine /\ Q (.str (a ++ b ++ c)) H3
theorem str_nil (a : Str) : Str.empty ++ a = a := by
 show (⟨#[] ++ a.cps⟩ : Str) = a
 rw [Array.empty_append]
theorem pe_f3 {a b c : Expr} {ta tb tc : TE} {pos : Pos} (ha : PE X a ta) (hb : PE X b tb) (hc : PE X c tc) : PE X (.JoinedStr [a, b, c] pos) (tF3 ta tb tc) := by
 intro pins s σ H Q I h
 refine JoinedStr_many (joinParts_cons (thn (ha pins s σ H _ I h) fun v s1 ⟨x, H1, I1, r1, q1⟩ => ?_))
 obtain ⟨a', rfl, z1, q1⟩ := q1
 obtain ⟨t, rfl⟩ := r1
 refine ⟨by rw [str_nil]; exact z1, ?_⟩
 rw [str_nil]
 refine joinParts_cons (thn (hb pins s1 σ H1 _ I1 q1) fun v s2 ⟨x, H2, I2, r2, q2⟩ => ?_)
 obtain ⟨b', rfl, z2, q2⟩ := q2
 obtain ⟨t2, rfl⟩ := r2
 refine ⟨by rw [strLen_append]; exact z2, ?_⟩
 refine joinParts_cons (thn (hc pins s2 σ H2 _ I2 q2) fun v s3 ⟨x, H3, I3, r3, q3⟩ => ?_)
 obtain ⟨c', rfl, z3, q3⟩ := q3
 obtain ⟨t3, rfl⟩ := r3
 have z : (a' ++ b' ++ c').length <= sizeLine := by rw [strLen_append, strLen_append]; exact z3
 exact ⟨z, joinParts_nil ⟨.str _, H3, I3.tok _, ⟨_, rfl⟩, q3⟩ z⟩
def tLstN (t : TA) : TE := fun σ H Q => t σ H fun xs H1 => xs.length <= sizeLine /\ ∀ a, H1 a = none -> a ≠ sysModules -> Q (.ref a) (upd H1 a (.lst xs))
theorem pe_lstN {es : List Expr} {t : TA} {pos : Pos} (h : PA X es t) : PE X (.List es pos) (tLstN t) := by
 intro pins s σ H Q I hq
 refine wpAny_List_spliced (thn (h pos pins s σ H _ I hq) fun us s1 ⟨xs, H1, I1, r, z, q⟩ => ⟨by rw [<- r.length]; exact z, ?_⟩)
 exact ⟨.ref s1.heap.objs.size, _, I1.lnew (t' := s1.toks) r z, rfl, q _ I1.fresh (Nat.ne_of_gt I1.big)⟩
end
end L2
set_option Elab.async false
set_option linter.all false
set_option maxRecDepth 100000
namespace L2
open PySem PySem.Spec PyProof.Rows
def keyW : Key -> PyData
 | .inl i => .int i
 | .inr x => .str x
mutual
inductive DW (K : PySem.W.Frag) (H : Hp) : V -> PyData -> Prop
 | non : DW K H .non .none
 | bl (b : Bool) : DW K H (.bl b) (.bool b)
 | int (i : Int) : DW K H (.int i) (.int i)
 | str (x : Str) : DW K H (.str x) (.str x)
 | lst {a : Addr} {xs : List V} {ds : List PyData} : SqL K H a xs -> a ≠ sysModules -> DWs K H xs ds -> DW K H (.ref a) (.list ds)
 | tup {a : Addr} {xs : List V} {ds : List PyData} : SqT K H a xs -> DWs K H xs ds -> DW K H (.ref a) (.tuple ds)
 | dct {a : Addr} {kvs : List (Key × V)} {ds : List PyData} : H a = some (.dK kvs) -> DWs K H (kvs.map (·.2)) ds -> DW K H (.ref a) (.dict ((kvs.map fun p => keyW p.1).zip ds))
inductive DWs (K : PySem.W.Frag) (H : Hp) : List V -> List PyData -> Prop
 | nil : DWs K H [] []
 | cons {x : V} {xs : List V} {d : PyData} {ds : List PyData} : DW K H x d -> DWs K H xs ds -> DWs K H (x :: xs) (d :: ds)
end
theorem DWs.len {K : PySem.W.Frag} {H : Hp} : ∀ {xs : List V} {ds : List PyData}, DWs K H xs ds -> xs.length = ds.length
 | _, _, .nil => rfl
 | _, _, .cons _ t => congrArg (· + 1) t.len
section
variable {X : Cx} {pins : List (Addr × Obj)} {σ : St} {H : Hp} {s : Shared}
theorem vals_kv : ∀ {kvs : List (Key × V)} {vs : List (Key × Value)}, KV kvs vs -> Vals (kvs.map (·.2)) (vs.map (·.2))
 | _, _, .nil => .nil
 | _, _, .cons r t => .cons r.2 (vals_kv t)
theorem pairs_vals {P : Program} {w : World} : ∀ {es : List DictEntry} {vs : List (Key × Value)}, Pairs (mixKind P w) es vs -> es.map (·.val) = vs.map (·.2)
 | _, _, .nil => rfl
 | _, _, .cons _ e t => by rw [List.map_cons, List.map_cons, e, pairs_vals t]
theorem key_reads {P : Program} {w : World} {h : Heap} {k : Key} {v : Value} (e : (mixKind P w).is k v = true) : Reads h v (keyW k) [] := by
 rw [mixKind_is] at e
 rcases keyIs_shape e with ⟨i, t, rfl, rfl⟩ | ⟨x, t, rfl, rfl⟩
 ·exact .int i t
 ·exact .str x t
theorem pairs_keys {P : Program} {w : World} {h : Heap} : ∀ {es : List DictEntry} {kvs : List (Key × V)} {vs : List (Key × Value)}, Pairs (mixKind P w) es vs -> KV kvs vs -> ReadsAll h (es.map (·.key)) (kvs.map fun p => keyW p.1) []
 | _, _, _, .nil, .nil => .nil
 | _, _, _, .cons a _ t, .cons r u => by
  have q := key_reads (h := h) a
  rw [<- r.1] at q
  exact .cons q (pairs_keys t u)
mutual
theorem DW.reads (I : Inv X pins σ H s) : ∀ {v : V} {d : PyData} {u : Value}, DW X.K H v d -> RelV v u -> ∃ as, Reads s.heap u d as /\ sysModules ∉ as
 | _, _, _, .non, r => by cases r; exact ⟨_, .none, by simp⟩
 | _, _, _, .bl b, r => by cases r; exact ⟨_, .bool b, by simp⟩
 | _, _, _, .int i, r => by obtain ⟨t, rfl⟩ := r; exact ⟨_, .int i t, by simp⟩
 | _, _, _, .str x, r => by obtain ⟨t, rfl⟩ := r; exact ⟨_, .str x t, by simp⟩
 | _, _, _, .lst hq ne hs, r => by
  cases r
  obtain ⟨its, rv, ⟨o, n, e, c, _, d⟩, _⟩ := I.list hq
  obtain ⟨as, q, z⟩ := DWs.reads I hs rv
  exact ⟨_, .list e c d (by simpa using q), fun m => by
   rcases List.mem_cons.mp m with m | m
   ·exact ne m.symm
   ·exact z m⟩
 | _, _, _, .tup hq hs, r => by
  cases r
  obtain ⟨its, rv, p, _⟩ := I.tuple hq
  obtain ⟨as, q, z⟩ := DWs.reads I hs rv
  obtain ⟨o, e, c, n, d⟩ := p
  exact ⟨_, .tuple e c d (by simpa using q), z⟩
 | _, _, _, @DW.dct _ _ a kvs ds hq hs, r => by
  cases r
  obtain ⟨_, ne, vs, kv, o, es, ep, e, ex, dd, _, ps, _⟩ := I.hok _ _ hq
  obtain ⟨as, q, z⟩ := DWs.reads I hs (vals_kv kv)
  have hl : ds.length = kvs.length := by have := hs.len; rw [List.length_map] at this; exact this.symm
  rw [<- pairs_vals ps] at q
  have e1 : ((kvs.map fun p => keyW p.1).zip ds).map (·.1) = kvs.map fun p => keyW p.1 := List.map_fst_zip (by rw [List.length_map]; omega)
  have e2 : ((kvs.map fun p => keyW p.1).zip ds).map (·.2) = ds := List.map_snd_zip (by rw [List.length_map]; omega)
  refine ⟨_, .dict e ex.1 dd (by rw [e1]; exact pairs_keys ps kv) (by rw [e2]; exact q), fun m => ?_⟩
  rcases List.mem_append.mp m with m | m
  ·rcases List.mem_cons.mp m with m | m
   ·rw [<- m] at ne; simp at ne
   ·cases m
  ·exact z m
theorem DWs.reads (I : Inv X pins σ H s) : ∀ {vs : List V} {ds : List PyData} {us : List Value}, DWs X.K H vs ds -> Vals vs us -> ∃ as, ReadsAll s.heap us ds as /\ sysModules ∉ as
 | _, _, _, .nil, .nil => ⟨_, .nil, by simp⟩
 | _, _, _, .cons h t, .cons r rs => by
  obtain ⟨as, q, z⟩ := DW.reads I h r
  obtain ⟨bs, q', z'⟩ := DWs.reads I t rs
  exact ⟨_, .cons q q', fun m => (List.mem_append.mp m).elim z z'⟩
end
end
section
variable {X : Cx} {k : Nat}
def rReprD (K : PySem.W.Frag) : List V -> Hp -> VK -> Prop := fun xs H Q => ∃ x d, xs = [x] /\ DW K H x d /\ d.showable = true /\ d.depth <= 100 /\ d.shown.length <= sizeLine /\ Q (.str d.shown) H
theorem call_reprD (hr : Room k X.A) : CallR X (.builtin "repr") (rReprD X.K) := by
 intro pins s σ H xs us Q I r h
 obtain ⟨x, d, rfl, hd, h1, h3, h4, q⟩ := h
 obtain ⟨u, rfl, ru⟩ := vals1 r
 obtain ⟨as, rd, z⟩ := hd.reads I ru
 have fin : ∀ t : Tok, ∀ tk, EP X pins σ Q (.str d.shown t) { s with toks := tk } := fun t tk => ⟨.str d.shown, H, I.tok _, ⟨_, rfl⟩, q⟩
 cases hd with
 | non => cases ru; exact PySem.P.repr_of_none (fin _ _)
 | bl b =>
  cases ru
  refine PySem.P.repr_of_bool ?_
  have e : (PyData.bool b).shown = (if b then "True" else "False" : Str) := PyData.shown_bool b
  rw [e] at fin
  cases b <;> exact fin _ _
 | int i => obtain ⟨t, rfl⟩ := ru; exact PySem.P.repr_of_int (by simpa [PyData.showable] using h1) (by have := fin s.toks (s.toks + 1); rw [PyData.shown_int] at this; exact this)
 | str y => obtain ⟨t, rfl⟩ := ru; exact PySem.P.repr_of_str (by have := fin s.toks (s.toks + 1); rw [PyData.shown_str] at this; exact this) (by rw [PyData.shown_str] at h4; exact h4)
 | @lst a xs ds hq _ hs =>
  cases ru
  exact repr_of_reads' rd h1 (fun _ => z) hr.gd (by have := hr.un; omega) (fun _ _ e => e) (fun h' u tk hk => ⟨.str _, H, I.kept (t' := tk) hk, ⟨_, rfl⟩, q⟩) h4
 | @tup a xs ds hq hs =>
  cases ru
  exact repr_of_reads' rd h1 (fun _ => z) hr.gd (by have := hr.un; omega) (fun _ _ e => e) (fun h' u tk hk => ⟨.str _, H, I.kept (t' := tk) hk, ⟨_, rfl⟩, q⟩) h4
 | @dct a kvs ds hq hs =>
  cases ru
  exact repr_of_reads' rd h1 (fun _ => z) hr.gd (by have := hr.un; omega) (fun _ _ e => e) (fun h' u tk hk => ⟨.str _, H, I.kept (t' := tk) hk, ⟨_, rfl⟩, q⟩) h4
end
end L2
set_option Elab.async false
set_option linter.all false
set_option maxRecDepth 100000
namespace S
open PySem L2
structure DefE (P : Program) (w : World) (K : PySem.W.Frag) (mg : Str -> Option Value) (base : Heap) (k : Nat) (x : Str) (ps : List Str) (sp : Sp) (g : Addr) (gd : FuncData) : Prop where
 ok : FnOk P w K mg base (CXE P w) k g gd ps sp
 b : Binds K gd ps []
 k : PySem.W.keepIn K (.ref g) = true
 m : mg x = some (.ref g)
def BG (n : Nat) (i : Int) : Prop := 0 <= i /\ i < 2 ^ n
theorem BG.mono {n m : Nat} {i : Int} (h : BG n i) (l : n <= m) : BG m i := ⟨h.1, Int.lt_of_lt_of_le h.2 (by
 have := Nat.pow_le_pow_right (n := 2) (by decide) l
 exact_mod_cast this)⟩
theorem BG.mul {n m : Nat} {i j : Int} (h : BG n i) (g : BG m j) : BG (n + m) (i * j) := by
 obtain ⟨a, rfl⟩ := Int.eq_ofNat_of_zero_le h.1
 obtain ⟨b, rfl⟩ := Int.eq_ofNat_of_zero_le g.1
 have h1 : a < 2 ^ n := by have := h.2; exact_mod_cast this
 have h2 : b < 2 ^ m := by have := g.2; exact_mod_cast this
 refine ⟨Int.mul_nonneg h.1 g.1, ?_⟩
 have : a * b < 2 ^ (n + m) := by
  rw [Nat.pow_add]
  exact Nat.mul_lt_mul'' h1 h2
 exact_mod_cast this
theorem BG.add {n : Nat} {i j : Int} (h : BG n i) (g : BG n j) : BG (n + 1) (i + j) := by
 refine ⟨Int.add_nonneg h.1 g.1, ?_⟩
 have := h.2
 have := g.2
 rw [Int.pow_succ]
 omega
theorem BG.le {n : Nat} {i j : Int} (h : BG n i) (z : 0 <= j) (l : j <= i) : BG n j := ⟨z, Int.lt_of_le_of_lt l h.2⟩
theorem BG.div {n : Nat} {i j : Int} (h : BG n i) (z : 0 <= j) : BG n (i / j) := h.le (Int.ediv_nonneg h.1 z) (Int.ediv_le_self _ h.1)
theorem BG.abs {n : Nat} {i : Int} (h : BG n i) (l : n <= 8000) : i.natAbs < 2 ^ 8000 := by
 obtain ⟨a, rfl⟩ := Int.eq_ofNat_of_zero_le h.1
 have h1 : a < 2 ^ n := by have := h.2; exact_mod_cast this
 exact Nat.lt_of_lt_of_le h1 (Nat.pow_le_pow_right (n := 2) (by decide) l)
section
variable {X : Cx}
def CBig (i j : Int) : Prop := i.natAbs < 2 ^ 8000 /\ j.natAbs < 2 ^ 8000
theorem op_mulB : OpR X (binaryOp .Mult) (rI CBig fun i j => .int (i * j)) := opI fun _ _ _ _ _ _ _ hc q => PyProof.Rows.mul_int q (IntMulOk.of_bits (Nat.le_trans (intBits_le_iff.mpr hc.1) (by decide)) (Nat.le_trans (intBits_le_iff.mpr hc.2) (by decide)))
def CDivB (_ j : Int) : Prop := 0 < j /\ j.natAbs < 2 ^ 8000
theorem op_fdivB : OpR X (binaryOp .FloorDiv) (rI CDivB fun i j => .int (i / j)) := opI fun i j _ _ _ _ _ hc q => by
 have h1 : (0 : Int) < j := hc.1
 refine PyProof.Rows.floordiv_int (by omega) (by rw [Int.fdiv_eq_ediv_of_nonneg i (by omega)]; exact q) (.inl (PyProof.noPylong_of_log2 ?_))
 have : j.natAbs.log2 < 8000 := (Nat.log2_lt (by omega)).mpr hc.2
 omega
end
def gc (a b : Int) : Int := ((Nat.gcd a.toNat b.toNat : Nat) : Int)
theorem gc_zero {a : Int} (h : 0 <= a) : gc a 0 = a := by
 unfold gc
 rw [Int.toNat_zero, Nat.gcd_zero_right]
 omega
theorem gc_step {a b : Int} (ha : 0 <= a) (hb : 0 < b) : gc b (a % b) = gc a b := by
 obtain ⟨x, rfl⟩ := Int.eq_ofNat_of_zero_le ha
 obtain ⟨y, rfl⟩ := Int.eq_ofNat_of_zero_le (Int.le_of_lt hb)
 unfold gc
 have e : ((x : Int) % (y : Int)).toNat = x % y := by
  rw [<- Int.natCast_emod, Int.toNat_natCast]
 simp only [Int.ofNat_eq_natCast, Int.toNat_natCast] at e ⊢
 rw [e, Nat.gcd_comm y, <- Nat.gcd_rec, Nat.gcd_comm]
theorem gc_pos {a b : Int} (ha : 0 <= a) (hb : 0 < b) : 0 < gc a b := by
 unfold gc
 have := Nat.gcd_pos_of_pos_right a.toNat (n := b.toNat) (by omega)
 omega
theorem gc_nn (a b : Int) : 0 <= gc a b := by unfold gc; omega
theorem gc_le {a b : Int} (hb : 0 < b) : gc a b <= b := by
 unfold gc
 have := Nat.gcd_le_right a.toNat (n := b.toNat) (by omega)
 omega
section
variable {P : Program} {w : World} {K : PySem.W.Frag} {mg : Str -> Option Value} {base : Heap}
theorem scMInit : FnScope ["self", "text"] ["self", "text"] (defScope sMeetErrorInit) := ⟨rfl, rfl, rfl, by decide +kernel, rfl, by decide +kernel, by decide +kernel⟩
theorem ok_mInit {f : Addr} {fd : FuncData} (F : Fun K "__init__" "MeetError.__init__" sMeetErrorInit f fd) (mv : mg "ValueError" = none) : FnOk P w K mg base CX0 1 f fd ["self", "text"] (spMeet K) := by
 refine F.ok scMInit (fun vs H Q E h => ?_) (fun cdv A outer s H vs Q E hr h => ?_)
 ·obtain ⟨e, C, u, f, bm, rfl, _⟩ := h
  rfl
 obtain ⟨e, C, u, f, bm, rfl, ec, hH, q⟩ := h
 refine ⟨_, pss_one (ps_expr (pe_initB rfl mv (pa_cons (pv 0) (pa_cons (pv 1) pa_nil)))), ?_⟩
 exact ⟨_, rfl, _, rfl, e, C, u, f, bm, rfl, ec, hH, q⟩
theorem scNInit : FnScope ["self", "found"] ["self", "found"] (defScope sNoShareInit) := ⟨rfl, rfl, rfl, by decide +kernel, rfl, by decide +kernel, by decide +kernel⟩
theorem ok_nInit {f C CM fM : Addr} {bm : List Value} {fd fdM : FuncData} (F : Fun K "__init__" "NoShare.__init__" sNoShareInit f fd) (ec : ErrC K C f bm) (nf : PySem.W.findIn K (.ref C) "found" = some none) (cf : ClsFn K CM fM) (OM : FnOk P w K mg base CX0 1 fM fdM ["self", "text"] (spMeet K)) (bM : Binds K fdM ["self", "text"] []) (mM : mg "MeetError" = some (.ref CM)) :
  FnOk P w K mg base CX0 2 f fd ["self", "found"] (spErr1 C "found") := by
 refine F.ok scNInit (fun vs H Q E h => ?_) (fun cdv A outer s H vs Q E hr h => ?_)
 ·obtain ⟨e, v, rfl, _⟩ := h
  rfl
 obtain ⟨e, v, rfl, hH, q⟩ := h
 refine ⟨_, pss_cons (ps_expr (pe_initM cf OM hr bM pass0 rfl mM (pa_cons (pv 0) (pa_cons pe_str pa_nil)))) (pss_one (ps_setE (pv 0) (pv 1) rfl)), ?_⟩
 refine ⟨_, rfl, e, C, _, f, bm, rfl, ec, hH, ?_⟩
 exact ⟨_, rfl, _, rfl, e, C, f, bm, rfl, ec, nf, hH, fun dx hdx ne => q dx hdx ne⟩
end
end S
set_option Elab.async false
set_option linter.all false
set_option maxRecDepth 100000
namespace S
open PySem L2
def isSh (a b : Int) : Prop := 0 <= a /\ 1 <= b /\ gc a b = 1
instance (a b : Int) : Decidable (isSh a b) := inferInstanceAs (Decidable (0 <= a /\ 1 <= b /\ gc a b = 1))
def spCommon : Sp := fun vs H Q _ => ∃ a b : Int, vs = [.int a, .int b] /\ 0 <= a /\ 0 <= b /\ Q (.int (gc a b)) H
def Nn (x : V) : Prop := x = .non \/ ∃ n, x = .int n
def makeB (x y : V) : Bool := match x, y with
 | .int a, .int b => decide (a >= 0) && decide (b >= 1)
 | _, _ => false
def shareB (x y : V) : Bool := match x, y with
 | .int a, .int b => decide (isSh a b)
 | _, _ => false
def spMakeA : Sp := fun vs H Q _ => ∃ x y, vs = [x, y] /\ Nn x /\ Nn y /\ Q (.bl (makeB x y)) H
def spIsShare : Sp := fun vs H Q _ => (vs = [.non] /\ Q (.bl false) H) \/ ∃ t x y, vs = [.ref t] /\ H t = some (.tup [x, y]) /\ Nn x /\ Nn y /\ Q (.bl (shareB x y)) H
theorem Nn.th {H : Hp} {x : V} (h : Nn x) : Th H x := by
 rcases h with rfl | ⟨n, rfl⟩ <;> exact trivial
section
variable {P : Program} {w : World} {K : PySem.W.Frag} {mg : Str -> Option Value} {base : Heap}
theorem scCommon : FnScope ["one", "other"] ["one", "other"] (defScope sCommon) := ⟨rfl, rfl, rfl, by decide +kernel, rfl, by decide +kernel, by decide +kernel⟩
theorem ok_common {f : Addr} {fd : FuncData} (F : Fun K "common" "common" sCommon f fd) : FnOk P w K mg base CX0 1 f fd ["one", "other"] spCommon := by
 refine F.ok scCommon (fun vs H Q E h => ?_) (fun cdv A outer s H vs Q E hr h => ?_)
 ·obtain ⟨a, b, rfl, _⟩ := h
  rfl
 obtain ⟨a, b, rfl, ha, hb, q⟩ := h
 refine ⟨_, pss_cons (ps_while PassesOwn.never (pt_cmpR op_gt (pv 1) pe_int (nomark _))
   (pss_one (ps_par (i := 0) (j := 1) rfl scCommon.nd rfl rfl (by decide) rfl rfl (pa_cons (pv 1) (pa_cons (pe_op op_mod (pv 0) (pv 1)) pa_nil)) rfl)))
  (pss_one (ps_ret (pv 0))), ?_⟩
 refine ⟨fun k σ H' => ∃ x y : Int, σ = [some (.int x), some (.int y)] /\ 0 <= x /\ 0 <= y /\ k = y.toNat /\ gc x y = gc a b /\ H' = H, ⟨_, a, b, rfl, ha, hb, rfl, rfl, rfl⟩, ?_⟩
 rintro k σ H' ⟨x, y, rfl, hx, hy, rfl, e, rfl⟩
 refine ⟨_, rfl, _, _, rfl, rfl, _, rfl, ?_⟩
 refine ite2 (fun c => ?_) (fun c => ?_)
 ·have c' : 0 < y := of_decide_eq_true c
  refine ⟨fun σ' H2 => σ' = [some (.int y), some (.int (x % y))] /\ H2 = H', fun σ' H2 ⟨e1, e2⟩ => ⟨_, ?_, y, x % y, e1, hy, Int.emod_nonneg _ (by omega), rfl, (gc_step hx c').trans e, e2⟩, ?_⟩
  ·have := Int.emod_lt_of_pos x c'
   have := Int.emod_nonneg x (b := y) (by omega)
   omega
  ·exact ⟨_, rfl, _, rfl, _, rfl, _, _, rfl, rfl, c', _, _, rfl, rfl, rfl⟩
 ·have c' : y = 0 := by
   have : ¬ 0 < y := fun z => c (decide_eq_true z)
   omega
  subst c'
  rw [gc_zero hx] at e
  refine ⟨_, rfl, ?_⟩
  rw [e]; exact q
theorem scMakeA : FnScope ["top", "bottom"] ["top", "bottom"] (defScope sMakeA) := ⟨rfl, rfl, rfl, by decide +kernel, rfl, by decide +kernel, by decide +kernel⟩
theorem ok_makeA {f a1 : Addr} {fd d1 : FuncData} (F : Fun K "make_a_share" "make_a_share" sMakeA f fd) (D1 : Def P w K mg base 1 "is_whole" ["thing"] spWhole a1 d1) : FnOk P w K mg base CX0 2 f fd ["top", "bottom"] spMakeA := by
 refine F.ok scMakeA (fun vs H Q E h => ?_) (fun cdv A outer s H vs Q E hr h => ?_)
 ·obtain ⟨x, y, rfl, _⟩ := h
  rfl
 obtain ⟨x, y, rfl, hx, hy, q⟩ := h
 refine ⟨_, pss_one (ps_ret (pe_and (pe_call D1.ok hr rfl D1.m D1.k D1.b .nil pass0 (pa_cons (pv 0) pa_nil)) (pe_and (pe_call D1.ok hr rfl D1.m D1.k D1.b .nil pass0 (pa_cons (pv 1) pa_nil)) (pe_and (pe_cmpR op_ge (pv 0) pe_int (nomark _)) (pe_one (pe_cmpR op_ge (pv 1) pe_int (nomark _))))))), ?_⟩
 refine ⟨_, rfl, x, rfl, hx.th, _, rfl, ?_⟩
 rcases hx with rfl | ⟨a, rfl⟩
 ·exact iteF q
 refine iteT ⟨_, rfl, y, rfl, hy.th, _, rfl, ?_⟩
 rcases hy with rfl | ⟨b, rfl⟩
 ·exact iteF q
 refine iteT ⟨_, rfl, _, _, rfl, rfl, _, rfl, ?_⟩
 have q' : Q (.bl (decide (a >= 0) && decide (b >= 1))) H := q
 by_cases c : a >= 0
 ·rw [decide_eq_true c] at q' ⊢
  exact iteT ⟨_, rfl, _, _, rfl, rfl, q'⟩
 ·rw [decide_eq_false c] at q' ⊢
  exact iteF q'
theorem scIsShare : FnScope ["thing", "top", "bottom"] ["thing"] (defScope sIsShare) := ⟨rfl, rfl, rfl, by decide +kernel, rfl, by decide +kernel, by decide +kernel⟩
theorem ok_isShare {f a1 a2 : Addr} {fd d1 d2 : FuncData} (F : Fun K "is_share" "is_share" sIsShare f fd) (mi : mg "isinstance" = none) (mt : mg "tuple" = none) (ml : mg "len" = none) (kn : PySem.W.kitOne K (.type "NoneType") (.type "tuple") = some false) (D1 : Def P w K mg base 2 "make_a_share" ["top", "bottom"] spMakeA a1 d1) (D2 : Def P w K mg base 1 "common" ["one", "other"] spCommon a2 d2) : FnOk P w K mg base CX0 3 f fd ["thing"] spIsShare := by
 refine F.ok scIsShare (fun vs H Q E h => ?_) (fun cdv A outer s H vs Q E hr h => ?_)
 ·rcases h with ⟨rfl, _⟩ | ⟨t, x, y, rfl, _⟩ <;> rfl
 have hr1 : Room 1 _ := hr.mono (by decide)
 refine ⟨_, pss_cons (ps_if (PW.pt (pw_or (pt_not (pt_val (pe_callB call_inst rfl mi PyProof.Rows.boot_isinstance (pa_cons (pv 0) (pa_cons (pe_bltn (v := .ty "tuple") rfl mt PyProof.Rows.boot_tuple rfl) pa_nil)))))
   (pw_or1 (pt_cmpR op_ne (pe_callB call_len_seq rfl ml PySem.boot_len (pa_cons (pv 0) pa_nil)) pe_int (nomark _))))) (pss_one (ps_ret pe_bl)) pss_nil)
  (pss_cons (ps_asg (pv 0) (pg_tup rfl (pgs_cons (pg_name (i := 1) scIsShare.nd rfl (Or.inl rfl)) (pgs_cons (pg_name (i := 2) scIsShare.nd rfl (Or.inl rfl)) pgs_nil))))
  (pss_one (ps_ret (pe_and (pe_call D1.ok hr rfl D1.m D1.k D1.b .nil pass0 (pa_cons (pv 1) (pa_cons (pv 2) pa_nil))) (pe_one (pe_cmpR op_eq (pe_call D2.ok hr1 rfl D2.m D2.k D2.b .nil pass0 (pa_cons (pv 1) (pa_cons (pv 2) pa_nil))) pe_int (nomark _))))))), ?_⟩
 rcases h with ⟨rfl, q⟩ | ⟨t, x, y, rfl, ht, hx, hy, q⟩
 ·exact ⟨_, rfl, .non, .type "NoneType", "tuple", false, rfl, .non, kn, _, rfl, iteT q⟩
 refine ⟨_, rfl, .ref t, .type "tuple", "tuple", true, rfl, .tup ht, rfl, _, rfl, iteF ⟨_, rfl, t, _, rfl, .inr (SqT.of ht), rfl, _, rfl, iteF ?_⟩⟩
 refine ⟨_, rfl, t, _, rfl, SqT.of ht, rfl, _, _, rfl, _, _, rfl, rfl, ?_⟩
 refine ⟨_, rfl, _, rfl, x, y, rfl, hx, hy, _, rfl, ?_⟩
 rcases hx with rfl | ⟨a, rfl⟩
 ·exact iteF q
 rcases hy with rfl | ⟨b, rfl⟩
 ·exact iteF q
 have q' : Q (.bl (decide (isSh a b))) H := q
 by_cases c : a >= 0 /\ b >= 1
 ·have e : makeB (.int a) (.int b) = true := by show (decide (a >= 0) && decide (b >= 1)) = true; rw [decide_eq_true c.1, decide_eq_true c.2]; rfl
  rw [e]
  refine iteT ⟨_, rfl, _, rfl, a, b, rfl, c.1, by omega, rfl, ?_⟩
  have e2 : decide (V.int (gc a b) = V.int 1) = decide (isSh a b) := by
   refine decide_eq_decide.mpr ⟨fun z => ⟨c.1, c.2, V.int.inj z⟩, fun z => congrArg V.int z.2.2⟩
  rw [e2]
  exact q'
 ·have e : makeB (.int a) (.int b) = false := by
   show (decide (a >= 0) && decide (b >= 1)) = false
   by_cases c1 : a >= 0
   ·rw [decide_eq_true c1, decide_eq_false (fun z => c ⟨c1, z⟩)]; rfl
   ·rw [decide_eq_false c1]; rfl
  rw [e]
  rw [decide_eq_false (fun z => c ⟨z.1, z.2.1⟩)] at q'
  exact iteF q'
end
end S
set_option Elab.async false
set_option linter.all false
set_option maxRecDepth 100000
namespace S
open PySem L2
abbrev cut (z : Str) : Str × Str × Str := PySem.Txt.partition z "/"
def writ (z : Str) : Option (V × V) :=
 if (cut z).2.1 = "" then some (plainB (.str (cut z).1) 400, .int 1)
 else if plainB (.str (cut z).2.2) 400 = .int 1 then none
 else some (plainB (.str (cut z).1) 400, plainB (.str (cut z).2.2) 400)
def dueS (z : Str) : Option (Int × Int) := match writ z with
 | some (.int a, .int b) => if isSh a b then some (a, b) else none
 | _ => none
def due (x : V) : Option (Int × Int) := match x with
 | .str z => dueS z
 | _ => none
theorem plain_nn (z : Str) (n : Int) : Nn (plainB (.str z) n) := by
 have e0 : plainB (.str z) n = if (madeB (.str z) FIG n && !zeroB z) = true then .int ((PySem.NumText.digitsVal z.cps.toList : Nat) : Int) else .non := rfl
 rw [e0]
 split
 ·exact .inr ⟨_, rfl⟩
 ·exact .inl rfl
theorem writ_nn {z : Str} {u v : V} (h : writ z = some (u, v)) : Nn u /\ Nn v := by
 unfold writ at h
 split at h
 ·cases h; exact ⟨plain_nn _ _, .inr ⟨_, rfl⟩⟩
 ·split at h
  ·cases h
  ·cases h; exact ⟨plain_nn _ _, plain_nn _ _⟩
theorem part_len (z : Str) : (cut z).1.length <= z.length /\ (cut z).2.2.length <= z.length := by
 have e : ((cut z).1 ++ (cut z).2.1 ++ (cut z).2.2).length = z.length := congrArg Str.length (PySem.StrLaws.partition_sum z "/")
 rw [PySem.strLen_append, PySem.strLen_append] at e
 omega
def Wr (H H' : Hp) (r : V) : Option (V × V) -> Prop
 | none => r = .non
 | some (u, v) => ∃ p, r = .ref p /\ H p = none /\ H' p = some (.tup [u, v])
def spWritten : Sp := fun vs H Q _ => ∃ x, vs = [x] /\ Th H x /\ (∀ z, x = .str z -> ∀ r H', Same H H' -> Wr H H' r (writ z) -> Q r H') /\ (strB x = false -> Q .non H)
structure GlbS (mg : Str -> Option Value) : Prop where
 most : ∃ t, mg "SHARE_FIGURES" = some (.int 400 t)
section
variable {P : Program} {w : World} {K : PySem.W.Frag} {mg : Str -> Option Value} {base : Heap}
theorem scWritten : FnScope ["text", "over", "stroke", "under", "top", "bottom"] ["text"] (defScope sWritten) := ⟨rfl, rfl, rfl, by decide +kernel, rfl, by decide +kernel, by decide +kernel⟩
theorem ok_written {f a1 : Addr} {fd d1 : FuncData} (F : Fun K "written_share" "written_share" sWritten f fd) (T : Txt mg) (k : Kit K) (G : GlbS mg) (D1 : Def P w K mg base 2 "plain_number" ["text", "most"] spPlain a1 d1) : FnOk P w K mg base CX0 3 f fd ["text"] spWritten := by
 refine F.ok scWritten (fun vs H Q E h => ?_) (fun cdv A outer s H vs Q E hr h => ?_)
 ·obtain ⟨x, rfl, _⟩ := h
  rfl
 obtain ⟨x, rfl, hx, q1, q2⟩ := h
 obtain ⟨tm, gm⟩ := G.most
 refine ⟨_, pss_cons (ps_if (pt_not (pt_val (pe_callB call_inst rfl T.inst PyProof.Rows.boot_isinstance (pa_cons (pv 0) (pa_cons (pe_bltn (v := .ty "str") rfl T.str PyProof.Rows.boot_str rfl) pa_nil))))) (pss_one (ps_ret pe_non)) pss_nil)
  (pss_cons (ps_asg (pe_bm PySem.F.plainAttrs_str PySem.F.slot_str_partition PySem.F.type_str_partition mt_partition (pv 0) (pa_cons pe_str pa_nil)) (pg_tup rfl (pgs_cons (pg_name (i := 1) scWritten.nd rfl (Or.inl rfl)) (pgs_cons (pg_name (i := 2) scWritten.nd rfl (Or.inl rfl)) (pgs_cons (pg_name (i := 3) scWritten.nd rfl (Or.inl rfl)) pgs_nil)))))
  (pss_cons (ps_set (i := 4) scWritten.nd rfl (Or.inl rfl) (pe_call D1.ok hr rfl D1.m D1.k D1.b .nil pass0 (pa_cons (pv 1) (pa_cons (pe_glob (v := .int 400) rfl gm ⟨_, rfl⟩) pa_nil))))
  (pss_cons (ps_if (pt_cmpR op_eq (pv 2) pe_str (nomark _)) (pss_one (ps_ret (pe_tup (pa_cons (pv 4) (pa_cons pe_int pa_nil))))) pss_nil)
  (pss_cons (ps_set (i := 5) scWritten.nd rfl (Or.inl rfl) (pe_call D1.ok hr rfl D1.m D1.k D1.b .nil pass0 (pa_cons (pv 3) (pa_cons (pe_glob (v := .int 400) rfl gm ⟨_, rfl⟩) pa_nil))))
  (pss_one (ps_ret (pe_ifExp (pt_cmpR op_eq (pv 5) pe_int (nomark _)) pe_non (pe_tup (pa_cons (pv 4) (pa_cons (pv 5) pa_nil)))))))))), ?_⟩
 obtain ⟨t, ty, ek⟩ := kit_str k hx
 refine ⟨_, rfl, x, t, "str", strB x, rfl, ty, ek, _, rfl, ?_⟩
 cases hb : strB x with
 | false => exact iteT (q2 hb)
 | true =>
  cases x with
  | str z =>
   have q := q1 z rfl
   have hz : z.length <= 100000 := hx
   have s1 : 100000 <= sizeLine := by decide
   obtain ⟨l1, l2⟩ := part_len z
   refine iteF ⟨_, rfl, rfl, z, "/", rfl, rfl, by decide, by omega, fun p hp => ?_⟩
   have g1 := same_new hp (.tup [.str (cut z).1, .str (cut z).2.1, .str (cut z).2.2])
   have c1 : (upd H p (.tup [.str (cut z).1, .str (cut z).2.1, .str (cut z).2.2])) p = some (.tup [.str (cut z).1, .str (cut z).2.1, .str (cut z).2.2]) := upd_same
   generalize upd H p (.tup [.str (cut z).1, .str (cut z).2.1, .str (cut z).2.2]) = H1 at g1 c1 ⊢
   refine ⟨p, _, rfl, SqT.of c1, rfl, _, _, rfl, _, _, rfl, _, _, rfl, rfl, ?_⟩
   refine ⟨_, rfl, .str (cut z).1, 400, rfl, by decide, (by show (cut z).1.length <= 100000; omega), fun H2 g2 => ?_⟩
   have g12 := g1.trans g2
   refine ⟨_, rfl, rfl, _, rfl, ?_⟩
   unfold writ at q
   by_cases c : (cut z).2.1 = ""
   ·rw [if_pos c] at q
    rw [decide_eq_true (congrArg V.str c)]
    refine iteT ⟨_, rfl, (by show 2 <= sizeLine; decide), fun r hr' => ?_⟩
    exact q (.ref r) _ (g12.trans (same_new hr' _)) ⟨r, rfl, g12.free hr', upd_same⟩
   ·rw [if_neg c] at q
    rw [decide_eq_false (fun z => c (V.str.inj z))]
    refine iteF ⟨_, rfl, .str (cut z).2.2, 400, rfl, by decide, (by show (cut z).2.2.length <= 100000; omega), fun H3 g3 => ?_⟩
    have g13 := g12.trans g3
    have sc : scal (plainB (.str (cut z).2.2) 400) (.int 1) = true := by rcases plain_nn (cut z).2.2 400 with e | ⟨n, e⟩ <;> rw [e] <;> rfl
    refine ⟨_, rfl, sc, _, rfl, ?_⟩
    by_cases c2 : plainB (.str (cut z).2.2) 400 = .int 1
    ·rw [if_pos c2] at q
     rw [decide_eq_true c2]
     exact iteT (q .non _ g13 rfl)
    ·rw [if_neg c2] at q
     rw [decide_eq_false c2]
     refine iteF ⟨_, rfl, _, rfl, (by show 2 <= sizeLine; decide), fun r hr' => ?_⟩
     exact q (.ref r) _ (g13.trans (same_new hr' _)) ⟨r, rfl, g13.free hr', upd_same⟩
  | _ => cases hb
end
end S
set_option Elab.async false
set_option linter.all false
set_option maxRecDepth 100000
namespace S
open PySem L2
def textOf (a b : Int) : Str := if b = 1 then (toString a : Str) else (toString a : Str) ++ "/" ++ (toString b : Str)
def spShareIn (C : Addr) : Sp := fun vs H Q E => ∃ x, vs = [x] /\ Th H x /\ (∀ a b, due x = some (a, b) -> ∀ p H', Same H H' -> H' p = some (.tup [.int a, .int b]) -> Q (.ref p) H') /\
 (due x = none -> ∀ dx H', Same H H' -> H dx = none -> H' dx = some (.xd [("found", x)]) -> E (.ref C) (some dx) H')
def spCheck1 (K : PySem.W.Frag) : Sp := fun vs H Q _ => ∃ l t a b, vs = [.ref l] /\ SqL K H l [.ref t] /\ H t = some (.tup [.int a, .int b]) /\ isSh a b /\ Q .non H
def spText : Sp := fun vs H Q _ => ∃ t a b, vs = [.ref t] /\ H t = some (.tup [.int a, .int b]) /\ isSh a b /\ BG 1400 a /\ BG 1400 b /\ ∀ H', Same H H' -> Q (.str (textOf a b)) H'
theorem log_lt {i : Int} (h : BG 1400 i) : i.natAbs.log2 < 1920 := by
 obtain ⟨a, rfl⟩ := Int.eq_ofNat_of_zero_le h.1
 have h1 : a < 2 ^ 1400 := by have := h.2; exact_mod_cast this
 show a.log2 < 1920
 by_cases z : a = 0
 ·subst z; decide
 ·have := (Nat.log2_lt z).mpr h1
  omega
theorem int_len {i : Int} (h : BG 1400 i) : (toString i : Str).length <= 450 := by
 obtain ⟨a, rfl⟩ := Int.eq_ofNat_of_zero_le h.1
 have h1 : a < 2 ^ 1400 := by have := h.2; exact_mod_cast this
 have h2 : a < 10 ^ 450 := Nat.lt_trans h1 (by decide +kernel)
 have h3 := PySem.toDigits_len_pow (b := 10) (k := 450) (by decide) (by decide) h2
 show (Str.ofString (toString (Int.ofNat a))).length <= 450
 rw [PyProof.Rows.ofString_len]
 have e : toString (Int.ofNat a) = String.ofList (Nat.toDigits 10 a) := rfl
 rw [e, String.length_ofList]
 omega
section
variable {P : Program} {w : World} {K : PySem.W.Frag} {mg : Str -> Option Value} {base : Heap}
theorem scShareIn : FnScope ["text", "share"] ["text"] (defScope sShareIn) := ⟨rfl, rfl, rfl, by decide +kernel, rfl, by decide +kernel, by decide +kernel⟩
theorem ok_shareIn {f a1 a2 C fI : Addr} {bm : List Value} {fd d1 d2 dI : FuncData} (F : Fun K "share_in" "share_in" sShareIn f fd) (D1 : Def P w K mg base 3 "written_share" ["text"] spWritten a1 d1) (D2 : Def P w K mg base 3 "is_share" ["thing"] spIsShare a2 d2)
  (ec : ErrC K C fI bm) (OI : FnOk P w K mg base CX0 2 fI dI ["self", "found"] (spErr1 C "found")) (bI : Binds K dI ["self", "found"] []) (mC : mg "NoShare" = some (.ref C)) : FnOk P w K mg base (CXE P w) 4 f fd ["text"] (spShareIn C) := by
 refine F.okE scShareIn (fun vs H Q E h => ?_) (fun cdv A outer s H vs Q E hr h => ?_)
 ·obtain ⟨x, rfl, _⟩ := h
  rfl
 obtain ⟨x, rfl, hx, q1, q2⟩ := h
 refine ⟨_, pss_cons (ps_set (i := 1) scShareIn.nd rfl (Or.inl rfl) (pe_call D1.ok hr rfl D1.m D1.k D1.b .nil pass0 (pa_cons (pv 0) pa_nil)))
  (pss_cons (ps_if (pt_not (pt_val (pe_call D2.ok hr rfl D2.m D2.k D2.b .nil pass0 (pa_cons (pv 1) pa_nil)))) (pss_one (ps_raise1 (E := E) rfl ec OI hr bI rfl mC throwE (pa_cons (pv 0) pa_nil))) pss_nil)
  (pss_one (ps_ret (pv 1)))), ?_⟩
 have no : ∀ (r : V) (H' : Hp), Same H H' -> due x = none -> ∃ v, [some x, some r][0]? = some (some v) /\ ∃ u, [v] ++ [] = [u] /\ ∀ dx, H' dx = none -> E (.ref C) (some dx) (upd H' dx (.xd [("found", u)])) := fun r H' g e => ⟨x, rfl, x, rfl, fun dx hdx => q2 e dx _ (g.trans (same_new hdx _)) (g.free hdx) upd_same⟩
 refine ⟨_, rfl, x, rfl, hx, fun z ez r H' g hw => ?_, fun hb => ?_⟩
 ·subst ez
  cases ew : writ z with
  | none =>
   rw [ew] at hw
   cases hw
   have e : due (.str z) = none := by show dueS z = none; unfold dueS; rw [ew]
   exact ⟨_, rfl, .inl ⟨rfl, _, rfl, iteT (no _ _ g e)⟩⟩
  | some uv =>
   obtain ⟨u, v⟩ := uv
   rw [ew] at hw
   obtain ⟨p, rfl, hp, cp⟩ := hw
   obtain ⟨nu, nv⟩ := writ_nn ew
   refine ⟨_, rfl, .inr ⟨p, u, v, rfl, cp, nu, nv, _, rfl, ?_⟩⟩
   have bad : shareB u v = false -> due (.str z) = none := fun hs => by
    show dueS z = none
    unfold dueS
    rw [ew]
    rcases nu with rfl | ⟨a, rfl⟩
    ·rfl
    rcases nv with rfl | ⟨b, rfl⟩
    ·rfl
    exact if_neg (of_decide_eq_false hs)
   cases hs : shareB u v with
   | false => exact iteT (no _ _ g (bad hs))
   | true =>
    refine iteF ⟨_, rfl, ?_⟩
    rcases nu with rfl | ⟨a, rfl⟩
    ·cases hs
    rcases nv with rfl | ⟨b, rfl⟩
    ·cases hs
    refine q1 a b ?_ p H' g cp
    show dueS z = some (a, b)
    unfold dueS
    rw [ew]
    exact if_pos (of_decide_eq_true hs)
 ·have e : due x = none := by
   cases x with
   | str z => cases hb
   | _ => rfl
  exact ⟨_, rfl, .inl ⟨rfl, _, rfl, iteT (no _ _ (Same.refl H) e)⟩⟩
theorem scCheckS : FnScope ["shares", "share"] ["shares"] (defScope sCheckS) := ⟨rfl, rfl, rfl, by decide +kernel, rfl, by decide +kernel, by decide +kernel⟩
theorem ok_check {f a1 : Addr} {fd d1 : FuncData} (F : Fun K "check_shares" "check_shares" sCheckS f fd) (D1 : Def P w K mg base 3 "is_share" ["thing"] spIsShare a1 d1) : FnOk P w K mg base CX0 4 f fd ["shares"] (spCheck1 K) := by
 refine F.ok scCheckS (fun vs H Q E h => ?_) (fun cdv A outer s H vs Q E hr h => ?_)
 ·obtain ⟨l, t, a, b, rfl, _⟩ := h
  rfl
 obtain ⟨l, t, a, b, rfl, sq, ht, sh, q⟩ := h
 refine ⟨_, pss_one (ps_for PassesOwn.never rfl (pi_seq (pv 0)) (pg_name (i := 1) scCheckS.nd rfl (Or.inl rfl)) (pss_one (ps_if (pt_not (pt_val (pe_call D1.ok hr rfl D1.m D1.k D1.b .nil pass0 (pa_cons (pv 1) pa_nil)))) pss_never pss_nil))), ?_⟩
 refine ⟨_, rfl, l, rfl, ?_⟩
 refine seq_for (K := K) (ys := [.ref t]) (.inl sq) (fun j σ H' => ∃ x, σ = [some (.ref l), x] /\ H' = H) ⟨_, rfl, rfl⟩ (fun j σ H' hP o ho => by obtain ⟨x, _, rfl⟩ := hP; exact ho) (fun j σ H' x hj hx hP => ?_) (fun σ H' hP => ?_)
 ·obtain ⟨x', rfl, rfl⟩ := hP
  match j, hx with
  | 0, hx =>
   cases hx
   refine ⟨_, rfl, .inr ⟨t, .int a, .int b, rfl, ht, .inr ⟨_, rfl⟩, .inr ⟨_, rfl⟩, _, rfl, ?_⟩⟩
   rw [show shareB (.int a) (.int b) = true from decide_eq_true sh]
   exact iteF ⟨_, rfl, rfl⟩
 ·obtain ⟨x, rfl, rfl⟩ := hP
  exact q
theorem scText : FnScope ["share", "top", "bottom"] ["share"] (defScope sShareText) := ⟨rfl, rfl, rfl, by decide +kernel, rfl, by decide +kernel, by decide +kernel⟩
theorem ok_text {f a1 : Addr} {fd d1 : FuncData} (F : Fun K "share_text" "share_text" sShareText f fd) (D1 : Def P w K mg base 4 "check_shares" ["shares"] (spCheck1 K) a1 d1) : FnOk P w K mg base CX0 5 f fd ["share"] spText := by
 refine F.ok scText (fun vs H Q E h => ?_) (fun cdv A outer s H vs Q E hr h => ?_)
 ·obtain ⟨t, a, b, rfl, _⟩ := h
  rfl
 obtain ⟨t, a, b, rfl, ht, sh, aB, bB, q⟩ := h
 refine ⟨_, pss_cons (ps_expr (pe_call D1.ok hr rfl D1.m D1.k D1.b .nil pass0 (pa_cons (pe_lst (pa_cons (pv 0) pa_nil)) pa_nil)))
  (pss_cons (ps_asg (pv 0) (pg_tup rfl (pgs_cons (pg_name (i := 1) scText.nd rfl (Or.inl rfl)) (pgs_cons (pg_name (i := 2) scText.nd rfl (Or.inl rfl)) pgs_nil))))
  (pss_one (ps_ret (pe_ifExp (pt_cmpR op_eq (pv 2) pe_int (nomark _)) (pe_f1 (pe_fmt (pv 1))) (pe_f3 (pe_fmt (pv 1)) pe_str (pe_fmt (pv 2))))))), ?_⟩
 refine ⟨_, rfl, (by show 1 <= sizeLine; decide), fun l hl => ?_⟩
 have g1 := same_new hl (.lst [.ref t])
 refine ⟨l, t, a, b, rfl, SqL.of upd_same, g1 _ _ ht, sh, ?_⟩
 generalize upd H l (.lst [.ref t]) = H1 at g1 ⊢
 refine ⟨_, rfl, t, _, rfl, SqT.of (g1 _ _ ht), rfl, _, _, rfl, _, _, rfl, rfl, ?_⟩
 refine ⟨_, rfl, rfl, _, rfl, ?_⟩
 have q' := q H1 g1
 unfold textOf at q'
 have la := int_len aB
 have lb := int_len bB
 have s1 : 1000 <= sizeLine := by decide
 by_cases c : b = 1
 ·rw [if_pos c] at q'
  rw [decide_eq_true (congrArg V.int c)]
  exact iteT ⟨_, rfl, a, rfl, log_lt aB, q'⟩
 ·rw [if_neg c] at q'
  rw [decide_eq_false (fun z => c (V.int.inj z))]
  refine iteF ⟨_, rfl, a, rfl, log_lt aB, _, rfl, by omega, _, rfl, ?_, _, rfl, b, rfl, log_lt bB, _, rfl, ?_, q'⟩
  ·have : (("/" : Str)).length = 1 := by decide
   omega
  ·have : (("/" : Str)).length = 1 := by decide
   omega
end
end S
set_option Elab.async false
set_option linter.all false
set_option maxRecDepth 100000
namespace S
open PySem L2
abbrev cl (z : Str) : List Nat := z.cps.toList
theorem cl_app (a b : Str) : cl (a ++ b) = cl a ++ cl b := by
 show (a.cps ++ b.cps).toList = _
 rw [Array.toList_append]
theorem cl_inj {a b : Str} (h : cl a = cl b) : a = b := Str.ext' (Array.toList_inj.mp h)
theorem app_sep {c : Nat} : ∀ {p q r s : List Nat}, c ∉ p -> c ∉ q -> p ++ c :: r = q ++ c :: s -> p = q /\ r = s
 | [], [], r, s, _, _, e => ⟨rfl, (List.cons.inj e).2⟩
 | [], b :: q, r, s, _, hq, e => by
  have := (List.cons.inj e).1
  exact absurd (List.mem_cons.mpr (.inl this)) hq
 | a :: p, [], r, s, hp, _, e => by
  have := (List.cons.inj e).1
  exact absurd (List.mem_cons.mpr (.inl this.symm)) hp
 | a :: p, b :: q, r, s, hp, hq, e => by
  obtain ⟨e1, e2⟩ := List.cons.inj e
  obtain ⟨e3, e4⟩ := app_sep (fun z => hp (List.mem_cons_of_mem _ z)) (fun z => hq (List.mem_cons_of_mem _ z)) e2
  exact ⟨by rw [e1, e3], e4⟩
theorem join_two (y p q : Str) (r : List Str) : Str.join y (p :: q :: r) = p ++ y ++ Str.join y (q :: r) := rfl
theorem cl_join (c : Nat) (p q : Str) (r : List Str) : cl (Str.join ⟨#[c]⟩ (p :: q :: r)) = cl p ++ c :: cl (Str.join ⟨#[c]⟩ (q :: r)) := by
 rw [join_two, cl_app, cl_app, List.append_assoc]
 rfl
theorem join_inj {c : Nat} : ∀ {ps qs : List Str}, ps ≠ [] -> qs ≠ [] -> (∀ p ∈ ps, c ∉ cl p) -> (∀ q ∈ qs, c ∉ cl q) -> Str.join ⟨#[c]⟩ ps = Str.join ⟨#[c]⟩ qs -> ps = qs
 | [], _, h, _, _, _, _ => absurd rfl h
 | _, [], _, h, _, _, _ => absurd rfl h
 | [p], [q], _, _, _, _, e => by
  have e' : p = q := e
  rw [e']
 | [p], q :: q' :: r, _, _, hp, _, e => by
  have e' : cl p = cl (Str.join ⟨#[c]⟩ (q :: q' :: r)) := congrArg cl e
  rw [cl_join] at e'
  exact absurd (by rw [e']; simp) (hp p (by simp))
 | p :: p' :: r, [q], _, _, _, hq, e => by
  have e' : cl (Str.join ⟨#[c]⟩ (p :: p' :: r)) = cl q := congrArg cl e
  rw [cl_join] at e'
  exact absurd (by rw [<- e']; simp) (hq q (by simp))
 | p :: p' :: r, q :: q' :: s, _, _, hp, hq, e => by
  have e' := congrArg cl e
  rw [cl_join, cl_join] at e'
  obtain ⟨e1, e2⟩ := app_sep (hp p (by simp)) (hq q (by simp)) e'
  rw [cl_inj e1, join_inj (by simp) (by simp) (fun x hx => hp x (List.mem_cons_of_mem _ hx)) (fun x hx => hq x (List.mem_cons_of_mem _ hx)) (cl_inj e2)]
theorem slash : ("/" : Str) = ⟨#[47]⟩ := by decide +kernel
abbrev parts (z : Str) : List Str := PySem.Txt.split z "/"
theorem parts_free (z : Str) : ∀ p ∈ parts z, 47 ∉ cl p := by
 intro p hp
 have hp' : p ∈ PySem.Txt.split z ⟨#[47]⟩ := by rw [<- slash]; exact hp
 exact PySem.StrLaws.split_free z 47 p hp'
theorem parts_join (z : Str) : Str.join ⟨#[47]⟩ (parts z) = z := by
 have := PySem.StrLaws.join_split z "/"
 rw [slash] at this
 show Str.join ⟨#[47]⟩ (PySem.Txt.split z "/") = z
 rw [slash]
 exact this
theorem parts_ne (z : Str) : parts z ≠ [] := by
 show PySem.Txt.split z "/" ≠ []
 unfold PySem.Txt.split
 split
 ·simp
 ·split
  ·simp
  ·intro e
   have := congrArg List.length e
   rw [length_partsBetween] at this
   simp at this
theorem parts_one {z : Str} (h : 47 ∉ cl z) : parts z = [z] := join_inj (parts_ne z) (by simp) (parts_free z) (fun q hq => by rw [List.mem_singleton] at hq; subst hq; exact h) (by rw [parts_join]; rfl)
theorem parts_len1 {z : Str} (h : (parts z).length = 1) : 47 ∉ cl z := by
 have hf := parts_free z
 have hj := parts_join z
 match hp : parts z, h with
 | [p], _ =>
  rw [hp] at hf hj
  have : p = z := hj
  subst this
  exact hf p (by simp)
theorem cut_cases (z : Str) : ((cut z).2.1 = "" /\ (cut z).1 = z /\ parts z = [z]) \/ ((cut z).2.1 ≠ "" /\ parts z = (cut z).1 :: parts (cut z).2.2) := by
 have e0 : cut z = PySem.Txt.partition z ⟨#[47]⟩ := by show PySem.Txt.partition z "/" = _; rw [slash]
 have at_iff : ∀ i, PySem.StrLaws.At z ⟨#[47]⟩ z.length i ↔ (cl z)[i]? = some 47 := fun i => PySem.StrLaws.subAt_one z 47 i
 rcases PyProof.Rows.partition_whole z ⟨#[47]⟩ with ⟨h, hn⟩ | ⟨i, h, hi, hn⟩
 ·rw [<- e0] at h
  refine .inl ⟨by rw [h]; rfl, by rw [h], parts_one fun m => ?_⟩
  obtain ⟨i, hi⟩ := (PyProof.Rows.mem_iff_at z 47).mp m
  exact hn i hi
 ·rw [<- e0] at h
  refine .inr ⟨by rw [h]; show (⟨#[47]⟩ : Str) ≠ ""; decide +kernel, ?_⟩
  have f1 : 47 ∉ cl (cut z).1 := fun m => by
   rw [h] at m
   have e : cl (Builtin.Str.strSub z 0 i) = (cl z).take i := by
    show cl (Builtin.Str.strSub z 0 i) = _
    rw [PyProof.Rows.strSub_mk]
    show ((z.cps.toList.drop 0).take (i - 0)) = _
    rw [List.drop_zero, Nat.sub_zero]
   have m' : 47 ∈ (cl z).take i := by rw [<- e]; exact m
   obtain ⟨k, hk⟩ := List.mem_iff_getElem?.mp m'
   have hk2 : k < i := by
    have := (List.getElem?_eq_some_iff.mp hk).1
    rw [List.length_take] at this
    omega
   rw [List.getElem?_take, if_pos hk2] at hk
   exact hn k hk2 ((at_iff k).mpr hk)
  have s1 : (cut z).2.1 = ⟨#[47]⟩ := by rw [h]
  refine join_inj (parts_ne z) (by simp) (parts_free z) (fun q hq => ?_) ?_
  ·rcases List.mem_cons.mp hq with rfl | hq
   ·exact f1
   ·exact parts_free _ q hq
  ·rw [parts_join]
   have ps := PySem.StrLaws.partition_sum z "/"
   obtain ⟨q, r, hr⟩ : ∃ q r, parts (cut z).2.2 = q :: r := by
    cases hp : parts (cut z).2.2 with
    | nil => exact absurd hp (parts_ne _)
    | cons q r => exact ⟨q, r, rfl⟩
   rw [hr, join_two, <- hr, parts_join, <- s1]
   exact ps.symm
end S
set_option Elab.async false
set_option linter.all false
set_option maxRecDepth 100000
namespace S
open PySem L2
theorem low_nat {a b : Nat} (hb : 0 < b) : Nat.Coprime (a / Nat.gcd a b) (b / Nat.gcd a b) /\ 0 < b / Nat.gcd a b /\ (a / Nat.gcd a b) * b = a * (b / Nat.gcd a b) := by
 have gp := Nat.gcd_pos_of_pos_right a hb
 refine ⟨Nat.coprime_div_gcd_div_gcd gp, Nat.div_pos (Nat.gcd_le_right a hb) gp, ?_⟩
 obtain ⟨x, hx⟩ := Nat.gcd_dvd_left a b
 obtain ⟨y, hy⟩ := Nat.gcd_dvd_right a b
 generalize Nat.gcd a b = g at *
 have e1 : a / g = x := by rw [hx, Nat.mul_div_cancel_left _ gp]
 have e2 : b / g = y := by rw [hy, Nat.mul_div_cancel_left _ gp]
 rw [e1, e2, hx, hy, <- Nat.mul_assoc, Nat.mul_comm x g]
theorem gc_nat (a b : Nat) : gc (a : Int) (b : Int) = ((Nat.gcd a b : Nat) : Int) := by unfold gc; rw [Int.toNat_natCast, Int.toNat_natCast]
theorem gc_one {a b : Nat} : gc (a : Int) (b : Int) = 1 ↔ Nat.Coprime a b := by rw [gc_nat]; unfold Nat.Coprime; omega
theorem low_ok {a b : Int} (ha : 0 <= a) (hb : 1 <= b) : isSh (a / gc a b) (b / gc a b) /\ (a / gc a b) * b = a * (b / gc a b) := by
 obtain ⟨x, rfl⟩ := Int.eq_ofNat_of_zero_le ha
 obtain ⟨y, rfl⟩ := Int.eq_ofNat_of_zero_le (show 0 <= b by omega)
 obtain ⟨h1, h2, h3⟩ := low_nat (a := x) (b := y) (by omega)
 try simp only [Int.ofNat_eq_natCast] at *
 rw [gc_nat, <- Int.natCast_ediv, <- Int.natCast_ediv]
 refine ⟨⟨Int.natCast_nonneg _, by omega, gc_one.mpr h1⟩, ?_⟩
 exact_mod_cast h3
end S
set_option Elab.async false
set_option linter.all false
set_option maxRecDepth 100000
namespace S
open PySem L2
def BoxAt (H : Hp) (b : Addr) : Prop := ∃ d s : Int, H b = some (.lst [.int d, .int s]) /\ 0 <= d /\ 0 <= s /\ s < 2147483648
def But (b : Addr) (H H' : Hp) : Prop := ∀ c, c ≠ b -> H' c = H c
def Away (b : Addr) (H H' : Hp) : Prop := ∀ c o, H c = some o -> c ≠ b -> H' c = some o
theorem But.away {b : Addr} {H H' : Hp} (x : But b H H') : Away b H H' := fun c o h n => (x c n).trans h
theorem away_of {b : Addr} {H H' : Hp} (x : Same H H') : Away b H H' := fun c o h _ => x c o h
theorem Away.trans {b : Addr} {H H1 H2 : Hp} (x : Away b H H1) (y : Away b H1 H2) : Away b H H2 := fun c o h n => y c o (x c o h n) n
theorem BoxAt.same {H H' : Hp} {b : Addr} (g : Same H H') (h : BoxAt H b) : BoxAt H' b := let ⟨d, s, h1, h2⟩ := h; ⟨d, s, g _ _ h1, h2⟩
theorem BoxAt.ne {H : Hp} {b c : Addr} (h : BoxAt H b) (hc : H c = none) : b ≠ c := let ⟨_, _, h1, _⟩ := h; ne_of_none h1 hc
theorem Away.free {b c : Addr} {H H' : Hp} (g : Away b H H') (hb : BoxAt H' b) (h : H' c = none) : H c = none := by
 cases q : H c with
 | none => rfl
 | some o => rw [g c o q (hb.ne h).symm] at h; cases h
theorem at_int {ms : List Int} {i : Int} (h0 : 0 <= i) (h : i < (ms.length : Int)) : ∃ v, v ∈ ms /\ atI (ms.map V.int) i = some (.int v) := by
 have hk : i.toNat < ms.length := by omega
 refine ⟨ms[i.toNat], List.getElem_mem hk, ?_⟩
 have q : atI (ms.map V.int) ((i.toNat : Nat) : Int) = some (.int ms[i.toNat]) := atI_nat (by rw [List.getElem?_map, List.getElem?_eq_getElem hk]; rfl)
 rw [show ((i.toNat : Nat) : Int) = i by omega] at q
 exact q
def spBox (K : PySem.W.Frag) : Sp := fun vs H Q _ => ∃ a ns k, vs = [.ref a, .int k] /\ SqL K H a (List.map V.int ns) /\ 0 <= k /\ k < 1000 /\ ∀ r H', Same H H' -> H r = none -> BoxAt H' r -> Q (.ref r) H'
def spTake : Sp := fun vs H Q _ => ∃ b n, vs = [.ref b, .int n] /\ 0 < n /\ BG 8000 n /\ BoxAt H b /\ ∀ r H', 0 <= r -> r < n -> BoxAt H' b -> But b H H' -> Q (.int r) H'
def spPart : Sp := fun vs H Q _ => ∃ b, vs = [.ref b] /\ BoxAt H b /\ ∀ r H', BG 135 r -> BoxAt H' b -> But b H H' -> Q (.int r) H'
def spShare : Sp := fun vs H Q _ => ∃ b, vs = [.ref b] /\ BoxAt H b /\ ∀ r x y H', H r = none -> H' r = some (.tup [.int x, .int y]) -> isSh x y -> BG 138 x -> BG 138 y -> BoxAt H' b -> Away b H H' -> Q (.ref r) H'
section
variable {P : Program} {w : World} {K : PySem.W.Frag} {mg : Str -> Option Value} {base : Heap}
theorem scBox : FnScope ["_law_script", "_law_k", "_law_cell", "_law_digits"] ["_law_script", "_law_k"] (defScope sBox) := ⟨rfl, rfl, rfl, by decide +kernel, rfl, by decide +kernel, by decide +kernel⟩
theorem ok_box {f : Addr} {fd : FuncData} (F : Fun K "_law_box" "_law_box" sBox f fd) (ml : mg "len" = none) : FnOk P w K mg base CX0 1 f fd ["_law_script", "_law_k"] (spBox K) := by
 refine F.ok scBox (fun vs H Q E h => ?_) (fun cdv A outer s H vs Q E hr h => ?_)
 ·obtain ⟨a, ns, k, rfl, _⟩ := h
  rfl
 obtain ⟨a, ns, k, rfl, hS, k0, k1, q⟩ := h
 refine ⟨_, pss_cons (ps_set (i := 2) scBox.nd rfl (Or.inl rfl) pe_int)
  (pss_cons (ps_if (pt_cmpR (op_neD hr) (pv 0) (pe_lst pa_nil) (nomark _)) (pss_one (ps_set (i := 2) scBox.nd rfl (Or.inl rfl) (pe_ix ix_list (pv 0) (pe_op op_mod (pv 1) (pe_callB call_len_seq rfl ml PySem.boot_len (pa_cons (pv 0) pa_nil))) (fun _ _ => rfl)))) pss_nil)
  (pss_cons (ps_set (i := 3) scBox.nd rfl (Or.inl rfl) pe_int)
  (pss_cons (ps_if (pt_cmpR op_ge (pv 2) (pe_op op_pow pe_int pe_int) (nomark _)) (pss_one (ps_set (i := 3) scBox.nd rfl (Or.inl rfl) (pv 2))) pss_nil)
  (pss_one (ps_ret (pe_lst (pa_cons (pv 3) (pa_cons (pe_op op_add (pe_op op_mod (pe_op op_add (pv 2) (pe_op op_mul pe_int (pv 1))) pe_int) pe_int) pa_nil)))))))), ?_⟩
 refine ⟨_, rfl, (by show 0 <= sizeLine; decide), fun l hl => ?_⟩
 have g1 := same_new hl (.lst [])
 have c1 : (upd H l (.lst [])) l = some (.lst []) := upd_same
 generalize upd H l (.lst []) = H1 at g1 c1 ⊢
 have hS1 : SqL K H1 a (ns.map V.int) := g1.seq hS
 have fin : ∀ cell : Int, (tSeq (tIfS (tTest (tOp (rI0 fun i j => V.bl (decide (i >= j))) (tVar 2) (tOp (rI CPow fun i j => V.int (i ^ j.toNat)) (tC (V.int 10)) (tC (V.int 18))))) (tAsg (tVar 2) (gName 3)) tNext) (tRet (tLst (tCons (tVar 3) (tCons (tOp (rI0 fun i j => V.int (i + j)) (tOp (rI (fun _ j => 0 < j) fun i j => V.int (i % j)) (tOp (rI0 fun i j => V.int (i + j)) (tVar 2) (tOp (rI CMul fun i j => V.int (i * j)) (tC (V.int 7919)) (tVar 1))) (tC (V.int 2147483646))) (tC (V.int 1))) tNil))))) { nx := fun _ H' => Q .non H', rt := Q } [some (.ref a), some (.int k), some (.int cell), some (.int 0)] H1 := fun cell => by
  have out : ∀ d : Int, 0 <= d -> tRet (tLst (tCons (tVar 3) (tCons (tOp (rI0 fun i j => V.int (i + j)) (tOp (rI (fun _ j => 0 < j) fun i j => V.int (i % j)) (tOp (rI0 fun i j => V.int (i + j)) (tVar 2) (tOp (rI CMul fun i j => V.int (i * j)) (tC (V.int 7919)) (tVar 1))) (tC (V.int 2147483646))) (tC (V.int 1))) tNil))) { nx := fun _ H' => Q .non H', rt := Q } [some (.ref a), some (.int k), some (.int cell), some (.int d)] H1 := fun d hd => by
   refine ⟨_, rfl, _, rfl, _, rfl, _, _, rfl, rfl, .inl ⟨by decide, by decide⟩, _, _, rfl, rfl, _, _, rfl, rfl, (by show (0 : Int) < 2147483646; decide), _, _, rfl, rfl, (by show 2 <= sizeLine; decide), fun r hr' => ?_⟩
   have e0 := Int.emod_nonneg (cell + 7919 * k) (b := 2147483646) (by decide)
   have e1 := Int.emod_lt_of_pos (cell + 7919 * k) (b := 2147483646) (by decide)
   exact q r _ (g1.trans (same_new hr' _)) (g1.free hr') ⟨d, _, upd_same, hd, by omega, by omega⟩
  refine ⟨_, rfl, _, _, rfl, rfl, ⟨by decide, by decide, by decide⟩, _, _, rfl, rfl, _, rfl, ?_⟩
  refine ite2 (fun c => ?_) (fun c => ?_)
  ·have c' : cell >= 10 ^ (18 : Int).toNat := of_decide_eq_true c
   have : (0 : Int) <= 10 ^ (18 : Int).toNat := by decide
   exact ⟨_, rfl, out cell (by omega)⟩
  ·exact out 0 (by decide)
 have lay : PyData.canLayAll0 (ns.map PyData.int) = true := canLay_ints ns
 have dep := depthAll_ints ns
 refine ⟨.list (ns.map .int), .list [], .lst hS1 (DVs.ints ns), .lst (SqL.of c1) .nil, lay, rfl, (by simp only [PyData.depth]; omega), _, rfl, ?_⟩
 have e : PyData.eqv (.list (ns.map PyData.int)) (.list []) = ns.isEmpty := by cases ns <;> rfl
 rw [e]
 refine ite2 (fun c => ?_) (fun c => ?_)
 ·have hne : 0 < ns.length := by
   cases ns with
   | nil => cases c
   | cons _ _ => simp
  have lp : (0 : Int) < ((ns.map V.int).length : Nat) := by rw [List.length_map]; omega
  obtain ⟨v, _, hv⟩ := at_int (ms := ns) (i := k % ((ns.map V.int).length : Nat)) (Int.emod_nonneg _ (by omega)) (by have := Int.emod_lt_of_pos k lp; rw [List.length_map] at this ⊢; exact this)
  exact ⟨_, rfl, _, rfl, _, rfl, a, _, rfl, .inl hS1, _, _, rfl, rfl, lp, a, _, _, _, rfl, rfl, hS1, hv, fin v⟩
 ·exact fin 0
end
end S
set_option Elab.async false
set_option linter.all false
set_option maxRecDepth 100000
namespace S
open PySem L2
section
variable {P : Program} {w : World} {K : PySem.W.Frag} {mg : Str -> Option Value} {base : Heap}
theorem scTake : FnScope ["_law_box_here", "_law_many", "_law_digit", "_law_one", "_law_two"] ["_law_box_here", "_law_many"] (defScope sTake) := ⟨rfl, rfl, rfl, by decide +kernel, rfl, by decide +kernel, by decide +kernel⟩
theorem ok_take {f : Addr} {fd : FuncData} (F : Fun K "_law_take" "_law_take" sTake f fd) : FnOk P w K mg base CX0 1 f fd ["_law_box_here", "_law_many"] spTake := by
 refine F.ok scTake (fun vs H Q E h => ?_) (fun cdv A outer s H vs Q E hr h => ?_)
 ·obtain ⟨b, n, rfl, _⟩ := h
  rfl
 obtain ⟨b, n, rfl, n0, n1, ⟨d, z, hb, d0, s0, s1⟩, q⟩ := h
 refine ⟨_, pss_cons (ps_if (pt_cmpR op_gt (pe_ix ix_list (pv 0) pe_int (fun _ _ => rfl)) pe_int (nomark _))
   (pss_cons (ps_set (i := 2) scTake.nd rfl (Or.inl rfl) (pe_op op_mod (pe_ix ix_list (pv 0) pe_int (fun _ _ => rfl)) (pv 1)))
   (pss_cons (ps_asg (pe_op op_fdivB (pe_ix ix_list (pv 0) pe_int (fun _ _ => rfl)) (pv 1)) (pg_sub (pv 0) pe_int set_list))
   (pss_one (ps_ret (pv 2))))) pss_nil)
  (pss_cons (ps_asg (pe_op op_mod (pe_op op_mul (pe_ix ix_list (pv 0) pe_int (fun _ _ => rfl)) pe_int) pe_int) (pg_sub (pv 0) pe_int set_list))
  (pss_cons (ps_set (i := 3) scTake.nd rfl (Or.inl rfl) (pe_op op_mod (pe_op op_mul (pe_op op_add (pe_ix ix_list (pv 0) pe_int (fun _ _ => rfl)) (pe_op op_mul pe_int (pe_op op_fdiv (pe_ix ix_list (pv 0) pe_int (fun _ _ => rfl)) pe_int))) pe_int) pe_int))
  (pss_cons (ps_set (i := 4) scTake.nd rfl (Or.inl rfl) (pe_op op_mod (pe_op op_add (pe_op op_mul (pv 3) pe_int) (pe_op op_fdiv (pe_ix ix_list (pv 0) pe_int (fun _ _ => rfl)) pe_int)) pe_int))
  (pss_one (ps_ret (pe_op op_mod (pe_op op_add (pe_op op_mul (pv 3) pe_int) (pv 4)) (pv 1))))))), ?_⟩
 have bt : ∀ o, But b H (upd H b o) := fun o c hc => upd_ne hc
 refine ⟨_, rfl, b, _, _, _, rfl, rfl, SqL.of hb, rfl, _, _, rfl, rfl, _, rfl, ?_⟩
 refine ite2 (fun y => ?_) (fun y => ?_)
 ·refine ⟨_, rfl, b, _, _, _, rfl, rfl, SqL.of hb, rfl, _, rfl, _, _, rfl, rfl, n0, ?_⟩
  refine ⟨_, rfl, b, _, _, _, rfl, rfl, SqL.of hb, rfl, _, rfl, _, _, rfl, rfl, ⟨n0, n1.abs (Nat.le_refl _)⟩, _, rfl, b, _, _, _, rfl, rfl, hb, rfl, ?_⟩
  exact ⟨_, rfl, q _ _ (Int.emod_nonneg _ (by omega)) (Int.emod_lt_of_pos _ n0) ⟨_, _, upd_same, Int.ediv_nonneg d0 (by omega), s0, s1⟩ (bt _)⟩
 ·have m0 := Int.emod_nonneg (z * 48271) (b := 2147483647) (by decide)
  have m1 := Int.emod_lt_of_pos (z * 48271) (b := 2147483647) (by decide)
  refine ⟨_, rfl, b, _, _, _, rfl, rfl, SqL.of hb, rfl, _, _, rfl, rfl, .inr ⟨by decide, by decide⟩, _, _, rfl, rfl, (by show (0 : Int) < 2147483647; decide), _, rfl, b, _, _, _, rfl, rfl, hb, rfl, ?_⟩
  refine ⟨_, rfl, b, _, _, _, rfl, rfl, SqL.of upd_same, rfl, _, rfl, b, _, _, _, rfl, rfl, SqL.of upd_same, rfl, _, _, rfl, rfl, ⟨by decide, by decide⟩, _, _, rfl, rfl, .inl ⟨by decide, by decide⟩, _, _, rfl, rfl, _, _, rfl, rfl, .inr ⟨by decide, by decide⟩, _, _, rfl, rfl, (by show (0 : Int) < 2147483629; decide), ?_⟩
  refine ⟨_, rfl, _, _, rfl, rfl, .inr ⟨by decide, by decide⟩, _, rfl, b, _, _, _, rfl, rfl, SqL.of upd_same, rfl, _, _, rfl, rfl, ⟨by decide, by decide⟩, _, _, rfl, rfl, _, _, rfl, rfl, (by show (0 : Int) < 2147483399; decide), ?_⟩
  refine ⟨_, rfl, _, _, rfl, rfl, .inr ⟨by decide, by decide⟩, _, rfl, _, _, rfl, rfl, _, rfl, _, _, rfl, rfl, n0, ?_⟩
  exact q _ _ (Int.emod_nonneg _ (by omega)) (Int.emod_lt_of_pos _ n0) ⟨_, _, upd_same, d0, m0, by omega⟩ (bt _)
theorem scLCommon : FnScope ["_law_one", "_law_other"] ["_law_one", "_law_other"] (defScope s_law_common) := ⟨rfl, rfl, rfl, by decide +kernel, rfl, by decide +kernel, by decide +kernel⟩
theorem ok_lcommon {f : Addr} {fd : FuncData} (F : Fun K "_law_common" "_law_common" s_law_common f fd) : FnOk P w K mg base CX0 1 f fd ["_law_one", "_law_other"] spCommon := by
 refine F.ok scLCommon (fun vs H Q E h => ?_) (fun cdv A outer s H vs Q E hr h => ?_)
 ·obtain ⟨a, b, rfl, _⟩ := h
  rfl
 obtain ⟨a, b, rfl, ha, hb, q⟩ := h
 refine ⟨_, pss_cons (ps_while PassesOwn.never (pt_cmpR op_gt (pv 1) pe_int (nomark _))
   (pss_one (ps_par (i := 0) (j := 1) rfl scLCommon.nd rfl rfl (by decide) rfl rfl (pa_cons (pv 1) (pa_cons (pe_op op_mod (pv 0) (pv 1)) pa_nil)) rfl)))
  (pss_one (ps_ret (pv 0))), ?_⟩
 refine ⟨fun k σ H' => ∃ x y : Int, σ = [some (.int x), some (.int y)] /\ 0 <= x /\ 0 <= y /\ k = y.toNat /\ gc x y = gc a b /\ H' = H, ⟨_, a, b, rfl, ha, hb, rfl, rfl, rfl⟩, ?_⟩
 rintro k σ H' ⟨x, y, rfl, hx, hy, rfl, e, rfl⟩
 refine ⟨_, rfl, _, _, rfl, rfl, _, rfl, ?_⟩
 refine ite2 (fun c => ?_) (fun c => ?_)
 ·have c' : 0 < y := of_decide_eq_true c
  refine ⟨fun σ' H2 => σ' = [some (.int y), some (.int (x % y))] /\ H2 = H', fun σ' H2 ⟨e1, e2⟩ => ⟨_, ?_, y, x % y, e1, hy, Int.emod_nonneg _ (by omega), rfl, (gc_step hx c').trans e, e2⟩, ?_⟩
  ·have := Int.emod_lt_of_pos x c'
   have := Int.emod_nonneg x (b := y) (by omega)
   omega
  ·exact ⟨_, rfl, _, rfl, _, rfl, _, _, rfl, rfl, c', _, _, rfl, rfl, rfl⟩
 ·have c' : y = 0 := by
   have : ¬ 0 < y := fun z => c (decide_eq_true z)
   omega
  subst c'
  rw [gc_zero hx] at e
  refine ⟨_, rfl, ?_⟩
  rw [e]; exact q
theorem bg_of {n : Nat} {i : Int} (h : 0 <= i) (g : i < 2 ^ n) : BG n i := ⟨h, g⟩
theorem scPart : FnScope ["_law_box_here", "_law_way", "_law_number_here", "_law_k"] ["_law_box_here"] (defScope s_law_part) := ⟨rfl, rfl, rfl, by decide +kernel, rfl, by decide +kernel, by decide +kernel⟩
set_option maxHeartbeats 1000000 in
theorem ok_part {f a1 : Addr} {fd d1 : FuncData} (F : Fun K "_law_part" "_law_part" s_law_part f fd) (mr : mg "range" = none) (D1 : Def P w K mg base 1 "_law_take" ["_law_box_here", "_law_many"] spTake a1 d1) : FnOk P w K mg base CX0 2 f fd ["_law_box_here"] spPart := by
 refine F.ok scPart (fun vs H Q E h => ?_) (fun cdv A outer s H vs Q E hr h => ?_)
 ·obtain ⟨b, rfl, _⟩ := h
  rfl
 obtain ⟨b, rfl, hb, q⟩ := h
 refine ⟨_, pss_cons (ps_set (i := 1) scPart.nd rfl (Or.inl rfl) (pe_call D1.ok hr rfl D1.m D1.k D1.b .nil pass0 (pa_cons (pv 0) (pa_cons pe_int pa_nil))))
  (pss_cons (ps_if (pt_cmpR op_eq (pv 1) pe_int (nomark _)) (pss_one (ps_ret (pe_call D1.ok hr rfl D1.m D1.k D1.b .nil pass0 (pa_cons (pv 0) (pa_cons pe_int pa_nil))))) pss_nil)
  (pss_cons (ps_if (pt_cmpR op_eq (pv 1) pe_int (nomark _)) (pss_one (ps_ret (pe_call D1.ok hr rfl D1.m D1.k D1.b .nil pass0 (pa_cons (pv 0) (pa_cons pe_int pa_nil))))) pss_nil)
  (pss_cons (ps_if (pt_cmpR op_eq (pv 1) pe_int (nomark _)) (pss_one (ps_ret (pe_op op_mul (pe_op op_mul (pe_op op_add pe_int (pe_call D1.ok hr rfl D1.m D1.k D1.b .nil pass0 (pa_cons (pv 0) (pa_cons pe_int pa_nil)))) (pe_op op_add pe_int (pe_call D1.ok hr rfl D1.m D1.k D1.b .nil pass0 (pa_cons (pv 0) (pa_cons pe_int pa_nil))))) (pe_op op_add pe_int (pe_call D1.ok hr rfl D1.m D1.k D1.b .nil pass0 (pa_cons (pv 0) (pa_cons pe_int pa_nil))))))) pss_nil)
  (pss_cons (ps_if (pt_cmpR op_eq (pv 1) pe_int (nomark _)) (pss_one (ps_ret (pe_call D1.ok hr rfl D1.m D1.k D1.b .nil pass0 (pa_cons (pv 0) (pa_cons (pe_op op_pow pe_int pe_int) pa_nil))))) pss_nil)
  (pss_cons (ps_set (i := 2) scPart.nd rfl (Or.inl rfl) pe_int)
  (pss_cons (ps_for PassesOwn.never rfl (pi_range1 rfl mr (pa_cons (pe_op op_add pe_int (pe_call D1.ok hr rfl D1.m D1.k D1.b .nil pass0 (pa_cons (pv 0) (pa_cons pe_int pa_nil)))) pa_nil)) (pg_name (i := 3) scPart.nd rfl (Or.inl rfl)) (pss_one (ps_set (i := 2) scPart.nd rfl (Or.inl rfl) (pe_op op_mul (pv 2) pe_int))))
  (pss_one (ps_ret (pe_op op_sub (pv 2) (pe_call D1.ok hr rfl D1.m D1.k D1.b .nil pass0 (pa_cons (pv 0) (pa_cons pe_int pa_nil)))))))))))), ?_⟩
 have s1 : (100000 : Nat) <= sizeLine := by decide
 have small : ∀ {n : Int}, 0 < n -> n < 1000 -> BG 8000 n := fun h0 h1 => (bg_of (n := 10) (by omega) (by omega)).mono (by decide)
 have tr : ∀ {H1 H2 H3 : Hp}, But b H1 H2 -> But b H2 H3 -> But b H1 H3 := fun x y c h => (y c h).trans (x c h)
 refine ⟨_, rfl, b, 5, rfl, by decide, small (by decide) (by decide), hb, fun way H1 w0 w1 b1 t1 => ?_⟩
 refine ⟨_, rfl, rfl, _, rfl, ?_⟩
 refine ite2 (fun _ => ?_) (fun _ => ?_)
 ·exact ⟨_, rfl, b, 4, rfl, by decide, small (by decide) (by decide), b1, fun r H2 r0 r1 b2 t2 => q r H2 ((bg_of (n := 10) r0 (by omega)).mono (by decide)) b2 (tr t1 t2)⟩
 refine ⟨_, rfl, rfl, _, rfl, ?_⟩
 refine ite2 (fun _ => ?_) (fun _ => ?_)
 ·exact ⟨_, rfl, b, 30, rfl, by decide, small (by decide) (by decide), b1, fun r H2 r0 r1 b2 t2 => q r H2 ((bg_of (n := 10) r0 (by omega)).mono (by decide)) b2 (tr t1 t2)⟩
 refine ⟨_, rfl, rfl, _, rfl, ?_⟩
 refine ite2 (fun _ => ?_) (fun _ => ?_)
 ·refine ⟨_, rfl, b, 12, rfl, by decide, small (by decide) (by decide), b1, fun x H2 x0 x1 b2 t2 => ⟨_, _, rfl, rfl, _, rfl, b, 12, rfl, by decide, small (by decide) (by decide), b2, fun y H3 y0 y1 b3 t3 => ⟨_, _, rfl, rfl, _, _, rfl, rfl, .inl ⟨by omega, by omega⟩, _, rfl, b, 12, rfl, by decide, small (by decide) (by decide), b3, fun z H4 z0 z1 b4 t4 => ⟨_, _, rfl, rfl, _, _, rfl, rfl, .inr ⟨by omega, by omega⟩, ?_⟩⟩⟩⟩
  have e1 : BG 5 (1 + x) := bg_of (by omega) (by omega)
  have e2 : BG 5 (1 + y) := bg_of (by omega) (by omega)
  have e3 : BG 5 (1 + z) := bg_of (by omega) (by omega)
  exact q _ H4 (((e1.mul e2).mul e3).mono (by decide)) b4 (tr (tr (tr t1 t2) t3) t4)
 refine ⟨_, rfl, rfl, _, rfl, ?_⟩
 refine ite2 (fun _ => ?_) (fun _ => ?_)
 ·have e20 : BG 70 ((10 : Int) ^ (20 : Int).toNat) := ⟨by decide, by decide⟩
  exact ⟨_, rfl, _, _, rfl, rfl, ⟨by decide, by decide, by decide⟩, b, _, rfl, by decide, e20.mono (by decide), b1, fun r H2 r0 r1 b2 t2 => q r H2 ((e20.le r0 (Int.le_of_lt r1)).mono (by decide)) b2 (tr t1 t2)⟩
 refine ⟨_, rfl, b, 40, rfl, by decide, small (by decide) (by decide), b1, fun m H2 m0 m1 b2 t2 => ⟨_, _, rfl, rfl, _, rfl, by omega, by omega, ?_⟩⟩
 have p40' : ∀ i : Nat, i < 41 -> ((0 : Int) <= 10 ^ i /\ (10 : Int) ^ i < 2 ^ 134) /\ 1 <= (10 : Int) ^ i := by decide +kernel
 have p40 : ∀ i : Nat, i <= 40 -> BG 134 ((10 : Int) ^ i) /\ 1 <= (10 : Int) ^ i := fun i hi => p40' i (by omega)
 refine for_range (lo := 0) (fun i σ H' => H' = H2 /\ ∃ k, σ = [some (.ref b), some (.int way), some (.int (10 ^ i)), k]) ⟨rfl, _, rfl⟩ (fun i σ H' hi hP => ?_) (fun σ H' hP => ?_)
 ·obtain ⟨rfl, k, rfl⟩ := hP
  refine ⟨_, rfl, _, _, rfl, rfl, .inr ⟨by decide, by decide⟩, rfl, some (.int (0 + (i : Int))), ?_⟩
  show [some (V.ref b), some (V.int way), some (V.int (10 ^ i * 10)), some (V.int (0 + (i : Int)))] = _
  rw [Int.pow_succ]
 ·obtain ⟨rfl, k, rfl⟩ := hP
  refine ⟨_, rfl, _, rfl, b, 2, rfl, by decide, small (by decide) (by decide), b2, fun r H3 r0 r1 b3 t3 => ⟨_, _, rfl, rfl, ?_⟩⟩
  obtain ⟨pB, p1⟩ := p40 (1 + m).toNat (by omega)
  exact q _ H3 ((pB.le (by omega) (by omega)).mono (by decide)) b3 (tr (tr t1 t2) t3)
theorem scShare : FnScope ["_law_box_here", "_law_top", "_law_bottom", "_law_by"] ["_law_box_here"] (defScope s_law_share) := ⟨rfl, rfl, rfl, by decide +kernel, rfl, by decide +kernel, by decide +kernel⟩
theorem ok_share {f a1 a2 : Addr} {fd d1 d2 : FuncData} (F : Fun K "_law_share" "_law_share" s_law_share f fd) (D1 : Def P w K mg base 2 "_law_part" ["_law_box_here"] spPart a1 d1) (D2 : Def P w K mg base 1 "_law_common" ["_law_one", "_law_other"] spCommon a2 d2) : FnOk P w K mg base CX0 3 f fd ["_law_box_here"] spShare := by
 refine F.ok scShare (fun vs H Q E h => ?_) (fun cdv A outer s H vs Q E hr h => ?_)
 ·obtain ⟨b, rfl, _⟩ := h
  rfl
 obtain ⟨b, rfl, hb, q⟩ := h
 have hr1 : Room 1 _ := hr.mono (by decide)
 refine ⟨_, pss_cons (ps_set (i := 1) scShare.nd rfl (Or.inl rfl) (pe_call D1.ok hr rfl D1.m D1.k D1.b .nil pass0 (pa_cons (pv 0) pa_nil)))
  (pss_cons (ps_set (i := 2) scShare.nd rfl (Or.inl rfl) (pe_op op_add pe_int (pe_call D1.ok hr rfl D1.m D1.k D1.b .nil pass0 (pa_cons (pv 0) pa_nil))))
  (pss_cons (ps_set (i := 3) scShare.nd rfl (Or.inl rfl) (pe_call D2.ok hr1 rfl D2.m D2.k D2.b .nil pass0 (pa_cons (pv 1) (pa_cons (pv 2) pa_nil))))
  (pss_one (ps_ret (pe_tup (pa_cons (pe_op op_fdivB (pv 1) (pv 3)) (pa_cons (pe_op op_fdivB (pv 2) (pv 3)) pa_nil))))))), ?_⟩
 refine ⟨_, rfl, b, rfl, hb, fun x H1 xB b1 t1 => ⟨_, rfl, b, rfl, b1, fun y H2 yB b2 t2 => ⟨_, _, rfl, rfl, ?_⟩⟩⟩
 have y1 : 1 <= 1 + y := by have := yB.1; omega
 have yB' : BG 136 (1 + y) := (bg_of (n := 135) (i := 1) (by decide) (by decide)).add yB
 have gp := gc_pos xB.1 (show 0 < 1 + y by omega)
 have gb : (gc x (1 + y)).natAbs < 2 ^ 8000 := (yB'.le (gc_nn _ _) (gc_le (by omega))).abs (by decide)
 refine ⟨_, rfl, _, rfl, x, 1 + y, rfl, xB.1, by omega, _, rfl, _, rfl, _, _, rfl, rfl, ⟨gp, gb⟩, _, rfl, _, rfl, _, _, rfl, rfl, ⟨gp, gb⟩, (by show 2 <= sizeLine; decide), fun r hr' => ?_⟩
 obtain ⟨ok1, _⟩ := low_ok xB.1 y1
 have aw : Away b H H2 := t1.away.trans t2.away
 exact q r _ _ _ (aw.free b2 hr') upd_same ok1 ((xB.div (gc_nn _ _)).mono (by decide)) ((yB'.div (gc_nn _ _)).mono (by decide)) (b2.same (same_new hr' _)) (aw.trans (away_of (same_new hr' _)))
end
end S
set_option Elab.async false
set_option linter.all false
set_option maxRecDepth 100000
namespace S
open PySem L2
def spLText : Sp := fun vs H Q _ => ∃ t a b, vs = [.ref t] /\ H t = some (.tup [.int a, .int b]) /\ BG 1400 a /\ BG 1400 b /\ Q (.str (textOf a b)) H
def spLNum : Sp := fun vs H Q _ => ∃ z, vs = [.str z] /\ z.length <= 100000 /\ (∀ c ∈ cl z, c < 128) /\ ∀ H', Same H H' -> Q (plainB (.str z) 400) H'
theorem notIn_nil {l : List Nat} {s : List Nat} : (l.filter fun c => !decide (c ∈ s)) = [] ↔ l.all (fun c => decide (c ∈ s)) = true := by
 induction l with
 | nil => simp
 | cons a r ih =>
  by_cases h : a ∈ s
  ·simp only [List.filter_cons, h, decide_true, Bool.not_true, Bool.false_eq_true, if_false, List.all_cons, Bool.true_and]
   exact ih
  ·simp [List.filter_cons, h]
theorem DVs.signs {K : PySem.W.Frag} {H : Hp} : ∀ cs : List Nat, DVs K H (cs.map fun c => V.str ⟨#[c]⟩) (cs.map fun c => PyData.str ⟨#[c]⟩)
 | [] => .nil
 | c :: r => .cons (.str _) (DVs.signs r)
theorem ok_sign : ∀ c, c < 128 -> PyData.strOk ⟨#[c]⟩ = true := by decide +kernel
def Asc (z : Str) : Prop := ∀ c ∈ cl z, c < 128
theorem lay_signs : ∀ cs : List Nat, (∀ c ∈ cs, c < 128) -> PyData.canLayAll0 (cs.map fun c => PyData.str ⟨#[c]⟩) = true
 | [], _ => rfl
 | c :: r, h => by
  show (PyData.strOk ⟨#[c]⟩ && PyData.canLayAll0 (r.map fun c => PyData.str ⟨#[c]⟩)) = true
  rw [ok_sign c (h c (by simp)), lay_signs r (fun x hx => h x (by simp [hx]))]; rfl
theorem dep_signs : ∀ cs : List Nat, PyData.depthAll (cs.map fun c => PyData.str ⟨#[c]⟩) <= 1
 | [] => by simp [PyData.depthAll]
 | c :: r => by
  have := dep_signs r
  simp only [List.map_cons, PyData.depthAll, PyData.depth]
  omega
def badTo (z : Str) (i : Nat) : List Nat := ((cl z).take i).filter fun c => !decide (c ∈ cl FIG)
theorem badTo_succ {z : Str} {i c : Nat} (h : z.cps[i]? = some c) : badTo z (i + 1) = badTo z i ++ (if c ∈ cl FIG then [] else [c]) := by
 unfold badTo
 have h' : (cl z)[i]? = some c := by rw [<- h]; exact Array.getElem?_toList
 rw [List.take_succ, h', List.filter_append]
 congr 1
 by_cases k : c ∈ cl FIG
 ·rw [if_pos k, List.filter_eq_nil_iff.mpr]
  intro a ha
  rw [show a = c by simpa using ha, decide_eq_true k]
  simp
 ·rw [if_neg k]
  show List.filter (fun c => !decide (c ∈ cl FIG)) [c] = [c]
  rw [List.filter_cons, decide_eq_false k]
  rfl
theorem badTo_le (z : Str) (i : Nat) : (badTo z i).length <= z.length := Nat.le_trans (List.length_filter_le _ _) (by rw [List.length_take]; have : (cl z).length = z.length := Array.length_toList; omega)
theorem badTo_all (z : Str) : badTo z z.cps.size = (cl z).filter fun c => !decide (c ∈ cl FIG) := by
 unfold badTo
 rw [List.take_of_length_le (by rw [Array.length_toList]; exact Nat.le_refl _)]
section
variable {P : Program} {w : World} {K : PySem.W.Frag} {mg : Str -> Option Value} {base : Heap}
theorem scLText : FnScope ["_law_share_here"] ["_law_share_here"] (defScope s_law_text) := ⟨rfl, rfl, rfl, by decide +kernel, rfl, by decide +kernel, by decide +kernel⟩
theorem ok_ltext {f : Addr} {fd : FuncData} (F : Fun K "_law_text" "_law_text" s_law_text f fd) (T : Txt mg) : FnOk P w K mg base CX0 1 f fd ["_law_share_here"] spLText := by
 refine F.ok scLText (fun vs H Q E h => ?_) (fun cdv A outer s H vs Q E hr h => ?_)
 ·obtain ⟨t, a, b, rfl, _⟩ := h
  rfl
 obtain ⟨t, a, b, rfl, ht, aB, bB, q⟩ := h
 refine ⟨_, pss_cons (ps_if (pt_cmpR op_eq (pe_ix ix_tup (pv 0) pe_int (fun _ _ => rfl)) pe_int (nomark _)) (pss_one (ps_ret (pe_callTy call_str_int rfl T.str PyProof.Rows.boot_str (pa_cons (pe_ix ix_tup (pv 0) pe_int (fun _ _ => rfl)) pa_nil)))) pss_nil)
  (pss_one (ps_ret (pe_op op_add_str (pe_op op_add_str (pe_callTy call_str_int rfl T.str PyProof.Rows.boot_str (pa_cons (pe_ix ix_tup (pv 0) pe_int (fun _ _ => rfl)) pa_nil)) pe_str) (pe_callTy call_str_int rfl T.str PyProof.Rows.boot_str (pa_cons (pe_ix ix_tup (pv 0) pe_int (fun _ _ => rfl)) pa_nil))))), ?_⟩
 have la := int_len aB
 have lb := int_len bB
 have s1 : 1000 <= sizeLine := by decide
 have ls : (("/" : Str)).length = 1 := by decide
 refine ⟨_, rfl, t, _, _, _, rfl, rfl, SqT.of ht, rfl, rfl, _, rfl, ?_⟩
 unfold textOf at q
 by_cases c : b = 1
 ·rw [if_pos c] at q
  rw [decide_eq_true (congrArg V.int c)]
  exact iteT ⟨_, rfl, t, _, _, _, rfl, rfl, SqT.of ht, rfl, a, rfl, log_lt aB, q⟩
 ·rw [if_neg c] at q
  rw [decide_eq_false (fun z => c (V.int.inj z))]
  exact iteF ⟨_, rfl, t, _, _, _, rfl, rfl, SqT.of ht, rfl, a, rfl, log_lt aB, _, _, rfl, rfl, by omega, _, rfl, t, _, _, _, rfl, rfl, SqT.of ht, rfl, b, rfl, log_lt bB, _, _, rfl, rfl, by rw [PySem.strLen_append]; omega, q⟩
theorem scLNum : FnScope ["_law_word"] ["_law_word"] (defScope s_law_number) := ⟨rfl, rfl, rfl, by decide +kernel, rfl, by decide +kernel, by decide +kernel⟩
theorem ok_lnum {f : Addr} {fd : FuncData} (F : Fun K "_law_number" "_law_number" s_law_number f fd) (T : Txt mg) : FnOk P w K mg base CX0 1 f fd ["_law_word"] spLNum := by
 refine F.ok scLNum (fun vs H Q E h => ?_) (fun cdv A outer s H vs Q E hr h => ?_)
 ·obtain ⟨z, rfl, _⟩ := h
  rfl
 obtain ⟨z, rfl, hz, asc, q⟩ := h
 have s1 : 100000 <= sizeLine := by decide
 refine ⟨_, pss_cons (ps_if (PW.pt (pw_or (pt_not (pt_chain op_le op_le pe_int (pe_callB call_len_str rfl T.len PySem.boot_len (pa_cons (pv 0) pa_nil)) pe_int)) (pw_or1 (PW.pt (pw_and (pt_cmpR op_eq (pe_ix ix_str (pv 0) pe_int (fun _ _ => rfl)) pe_str (nomark _)) (pw_and1 (pt_cmpR op_ne (pv 0) pe_str (nomark _)))))))) (pss_one (ps_ret pe_non)) pss_nil)
  (pss_cons (ps_if (pt_cmpR (op_neD hr) (pe_compL (xs := ["_law_sign"]) (fv := []) rfl (by decide +kernel) trivial (pi_str (pv 0)) (fun _ _ _ _ _ => pg_name (i := 0) (ndT (by decide +kernel)) rfl (Or.inl rfl)) (fun _ _ _ _ _ => ptl_one (pt_cmpR op_notin_str (pv 0) pe_str (by with_unfolding_all rfl))) (fun _ _ _ _ _ => pv 0)) (pe_lst pa_nil) (nomark _)) (pss_one (ps_ret pe_non)) pss_nil)
  (pss_one (ps_ret (pe_callTy call_intS rfl T.int PyProof.Rows.boot_int (pa_cons (pv 0) pa_nil))))), ?_⟩
 have e0 : plainB (.str z) 400 = if ((fitsLen z 400 && allIn z FIG) && !zeroB z) = true then .int ((PySem.NumText.digitsVal z.cps.toList : Nat) : Int) else .non := rfl
 rw [e0] at q
 have hlen : z.cps.toList.length = z.length := Array.length_toList
 refine ⟨_, rfl, z, rfl, by omega, _, _, rfl, rfl, _, rfl, ?_⟩
 by_cases h1 : 1 <= (z.length : Int)
 case neg =>
  unfold fitsLen at q
  rw [decide_eq_false h1, Bool.false_and, Bool.false_and, Bool.false_and, if_neg (by simp)] at q
  rw [decide_eq_false h1]
  exact iteF ⟨_, rfl, iteT (q H (Same.refl H))⟩
 rw [decide_eq_true h1]
 refine iteT ⟨_, _, rfl, rfl, _, rfl, ?_⟩
 by_cases h2 : (z.length : Int) <= 400
 case neg =>
  unfold fitsLen at q
  rw [decide_eq_false h2, Bool.and_false, Bool.false_and, Bool.false_and, if_neg (by simp)] at q
  rw [decide_eq_false h2]
  exact iteT (q H (Same.refl H))
 rw [decide_eq_true h2]
 have hf : fitsLen z 400 = true := by unfold fitsLen; rw [decide_eq_true h1, decide_eq_true h2]; rfl
 rw [hf, Bool.true_and] at q
 have h0 : atI z.cps.toList 0 = some (z.cps.toList.headD 0) := by
  refine atI_nat (j := 0) ?_
  cases hl : z.cps.toList with
  | nil => rw [hl] at hlen; simp at hlen; omega
  | cons a r => rfl
 refine iteF ⟨_, rfl, z, _, _, rfl, rfl, by omega, h0, rfl, _, rfl, ?_⟩
 by_cases z1 : V.str ⟨#[z.cps.toList.headD 0]⟩ = V.str "0"
 case' pos =>
  rw [decide_eq_true z1]
  refine iteT ⟨_, rfl, rfl, _, rfl, ?_⟩
  by_cases z2 : V.str z = V.str "0"
  case neg =>
   have zb : zeroB z = true := by unfold zeroB; rw [decide_eq_true z1, decide_eq_false z2]; rfl
   rw [zb, Bool.not_true, Bool.and_false, if_neg (by simp)] at q
   rw [decide_eq_false z2]
   exact iteT (q H (Same.refl H))
  case' pos =>
   have zb : zeroB z = false := by unfold zeroB; rw [decide_eq_true z2, Bool.not_true, Bool.and_false]
   rw [decide_eq_true z2]
   refine iteF ?_
 case' neg =>
  have zb : zeroB z = false := by unfold zeroB; rw [decide_eq_false z1, Bool.false_and]
  rw [decide_eq_false z1]
  refine iteF (iteF ?_)
 all_goals
  rw [zb, Bool.not_false, Bool.and_true] at q
  refine ⟨_, rfl, z, rfl, comp_str (fun i D H' => Same H H' /\ H' D = some (.lst ((badTo z i).map fun c => V.str ⟨#[c]⟩))) (fun D hD => ⟨same_new hD _, upd_same⟩) (fun i D H' c hD hc hP => ?_) (fun D H' hD hP => ?_)⟩
  ·obtain ⟨g, hl⟩ := hP
   refine ⟨rfl, ?_⟩
   refine ⟨_, rfl, _, _, rfl, rfl, _, rfl, ?_⟩
   rw [PySem.StrLaws.found_one]
   have e1 := badTo_succ hc
   by_cases k : c ∈ cl FIG
   ·rw [if_pos k, List.append_nil] at e1
    have k' : decide (c ∈ FIG.cps.toList) = true := decide_eq_true k
    rw [show decide (c ∈ (Str.ofString "0123456789").cps.toList) = true from k']
    exact iteF ⟨g, by rw [e1]; exact hl⟩
   ·rw [if_neg k] at e1
    have k' : decide (c ∈ FIG.cps.toList) = false := decide_eq_false k
    rw [show decide (c ∈ (Str.ofString "0123456789").cps.toList) = false from k']
    refine iteT ⟨_, rfl, _, hl, ?_, fun b o e => ?_, ?_⟩
    ·rw [List.length_map]
     have := badTo_le z i
     omega
    ·rw [upd_ne (ne_of_none e hD)]; exact g _ _ e
    ·rw [upd_same, e1, List.map_append]; rfl
  ·obtain ⟨g, hl⟩ := hP
   rw [badTo_all] at hl
   have asc2 : ∀ c ∈ (cl z).filter fun c => !decide (c ∈ cl FIG), c < 128 := fun c hc => asc c (List.mem_filter.mp hc).1
   have nil_iff := notIn_nil (l := cl z) (s := cl FIG)
   generalize (cl z).filter (fun c => !decide (c ∈ cl FIG)) = bad at hl asc2 nil_iff
   refine ⟨(by show 0 <= sizeLine; decide), fun l hl' => ?_⟩
   have g2 := same_new hl' (.lst [])
   have dp := dep_signs bad
   refine ⟨.list (bad.map fun c => PyData.str ⟨#[c]⟩), .list [], .lst (SqL.of (g2 _ _ hl)) (DVs.signs bad), .lst (SqL.of upd_same) .nil, lay_signs bad asc2, rfl, (by simp only [PyData.depth]; omega), _, rfl, ?_⟩
   have e : PyData.eqv (.list (bad.map fun c => PyData.str ⟨#[c]⟩)) (.list []) = bad.isEmpty := by cases bad <;> rfl
   rw [e]
   have q' := q _ (g.trans g2)
   have ha : allIn z FIG = true ↔ bad = [] := nil_iff.symm
   cases hb : bad with
   | nil =>
    rw [if_pos (ha.mpr hb)] at q'
    have it := intText_digits (digits_of (ha.mpr hb)) (fun e => by rw [e] at hlen; simp at hlen; omega) (by omega)
    exact iteF ⟨_, rfl, z, _, rfl, it, by omega, q'⟩
   | cons a r =>
    have na : ¬ allIn z FIG = true := fun z' => by rw [ha.mp z'] at hb; cases hb
    rw [if_neg na] at q'
    exact iteT q'
end
end S
set_option Elab.async false
set_option linter.all false
set_option maxRecDepth 100000
namespace L2
open PySem PySem.Spec PyProof.Rows
section
variable {X : Cx}
theorem peK_errF {K : PySem.W.Frag} {fld : Str} {pos : Pos} {e : Expr} {ta : TE} (hK : X.K = K) (he : PE X e ta) (hb : attributeBase e fld X.env (eval e X.env) = eval e X.env) : PE X (.Attribute e fld pos) (tErrF K ta fld) := by subst hK; exact pe_errF he hb
end
end L2
namespace S
open PySem L2
def Ans (H' : Hp) (r : Addr) (x : V) : Option (Int × Int) -> Prop
 | some (a, b) => ∃ p, H' p = some (.tup [.int a, .int b]) /\ H' r = some (.tup [.str "told", .ref p])
 | none => H' r = some (.tup [.str "none", x])
def spTold : Sp := fun vs H Q _ => ∃ x, vs = [x] /\ Th H x /\ ∀ r H', Same H H' -> Ans H' r x (due x) -> Q (.ref r) H'
section
variable {P : Program} {w : World} {K : PySem.W.Frag} {mg : Str -> Option Value} {base : Heap}
theorem scTold : FnScope ["_law_thing", "e"] ["_law_thing"] (defScope s_law_told) := ⟨rfl, rfl, rfl, by decide +kernel, rfl, by decide +kernel, by decide +kernel⟩
theorem ok_told {f a1 C fI : Addr} {bm : List Value} {fd d1 : FuncData} (F : Fun K "_law_told" "_law_told" s_law_told f fd) (D1 : DefE P w K mg base 4 "share_in" ["text"] (spShareIn C) a1 d1) (ec : ErrC K C fI bm) (nf : PySem.W.findIn K (.ref C) "found" = some none) (mC : mg "NoShare" = some (.ref C)) (ex : PySem.W.exmOne K (.ref C) (.ref C) = some true) :
  FnOk P w K mg base CX0 5 f fd ["_law_thing"] spTold := by
 refine F.ok scTold (fun vs H Q E h => ?_) (fun cdv A outer s H vs Q E hr h => ?_)
 ·obtain ⟨x, rfl, _⟩ := h
  rfl
 obtain ⟨x, rfl, hx, q⟩ := h
 refine ⟨_, pss_one (ps_try rfl rfl (fun pn E => pss_one (ps_ret (pe_tup (pa_cons pe_str (pa_cons (pe_call D1.ok hr rfl D1.m D1.k D1.b .nil passT (pa_cons (pv 0) pa_nil)) pa_nil)))))
  (ph_as (i := 1) scTold.nd rfl rfl rfl mC (fun e => pss_one (ps_ret (pe_tup (pa_cons pe_str (pa_cons (peK_errF (K := K) rfl (pv 1) rfl) pa_nil))))) ph_nil)), ?_⟩
 refine ⟨fun cls od H' => ∃ dx, cls = .ref C /\ od = some dx /\ Same H H' /\ H' dx = some (.xd [("found", x)]) /\ due x = none, ?_, fun C' dx σ' H' hE hl => ?_⟩
 ·refine ⟨_, rfl, x, rfl, hx, fun a b hd p H' g hp => ⟨(by show 2 <= sizeLine; decide), fun r hr' => ?_⟩, fun hd dx H' g _ h1 => ⟨dx, rfl, rfl, g, h1, hd⟩⟩
  have g2 := same_new hr' (.tup [.str "told", .ref p])
  refine q r _ (g.trans g2) ?_
  rw [hd]
  exact ⟨p, g2 _ _ hp, upd_same⟩
 ·obtain ⟨dx', e1, e2, g, h1, hd⟩ := hE
  cases e1
  cases e2
  refine ⟨true, ex, ?_⟩
  rw [if_pos rfl]
  intro e he
  have hl2 : σ'.length = 2 := hl
  have g2 := same_new he (errH e C dx)
  match σ', hl2 with
  | [u, v], _ =>
   refine ⟨_, rfl, e, C, dx, fI, bm, _, _, rfl, upd_same, ec, nf, g2 _ _ h1, rfl, (by show 2 <= sizeLine; decide), fun r hr' => ?_⟩
   have g3 := same_new hr' (.tup [.str "none", x])
   refine q r _ ((g.trans g2).trans g3) ?_
   rw [hd]
   exact upd_same
theorem scDue : FnScope ["_law_thing", "_law_numbers"] ["_law_thing"] (defScope s_law_due) := ⟨rfl, rfl, rfl, by decide +kernel, rfl, by decide +kernel, by decide +kernel⟩
end
end S
set_option Elab.async false
set_option linter.all false
set_option maxRecDepth 100000
namespace S
open PySem L2
abbrev pn (w : Str) : V := plainB (.str w) 400
theorem pn_cases (w : Str) : pn w = .non \/ ∃ n : Int, 0 <= n /\ pn w = .int n := by
 have e0 : plainB (.str w) 400 = if (madeB (.str w) FIG 400 && !zeroB w) = true then .int ((PySem.NumText.digitsVal w.cps.toList : Nat) : Int) else .non := rfl
 show plainB (.str w) 400 = .non \/ ∃ n : Int, 0 <= n /\ plainB (.str w) 400 = .int n
 rw [e0]
 split
 ·exact .inr ⟨_, Int.natCast_nonneg _, rfl⟩
 ·exact .inl rfl
theorem pn_slash {w : Str} (h : 47 ∈ cl w) : pn w = .non := by
 have e0 : plainB (.str w) 400 = if ((fitsLen w 400 && allIn w FIG) && !zeroB w) = true then .int ((PySem.NumText.digitsVal w.cps.toList : Nat) : Int) else .non := rfl
 have a : allIn w FIG = false := by
  cases c : allIn w FIG with
  | false => rfl
  | true =>
   have h1 := List.all_eq_true.mp c 47 h
   have h2 : (47 : Nat) ∈ FIG.cps.toList := of_decide_eq_true h1
   exact absurd h2 (by decide +kernel)
 show plainB (.str w) 400 = .non
 rw [e0, a, Bool.and_false, Bool.false_and, if_neg (by simp)]
theorem gc_one1 {n : Int} (h : 0 <= n) : gc n 1 = 1 := by
 unfold gc
 show ((Nat.gcd n.toNat 1 : Nat) : Int) = 1
 rw [Nat.gcd_one_right]; rfl
def two (u v : V) : Option (Int × Int) := match u, v with
 | .int n, .int m => if 2 <= m /\ gc n m = 1 then some (n, m) else none
 | _, _ => none
theorem due_one {z : Str} (h : (cut z).2.1 = "") (e : (cut z).1 = z) : (pn z = .non -> dueS z = none) /\ ∀ n, 0 <= n -> pn z = .int n -> dueS z = some (n, 1) := by
 have w : writ z = some (pn z, .int 1) := by unfold writ; rw [if_pos h, e]
 refine ⟨fun p => ?_, fun n h0 p => ?_⟩
 ·unfold dueS; rw [w, p]
 ·unfold dueS; rw [w, p]
  exact if_pos ⟨h0, by decide, gc_one1 h0⟩
theorem due_two {z : Str} (h : (cut z).2.1 ≠ "") : dueS z = two (pn (cut z).1) (pn (cut z).2.2) := by
 show dueS z = two (plainB (.str (cut z).1) 400) (plainB (.str (cut z).2.2) 400)
 unfold dueS writ
 rw [if_neg h]
 rcases pn_cases (cut z).2.2 with pb | ⟨m, m0, pb⟩
 ·rw [show plainB (.str (cut z).2.2) 400 = .non from pb, if_neg (by simp)]
  rcases pn_cases (cut z).1 with pa | ⟨n, n0, pa⟩
  ·rw [show plainB (.str (cut z).1) 400 = .non from pa]; rfl
  ·rw [show plainB (.str (cut z).1) 400 = .int n from pa]; rfl
 ·rw [show plainB (.str (cut z).2.2) 400 = .int m from pb]
  rcases pn_cases (cut z).1 with pa | ⟨n, n0, pa⟩
  ·rw [show plainB (.str (cut z).1) 400 = .non from pa]
   by_cases c : V.int m = V.int 1
   ·rw [if_pos c]; rfl
   ·rw [if_neg c]; rfl
  ·rw [show plainB (.str (cut z).1) 400 = .int n from pa]
   show _ = if 2 <= m /\ gc n m = 1 then some (n, m) else none
   by_cases c : V.int m = V.int 1
   ·rw [if_pos c]
    have := V.int.inj c
    rw [if_neg (by omega)]
   ·rw [if_neg c]
    have c' : m ≠ 1 := fun e => c (by rw [e])
    show (if isSh n m then some (n, m) else none) = _
    by_cases d : 2 <= m /\ gc n m = 1
    ·rw [if_pos d, if_pos ⟨n0, by omega, d.2⟩]
    ·rw [if_neg d, if_neg (fun e => d ⟨by have := e.2.1; omega, e.2.2⟩)]
theorem asc_parts {z : Str} (h : Asc z) : ∀ p ∈ parts z, Asc p := by
 have hj := parts_join z
 suffices H : ∀ ps : List Str, (∀ c ∈ cl (Str.join ⟨#[47]⟩ ps), c < 128) -> ∀ p ∈ ps, Asc p from H (parts z) (by rw [hj]; exact h)
 intro ps
 induction ps with
 | nil => intro _ p hp; cases hp
 | cons a r ih =>
  intro hc p hp
  cases r with
  | nil =>
   rw [List.mem_singleton] at hp
   subst hp
   exact hc
  | cons b r =>
   rw [cl_join] at hc
   rcases List.mem_cons.mp hp with rfl | hp
   ·exact fun c m => hc c (by simp [m])
   ·exact ih (fun c m => hc c (by simp only [List.mem_append, List.mem_cons]; exact .inr (.inr m))) p hp
theorem len_parts {z : Str} : (∀ p ∈ parts z, p.length <= z.length) /\ (parts z).length <= z.length + 1 := by
 have hj := parts_join z
 suffices H : ∀ ps : List Str, (∀ p ∈ ps, p.length <= (Str.join ⟨#[47]⟩ ps).length) /\ ps.length <= (Str.join ⟨#[47]⟩ ps).length + 1 from by
  have := H (parts z); rw [hj] at this; exact this
 intro ps
 induction ps with
 | nil => exact ⟨fun p hp => absurd hp (by simp), by simp⟩
 | cons a r ih =>
  cases r with
  | nil => exact ⟨fun p hp => by rw [List.mem_singleton] at hp; subst hp; exact Nat.le_refl _, by simp⟩
  | cons b r =>
   have e : (Str.join ⟨#[47]⟩ (a :: b :: r)).length = a.length + 1 + (Str.join ⟨#[47]⟩ (b :: r)).length := by rw [join_two, PySem.strLen_append, PySem.strLen_append]; rfl
   rw [e]
   refine ⟨fun p hp => ?_, by have := ih.2; simp only [List.length_cons] at this ⊢; omega⟩
   rcases List.mem_cons.mp hp with rfl | hp
   ·omega
   ·have := ih.1 p hp; omega
end S
set_option Elab.async false
set_option linter.all false
set_option maxRecDepth 100000
namespace L2
open PySem PySem.Spec PyProof.Rows
structure PEH (X : Cx) (e : Expr) (t : TE) : Prop where
 out : PE X e t
structure PAH (X : Cx) (es : List Expr) (t : TA) : Prop where
 out : PA X es t
structure PSH (X : Cx) (st : List Stmt) (t : TS) : Prop where
 out : PSs X st t
section
variable {X : Cx}
end
end L2
namespace L2
open PySem PySem.Spec PyProof.Rows
end L2
namespace L2
open PySem PySem.Spec PyProof.Rows
structure PS1 (X : Cx) (st : Stmt) (t : TS) : Prop where
 out : PS X st t
structure PIH (X : Cx) (tg e : Expr) (t : TI) : Prop where
 out : PI X tg e t
section
variable {X : Cx}
end
end L2
set_option Elab.async false
set_option linter.all false
set_option maxRecDepth 100000
namespace L2
open PySem PySem.Spec PyProof.Rows
section
variable {X : Cx} {scope : Scope} {xs : List Str} {fv : List (Str × Nat)} {elt tg iter : Expr} {ifs : List Expr} {pos spos py : Pos} {tt : TT} {te : TE} {g : TG} {y : Str} {i : Nat}
theorem ps_setCT {wi : TI} (hN : X.N.Nodup) (hi' : X.N[i]? = some y) (hy : X.env.scope.names.lookup y = some .local) (hc : X.calm = true) (hs : compOkT scope xs fv = true) (hv : FvOk X scope fv) (hi : PI X tg iter wi) (hg : ∀ C s₀ H₀ ex pn, PG (cxT X scope xs fv C s₀ H₀ ex pn) tg g)
  (ht : ∀ C s₀ H₀ ex pn, PTl (cxT X scope xs fv C s₀ H₀ ex pn) ifs tt) (he : ∀ C s₀ H₀ ex pn, PE (cxT X scope xs fv C s₀ H₀ ex pn) elt te)
  (hsw : swapsWith (.ListComp elt [⟨tg, iter, ifs, 0⟩] scope pos) (some (.Name y py)) spos.line X.env = pure true := by rfl) (hf : ∀ x, foldedSetIterable iter X.env x = pure x := by intro _; rfl) :
  PS X (.Assign [.Name y py] (.ListComp elt [⟨tg, iter, ifs, 0⟩] scope pos) spos) (tAsg (tCompT (.lst []) wi xs fv g tt (tbL te)) (gName i)) := by
 intro pins s σ H D I h
 have S := compOkT_of hs
 rw [exec_Assign_Name_used _ _ _ _ hsw]; refine wpAny_bind (wpAny_standAt (wpAny_bind ?_))
 show wpAny _ X.A (do let _ <- comprehension (.ListComp elt [⟨tg, iter, ifs, 0⟩] scope pos) scope X.env _ (newList []) false (eval iter X.env) (some (assign (.Name y py) X.env))) _ _ s
 refine wpAny_bind (wpAny_mono (wpAny_comprehension_free (use := some (assign (.Name y py) X.env)) (Q := fun _ s' => SP X pins D .next s') rfl hf (hclT I S hv) S.kind S.names (thn (hi pins s σ H _ I h) fun v s1 h1 => thn h1 fun itv s2 h2 => ?_)) (fun _ s' h' => wpAny_pure (wpAny_pure h')) fun _ _ z => z)
 obtain ⟨it, fp, tn, J, H2, e, I2, T, st2, f2, hw⟩ := h2
 subst e
 refine comp_blockT (e := .ListComp elt [⟨tg, iter, ifs, 0⟩] scope pos) (iter := iter) (RR := fun acc C => compPost (model X.prog X.w) X.A X.xe (some (assign (.Name y py) X.env)) (fun _ s' => SP X pins D .next s') acc C) hc S hv ht hg (fun C s₀ H₀ ex pn => pb_list (he C s₀ H₀ ex pn)) new_list (fun _ _ _ => rfl) (fun _ _ _ => rfl) (fun it D env => compTurn_list ..) (fun _ _ _ _ _ a b => codeAny_compStart_list a b) I2 T st2 f2 hw ?_
 intro L C s' H' m I' q hn fC
 show wpAny _ X.A (assign (.Name y py) X.env (.ref L)) _ _ s'
 refine wpAny_assign_Name (store_ok2 I' hN hi' (.inl hy) (v := .ref L) rfl (fun s'' I'' hb => ?_) (.inr hy))
 obtain ⟨a, sb, ha⟩ := hb
 have na : C ≠ a := by
  rcases ha with z | z
  ·rw [z]; exact fC.2.1
  ·exact fun w => fC.2.2.2.2.1 y a z w.symm
 have hn2 : s''.heap.Ns C m := hn.sameBut sb na
 refine ⟨m, hn2, fun h' hs' => ⟨_, H', I''.turned (t' := s''.toks) (fun b o hb e => (hs'.2 b hb).trans e) fC.1 fC.2.1 fC.2.2.2.1 fC.2.2.2.2.1 fC.2.2.2.2.2, q⟩⟩
end
end L2
set_option Elab.async false
set_option linter.all false
set_option maxRecDepth 100000
namespace S
open PySem L2
def spDue : Sp := fun vs H Q _ => ∃ x, vs = [x] /\ Th H x /\ (∀ z, x = .str z -> Asc z) /\ ∀ r H', Same H H' -> Ans H' r x (due x) -> Q (.ref r) H'
section
variable {P : Program} {w : World} {K : PySem.W.Frag} {mg : Str -> Option Value} {base : Heap}
set_option maxHeartbeats 1000000 in
theorem ok_due {f a1 a2 : Addr} {fd d1 d2 : FuncData} (F : Fun K "_law_due" "_law_due" s_law_due f fd) (T : Txt mg) (k : Kit K) (D1 : Def P w K mg base 1 "_law_number" ["_law_word"] spLNum a1 d1) (D2 : Def P w K mg base 1 "_law_common" ["_law_one", "_law_other"] spCommon a2 d2) : FnOk P w K mg base CX0 2 f fd ["_law_thing"] spDue := by
 refine F.ok scDue (fun vs H Q E h => ?_) (fun cdv A outer s H vs Q E hr h => ?_)
 ·obtain ⟨x, rfl, _⟩ := h
  rfl
 obtain ⟨x, rfl, hx, hasc, q⟩ := h
 refine ⟨_, pss_cons (ps_if (pt_not (pt_val (pe_callB call_inst rfl T.inst PyProof.Rows.boot_isinstance (pa_cons (pv 0) (pa_cons (pe_bltn (v := .ty "str") rfl T.str PyProof.Rows.boot_str rfl) pa_nil))))) (pss_one (ps_ret (pe_tup (pa_cons pe_str (pa_cons (pv 0) pa_nil))))) pss_nil)
  (pss_cons (ps_setCT (i := 1) (xs := ["_law_word"]) (fv := []) scDue.nd rfl rfl rfl (by decide +kernel) trivial (pi_seq (pe_bm PySem.F.plainAttrs_str PySem.F.slot_str_split PySem.F.type_str_split mt_splitS (pv 0) (pa_cons pe_str pa_nil))) (fun _ _ _ _ _ => pg_name (i := 0) (ndT (by decide +kernel)) rfl (Or.inl rfl)) (fun _ _ _ _ _ => ptl_nil) (fun _ _ _ _ _ => pe_call D1.ok hr rfl D1.m D1.k D1.b .nil pass0 (pa_cons (pv 0) pa_nil)))
  (pss_cons (ps_if (PW.pt (pw_or (pt_cmpR op_in_seq pe_non (pv 1) (by with_unfolding_all rfl)) (pw_or1 (pt_cmpR op_gt (pe_callB call_len_seq rfl T.len PySem.boot_len (pa_cons (pv 1) pa_nil)) pe_int (nomark _))))) (pss_one (ps_ret (pe_tup (pa_cons pe_str (pa_cons (pv 0) pa_nil))))) pss_nil)
  (pss_cons (ps_if (pt_cmpR op_eq (pe_callB call_len_seq rfl T.len PySem.boot_len (pa_cons (pv 1) pa_nil)) pe_int (nomark _)) (pss_one (ps_ret (pe_tup (pa_cons pe_str (pa_cons (pe_tup (pa_cons (pe_ix ix_list (pv 1) pe_int (fun _ _ => rfl)) (pa_cons pe_int pa_nil))) pa_nil))))) pss_nil)
  (pss_cons (ps_if (PW.pt (pw_or (pt_cmpR op_lt (pe_ix ix_list (pv 1) pe_int (fun _ _ => rfl)) pe_int (nomark _)) (pw_or1 (pt_cmpR op_ne (pe_call D2.ok hr rfl D2.m D2.k D2.b .nil pass0 (pa_cons (pe_ix ix_list (pv 1) pe_int (fun _ _ => rfl)) (pa_cons (pe_ix ix_list (pv 1) pe_int (fun _ _ => rfl)) pa_nil))) pe_int (nomark _))))) (pss_one (ps_ret (pe_tup (pa_cons pe_str (pa_cons (pv 0) pa_nil))))) pss_nil)
  (pss_one (ps_ret (pe_tup (pa_cons pe_str (pa_cons (pe_tup (pa_cons (pe_ix ix_list (pv 1) pe_int (fun _ _ => rfl)) (pa_cons (pe_ix ix_list (pv 1) pe_int (fun _ _ => rfl)) pa_nil))) pa_nil))))))))), ?_⟩
 obtain ⟨t, ty, ek⟩ := kit_str k hx
 have s2 : (2 : Nat) <= sizeLine := by decide
 have no : ∀ H9, Same H H9 -> due x = none -> ∀ r, H9 r = none -> Q (.ref r) (upd H9 r (.tup [.str "none", x])) := fun H9 g e r hr' => q r _ (g.trans (same_new hr' _)) (by rw [e]; exact upd_same)
 have yes : ∀ H9 a b, Same H H9 -> due x = some (a, b) -> ∀ p, H9 p = none -> ∀ r, (upd H9 p (.tup [.int a, .int b])) r = none -> Q (.ref r) (upd (upd H9 p (.tup [.int a, .int b])) r (.tup [.str "told", .ref p])) := fun H9 a b g e p hp r hr' => q r _ ((g.trans (same_new hp _)).trans (same_new hr' _)) (by rw [e]; exact ⟨p, same_new hr' _ _ _ upd_same, upd_same⟩)
 refine ⟨_, rfl, x, t, "str", strB x, rfl, ty, ek, _, rfl, ?_⟩
 cases hb : strB x with
 | false =>
  have e : due x = none := by
   cases x with
   | str z => cases hb
   | _ => rfl
  exact iteT ⟨_, rfl, s2, no H (Same.refl H) e⟩
 | true =>
  cases x with
  | str z =>
   have asc := hasc z rfl
   have hz : z.length <= 100000 := hx
   have s1 : 200000 <= sizeLine := by decide
   have pA := asc_parts asc
   obtain ⟨pL, pN⟩ := len_parts (z := z)
   refine iteF ⟨_, rfl, rfl, z, "/", rfl, rfl, by decide, hz, fun W hW => ⟨W, rfl, ?_⟩⟩
   have g1 := same_new hW (.lst ((parts z).map V.str))
   have c1 : (upd H W (.lst ((parts z).map V.str))) W = some (.lst ((parts z).map V.str)) := upd_same
   generalize upd H W (.lst ((parts z).map V.str)) = H1 at g1 c1 ⊢
   refine seq_comp (K := K) (ys := (parts z).map V.str) (.inl (SqL.of c1)) (fun i D H' => Same H1 H' /\ H' D = some (.lst (((parts z).take i).map pn))) (fun D hD => ⟨same_new hD _, upd_same⟩) (fun i D H' hD hP o ho => hP.1 _ _ ho) (fun i D H' v hD hi hv hP => ?_) (fun D H' hD hP => ?_)
   ·obtain ⟨g, lD⟩ := hP
    rw [List.length_map] at hi
    rw [List.getElem?_map, List.getElem?_eq_getElem hi] at hv
    cases hv
    have hm := List.getElem_mem hi
    refine ⟨rfl, ?_⟩
    unfold tYes
    dsimp only
    rw [if_pos rfl]
    refine ⟨_, rfl, (parts z)[i], rfl, Nat.le_trans (pL _ hm) hz, pA _ hm, fun H2 g2 => ⟨_, g2 _ _ lD, ?_, fun b o e => ?_, ?_⟩⟩
    ·rw [List.length_map, List.length_take]; omega
    ·rw [upd_ne (ne_of_none e hD)]; exact g2 _ _ (g _ _ e)
    ·rw [upd_same, List.take_succ, List.getElem?_eq_getElem hi, List.map_append]; rfl
   ·obtain ⟨g2, lD⟩ := hP
    rw [List.length_map, List.take_length] at lD
    have gH := g1.trans g2
    rcases cut_cases z with ⟨hs, hc, hp⟩ | ⟨hs, hp⟩
    ·obtain ⟨dN, dI⟩ := due_one hs hc
     rw [hp] at lD
     rcases pn_cases z with pz | ⟨n, n0, pz⟩
     ·have lD' : H' D = some (.lst [.non]) := by rw [lD]; show some (HO.lst [pn z]) = _; rw [pz]
      exact ⟨_, rfl, D, [.non], rfl, .inl (SqL.of lD'), rfl, rfl, _, rfl, iteT ⟨_, rfl, s2, no H' gH (dN pz)⟩⟩
     ·have lD' : H' D = some (.lst [.int n]) := by rw [lD]; show some (HO.lst [pn z]) = _; rw [pz]
      refine ⟨_, rfl, D, [.int n], rfl, .inl (SqL.of lD'), rfl, rfl, _, rfl, iteF ⟨_, rfl, D, [.int n], rfl, .inl (SqL.of lD'), _, _, rfl, rfl, _, rfl, iteF ?_⟩⟩
      exact ⟨_, rfl, D, [.int n], rfl, .inl (SqL.of lD'), rfl, _, rfl, iteT ⟨_, rfl, D, _, _, _, rfl, rfl, SqL.of lD', rfl, s2, fun p hp' => ⟨s2, yes H' n 1 gH (dI n n0 pz) p hp'⟩⟩⟩
    ·have dT := due_two hs
     rw [hp] at lD
     by_cases hl : (parts (cut z).2.2).length = 1
     ·rw [parts_one (parts_len1 hl)] at lD
      rcases pn_cases (cut z).1 with pa | ⟨n, n0, pa⟩
      ·have lD' : H' D = some (.lst [.non, pn (cut z).2.2]) := by rw [lD]; show some (HO.lst [pn (cut z).1, pn (cut z).2.2]) = _; rw [pa]
       have fl : [V.non, pn (cut z).2.2].all flatV = true := by rcases pn_cases (cut z).2.2 with e | ⟨m, _, e⟩ <;> rw [e] <;> rfl
       exact ⟨_, rfl, D, _, rfl, .inl (SqL.of lD'), rfl, fl, _, rfl, iteT ⟨_, rfl, s2, no H' gH (by show dueS z = none; rw [dT, pa]; rfl)⟩⟩
      rcases pn_cases (cut z).2.2 with pb | ⟨m, m0, pb⟩
      ·have lD' : H' D = some (.lst [.int n, .non]) := by rw [lD]; show some (HO.lst [pn (cut z).1, pn (cut z).2.2]) = _; rw [pa, pb]
       exact ⟨_, rfl, D, [.int n, .non], rfl, .inl (SqL.of lD'), rfl, rfl, _, rfl, iteT ⟨_, rfl, s2, no H' gH (by show dueS z = none; rw [dT, pa, pb]; rfl)⟩⟩
      have lD' : H' D = some (.lst [.int n, .int m]) := by rw [lD]; show some (HO.lst [pn (cut z).1, pn (cut z).2.2]) = _; rw [pa, pb]
      have dE : dueS z = if 2 <= m /\ gc n m = 1 then some (n, m) else none := by rw [dT, pa, pb]; rfl
      have sq := SqL.of (K := K) lD'
      refine ⟨_, rfl, D, [.int n, .int m], rfl, .inl sq, rfl, rfl, _, rfl, iteF ⟨_, rfl, D, [.int n, .int m], rfl, .inl sq, _, _, rfl, rfl, _, rfl, iteF ?_⟩⟩
      refine ⟨_, rfl, D, [.int n, .int m], rfl, .inl sq, rfl, _, rfl, iteF ?_⟩
      refine ⟨_, rfl, D, _, _, _, rfl, rfl, sq, rfl, _, _, rfl, rfl, _, rfl, ?_⟩
      by_cases c1 : m < 2
      ·rw [decide_eq_true c1]
       exact iteT ⟨_, rfl, s2, no H' gH (by show dueS z = none; rw [dE, if_neg (by omega)])⟩
      rw [decide_eq_false c1]
      refine iteF ⟨_, rfl, D, _, _, _, rfl, rfl, sq, rfl, _, rfl, D, _, _, _, rfl, rfl, sq, rfl, n, m, rfl, n0, m0, rfl, _, rfl, ?_⟩
      by_cases c2 : gc n m = 1
      ·rw [c2, decide_eq_true rfl]
       exact iteF ⟨_, rfl, D, _, _, _, rfl, rfl, sq, rfl, _, rfl, D, _, _, _, rfl, rfl, sq, rfl, s2, fun p hp' => ⟨s2, yes H' n m gH (by show dueS z = _; rw [dE, if_pos ⟨by omega, c2⟩]) p hp'⟩⟩
      ·rw [decide_eq_false (fun e => c2 (V.int.inj e))]
       exact iteT ⟨_, rfl, s2, no H' gH (by show dueS z = none; rw [dE, if_neg (fun e => c2 e.2)])⟩
     ·have pb : pn (cut z).2.2 = .non := pn_slash (Classical.byContradiction fun h => hl (by rw [parts_one h]; rfl))
      have dn : dueS z = none := by
       rw [dT, pb]
       rcases pn_cases (cut z).1 with pa | ⟨n, _, pa⟩ <;> rw [pa] <;> rfl
      have fl : (((cut z).1 :: parts (cut z).2.2).map pn).all flatV = true := List.all_eq_true.mpr fun v hv => by
       obtain ⟨u, _, rfl⟩ := List.mem_map.mp hv
       rcases pn_cases u with e | ⟨m, _, e⟩ <;> rw [e] <;> rfl
      refine ⟨_, rfl, D, _, rfl, .inl (SqL.of lD), rfl, fl, _, rfl, ?_⟩
      refine ite2 (fun _ => ⟨_, rfl, s2, no H' gH dn⟩) (fun _ => ⟨_, rfl, D, _, rfl, .inl (SqL.of lD), _, _, rfl, rfl, _, rfl, ?_⟩)
      have l0 : (parts (cut z).2.2).length ≠ 0 := fun e => parts_ne _ (List.length_eq_zero_iff.mp e)
      rw [decide_eq_true (show (((((cut z).1 :: parts (cut z).2.2).map pn).length : Nat) : Int) > 2 by rw [List.length_map, List.length_cons]; omega)]
      exact iteT ⟨_, rfl, s2, no H' gH dn⟩
  | _ => cases hb
end
end S
set_option Elab.async false
set_option linter.all false
set_option maxRecDepth 100000
namespace L2
open PySem PySem.Spec PyProof.Rows
section
variable {X : Cx}
def rUpperX : V -> List V -> Hp -> VK -> Prop := fun x vs H Q => ∃ z, x = .str z /\ vs = [] /\ z.length <= 1000 /\ Q (.str (PySem.Txt.upper z)) H
theorem mt_upperX : MtR X "str.upper" rUpperX := by
 intro pins s σ H x vs v us Q I rx rv h
 obtain ⟨z, rfl, rfl, hz, q⟩ := h
 obtain ⟨t, rfl⟩ := rx
 cases rv
 exact SC.upper (fit_of (by have := len_upper z; omega)) ⟨.str _, H, I.tok _, ⟨_, rfl⟩, q⟩
theorem op_mulSx : OpR X (binaryOp .Mult) (fun x y H Q => ∃ z n, x = .str z /\ y = .int n /\ 0 <= n /\ n <= 10000 /\ z.length <= 1000 /\ Q (.str (PySem.Txt.mul z n)) H) := by
 intro pins s σ H x y v u Q I rx ry h
 obtain ⟨z, n, rfl, rfl, n0, n1, hz, q⟩ := h
 obtain ⟨t, rfl⟩ := rx
 obtain ⟨t', rfl⟩ := ry
 refine SB.mul ⟨by simp; omega, fun h1 _ => ?_, fun h1 _ => fit_of ?_⟩ fun t'' k => ⟨.str _, H, I.tok _, ⟨_, rfl⟩, q⟩
 ·have : (2 ^ 63 - 1 : Int) / 10000 <= (2 ^ 63 - 1) / n := by
   apply Int.le_ediv_of_mul_le (by omega)
   have e : (2 ^ 63 - 1 : Int) / 10000 = 922337203685477 := by decide
   rw [e]
   omega
  have e : (2 ^ 63 - 1 : Int) / 10000 = 922337203685477 := by decide
  omega
 ·have : n.toNat <= 10000 := by omega
  have := Nat.mul_le_mul hz this
  omega
end
end L2
namespace S
open PySem L2
theorem Asc.app {a b : Str} (h : Asc a) (g : Asc b) : Asc (a ++ b) := fun c m => by
 rw [cl_app] at m
 exact (List.mem_append.mp m).elim (h c) (g c)
theorem Asc.slice {z : Str} (h : Asc z) (l u : Option Int) : Asc (PySem.Txt.slice z l u) := fun c m => by
 unfold PySem.Txt.slice at m
 split at m
 ·exact h c m
 ·have m' : c ∈ ((Builtin.Str.strSliceIndices l u 1 z.length).filterMap (z.cps[·]?)) := by simpa using m
  obtain ⟨i, _, hi⟩ := List.mem_filterMap.mp m'
  exact h c (List.mem_of_getElem? (i := i) (by rw [<- hi]; exact Array.getElem?_toList))
theorem Asc.one {c : Nat} (h : c < 128) : Asc ⟨#[c]⟩ := fun d m => by
 have : d = c := by simpa using m
 omega
theorem Asc.dbl {z : Str} (h : Asc z) : Asc (PySem.Txt.mul z 2) := fun c m => by
 unfold PySem.Txt.mul at m
 rw [if_neg (by decide)] at m
 split at m
 ·exact h c m
 ·have e : ((List.replicate (2 : Int).toNat z.cps).foldl (· ++ ·) #[]).toList = cl z ++ cl z := by
   show ((#[] ++ z.cps) ++ z.cps).toList = _
   rw [Array.empty_append, Array.toList_append]
  have m' : c ∈ cl z ++ cl z := by rw [<- e]; exact m
  exact (List.mem_append.mp m').elim (h c) (h c)
theorem len_dbl (z : Str) : (PySem.Txt.mul z 2).length = 2 * z.length := by
 have := PyProof.Rows.len_mul z 2
 rw [if_neg (by decide)] at this
 omega
abbrev SIG : Str := (((" !#$&()*+,-./0123456789:;<=>?\x40[]^_`{|}~\"'\\" : Str) ++ ("abcdefghijklmnopqrstuvwxyz" : Str)) ++ PySem.Txt.upper "abcdefghijklmnopqrstuvwxyz") ++ PySem.Txt.mul "0123456789/ -+._a" 5
theorem sig_asc : ∀ c ∈ SIG.cps.toList, c < 128 := by decide +kernel
theorem sig_len : SIG.length = 179 := by decide +kernel
end S
set_option Elab.async false
set_option linter.all false
set_option maxRecDepth 100000
namespace S
open PySem L2
def spSpoilt : Sp := fun vs H Q _ => ∃ b z, vs = [.ref b, .str z] /\ BoxAt H b /\ Asc z /\ z.length <= 1000 /\ ∀ r H', BoxAt H' b -> Away b H H' -> Asc r -> r.length <= 2 * z.length + 2 -> Q (.str r) H'
theorem at_nat {ms : List Nat} {i : Int} (h0 : 0 <= i) (h : i < (ms.length : Int)) : ∃ v, v ∈ ms /\ atI ms i = some v := by
 have hk : i.toNat < ms.length := by omega
 refine ⟨ms[i.toNat], List.getElem_mem hk, ?_⟩
 have q : atI ms ((i.toNat : Nat) : Int) = some ms[i.toNat] := atI_nat (List.getElem?_eq_getElem hk)
 rw [show ((i.toNat : Nat) : Int) = i by omega] at q
 exact q
theorem at_strs {ms : List Str} {i : Int} (h0 : 0 <= i) (h : i < (ms.length : Int)) : ∃ v, v ∈ ms /\ atI (ms.map V.str) i = some (.str v) := by
 have hk : i.toNat < ms.length := by omega
 refine ⟨ms[i.toNat], List.getElem_mem hk, ?_⟩
 have q : atI (ms.map V.str) ((i.toNat : Nat) : Int) = some (.str ms[i.toNat]) := atI_nat (by rw [List.getElem?_map, List.getElem?_eq_getElem hk]; rfl)
 rw [show ((i.toNat : Nat) : Int) = i by omega] at q
 exact q
section
variable {P : Program} {w : World} {K : PySem.W.Frag} {mg : Str -> Option Value} {base : Heap}
theorem scSpoilt : FnScope ["_law_box_here", "_law_text_here", "_law_at", "_law_letters", "_law_signs", "_law_sign", "_law_some"] ["_law_box_here", "_law_text_here"] (defScope s_law_spoilt) := ⟨rfl, rfl, rfl, by decide +kernel, rfl, by decide +kernel, by decide +kernel⟩
set_option maxHeartbeats 1000000 in
theorem ok_spoilt {f a1 : Addr} {fd d1 : FuncData} (F : Fun K "_law_spoilt" "_law_spoilt" s_law_spoilt f fd) (T : Txt mg) (D1 : Def P w K mg base 1 "_law_take" ["_law_box_here", "_law_many"] spTake a1 d1) : FnOk P w K mg base CX0 2 f fd ["_law_box_here", "_law_text_here"] spSpoilt := by
 refine F.ok scSpoilt (fun vs H Q E h => ?_) (fun cdv A outer s H vs Q E hr h => ?_)
 ·obtain ⟨b, z, rfl, _⟩ := h
  rfl
 obtain ⟨b, z, rfl, hb, asc, hz, q⟩ := h
 refine ⟨_, pss_cons (ps_set (i := 2) scSpoilt.nd rfl (Or.inl rfl) (pe_call D1.ok hr rfl D1.m D1.k D1.b .nil pass0 (pa_cons (pv 0) (pa_cons (pe_op op_add (pe_callB call_len_str rfl T.len PySem.boot_len (pa_cons (pv 1) pa_nil)) pe_int) pa_nil))))
  (pss_cons (ps_set (i := 3) scSpoilt.nd rfl (Or.inl rfl) pe_str)
  (pss_cons (ps_set (i := 4) scSpoilt.nd rfl (Or.inl rfl) (pe_op op_add_str (pe_op op_add_str pe_str (pv 3)) (pe_bm0 PySem.F.plainAttrs_str PySem.F.slot_str_upper PySem.F.type_str_upper mt_upperX (pv 3))))
  (pss_cons (ps_set (i := 4) scSpoilt.nd rfl (Or.inl rfl) (pe_op op_add_str (pv 4) (pe_op op_mulSx pe_str pe_int)))
  (pss_cons (ps_set (i := 5) scSpoilt.nd rfl (Or.inl rfl) (pe_ix ix_str (pv 4) (pe_call D1.ok hr rfl D1.m D1.k D1.b .nil pass0 (pa_cons (pv 0) (pa_cons (pe_callB call_len_str rfl T.len PySem.boot_len (pa_cons (pv 4) pa_nil)) pa_nil))) (fun _ _ => rfl)))
  (pss_cons (ps_set (i := 6) scSpoilt.nd rfl (Or.inl rfl) (pe_lst (pa_cons (pe_op op_add_str (pe_op op_add_str (pe_slice sl_str (pv 1) po_none (po_some (pv 2))) (pv 5)) (pe_slice sl_str (pv 1) (po_some (pv 2)) po_none)) (pa_cons (pe_op op_add_str (pe_slice sl_str (pv 1) po_none (po_some (pv 2))) (pe_slice sl_str (pv 1) (po_some (pe_op op_add (pv 2) pe_int)) po_none)) (pa_cons (pe_op op_add_str (pe_op op_add_str (pe_slice sl_str (pv 1) po_none (po_some (pv 2))) (pv 5)) (pe_slice sl_str (pv 1) (po_some (pe_op op_add (pv 2) pe_int)) po_none)) (pa_cons (pe_op op_add_str pe_str (pv 1)) pa_nil))))))
  (pss_cons (ps_set (i := 6) scSpoilt.nd rfl (Or.inl rfl) (pe_op op_cat (pv 6) (pe_lst (pa_cons (pe_op op_add_str (pv 1) pe_str) (pa_cons (pe_op op_add_str (pv 1) pe_str) (pa_cons (pe_op op_add_str pe_str (pv 1)) (pa_cons (pe_op op_add_str (pv 1) pe_str) (pa_cons (pe_op op_add_str (pv 1) pe_str) (pa_cons (pe_op op_mulSx (pv 1) pe_int) (pa_cons (pe_op op_add_str (pe_op op_add_str (pv 1) pe_str) (pv 1)) pa_nil))))))))))
  (pss_one (ps_ret (pe_ix ix_list (pe_op op_cat (pv 6) (pe_lst (pa_cons (pe_op op_add_str pe_str (pv 1)) pa_nil))) (pe_call D1.ok hr rfl D1.m D1.k D1.b .nil pass0 (pa_cons (pv 0) (pa_cons pe_int pa_nil))) (fun _ _ => rfl)))))))))), ?_⟩
 have s1 : 100000 <= sizeLine := by decide
 have small : ∀ {n : Int}, 0 < n -> n < 10000 -> BG 8000 n := fun h0 h1 => (bg_of (n := 14) (by omega) (by omega)).mono (by decide)
 refine ⟨_, rfl, _, rfl, z, rfl, by omega, _, _, rfl, rfl, b, _, rfl, (by show (0 : Int) < (z.length : Nat) + 1; omega), small (by show (0 : Int) < (z.length : Nat) + 1; omega) (by show ((z.length : Nat) : Int) + 1 < 10000; omega), hb, fun at' H1 a0 a1' b1 w1 => ?_⟩
 refine ⟨_, rfl, _, _, rfl, rfl, by decide +kernel, _, rfl, rfl, _, rfl, rfl, by decide +kernel, _, _, rfl, rfl, by decide +kernel, ?_⟩
 refine ⟨_, rfl, _, _, rfl, rfl, by decide, by decide, by decide +kernel, _, _, rfl, rfl, by decide +kernel, ?_⟩
 have hl := sig_len
 refine ⟨_, rfl, _, rfl, _, rfl, SIG, rfl, by rw [hl]; omega, b, _, rfl, (by show (0 : Int) < (SIG.length : Nat); rw [hl]; decide), small (by show (0 : Int) < (SIG.length : Nat); rw [hl]; decide) (by show ((SIG.length : Nat) : Int) < 10000; rw [hl]; decide), b1, fun k H2 k0 k1 b2 w2 => ?_⟩
 obtain ⟨c, hc, hat⟩ := at_nat (ms := SIG.cps.toList) k0 (by rw [Array.length_toList]; exact k1)
 have c128 := sig_asc c hc
 refine ⟨SIG, k, c, rfl, rfl, by rw [hl]; omega, hat, ?_⟩
 have aw2 : Away b H H2 := w1.away.trans w2.away
 have L1 := slice_len z none (some at')
 have L2' := slice_len z (some at') none
 have L3 := slice_len z (some (at' + 1)) none
 have LC : (⟨#[c]⟩ : Str).length = 1 := rfl
 have LD := len_dbl z
 have l0 : (("0" : Str)).length = 1 := by decide
 have l1 : (("/1" : Str)).length = 2 := by decide
 have l2 : (("/" : Str)).length = 1 := by decide
 have l3 : (("\n" : Str)).length = 1 := by decide
 have l4 : (("2" : Str)).length = 1 := by decide
 refine ⟨_, rfl, _, rfl, at', rfl, z, rfl, by omega, _, rfl, _, _, rfl, rfl, by (try simp only [PySem.strLen_append]); omega, _, rfl, _, rfl, at', rfl, z, rfl, by omega, _, _, rfl, rfl, by (try simp only [PySem.strLen_append]); omega, _, rfl, _, rfl, at', rfl, z, rfl, by omega, _, rfl, _, rfl, _, _, rfl, rfl, at' + 1, rfl, z, rfl, by omega, _, _, rfl, rfl, by (try simp only [PySem.strLen_append]); omega, _, rfl, _, rfl, at', rfl, z, rfl, by omega, _, rfl, _, _, rfl, rfl, by (try simp only [PySem.strLen_append]); omega, _, rfl, _, rfl, _, _, rfl, rfl, at' + 1, rfl, z, rfl, by omega, _, _, rfl, rfl, by (try simp only [PySem.strLen_append]); omega, _, rfl, _, _, rfl, rfl, by (try simp only [PySem.strLen_append]); omega, (by show 4 <= sizeLine; decide), fun p1 h1 => ?_⟩
 have g3 := same_new h1 (.lst ([PySem.Txt.slice z none (some at') ++ ⟨#[c]⟩ ++ PySem.Txt.slice z (some at') none, PySem.Txt.slice z none (some at') ++ PySem.Txt.slice z (some (at' + 1)) none, PySem.Txt.slice z none (some at') ++ ⟨#[c]⟩ ++ PySem.Txt.slice z (some (at' + 1)) none, ("0" : Str) ++ z].map V.str))
 refine ⟨_, rfl, _, rfl, _, _, rfl, rfl, by (try simp only [PySem.strLen_append]); omega, _, rfl, _, _, rfl, rfl, by (try simp only [PySem.strLen_append]); omega, _, rfl, _, _, rfl, rfl, by (try simp only [PySem.strLen_append]); omega, _, rfl, _, _, rfl, rfl, by (try simp only [PySem.strLen_append]); omega, _, rfl, _, _, rfl, rfl, by (try simp only [PySem.strLen_append]); omega, _, rfl, z, 2, rfl, rfl, by decide, by decide, hz, _, rfl, _, _, rfl, rfl, by (try simp only [PySem.strLen_append]); omega, _, rfl, _, _, rfl, rfl, by (try simp only [PySem.strLen_append]); omega, (by show 7 <= sizeLine; decide), fun p2 h2 => ?_⟩
 have g4 := same_new h2 (.lst ([z ++ ("/1" : Str), z ++ ("/" : Str), ("/" : Str) ++ z, z ++ ("0" : Str), z ++ ("\n" : Str), PySem.Txt.mul z 2, z ++ ("/" : Str) ++ z].map V.str))
 refine ⟨p1, p2, _, _, rfl, rfl, g4 _ _ upd_same, upd_same, (by show 11 <= sizeLine; decide), fun p3 h3 => ?_⟩
 have g5 := same_new h3 (.lst (([PySem.Txt.slice z none (some at') ++ ⟨#[c]⟩ ++ PySem.Txt.slice z (some at') none, PySem.Txt.slice z none (some at') ++ PySem.Txt.slice z (some (at' + 1)) none, PySem.Txt.slice z none (some at') ++ ⟨#[c]⟩ ++ PySem.Txt.slice z (some (at' + 1)) none, ("0" : Str) ++ z] ++ [z ++ ("/1" : Str), z ++ ("/" : Str), ("/" : Str) ++ z, z ++ ("0" : Str), z ++ ("\n" : Str), PySem.Txt.mul z 2, z ++ ("/" : Str) ++ z]).map V.str))
 refine ⟨_, rfl, _, rfl, _, _, rfl, rfl, by (try simp only [PySem.strLen_append]); omega, (by show 1 <= sizeLine; decide), fun p4 h4 => ?_⟩
 have g6 := same_new h4 (.lst ([("2" : Str) ++ z].map V.str))
 refine ⟨p3, p4, _, _, rfl, rfl, g6 _ _ upd_same, upd_same, (by show 12 <= sizeLine; decide), fun p5 h5 => ?_⟩
 obtain ⟨ms, em, hm⟩ : ∃ ms : List Str, ms = [PySem.Txt.slice z none (some at') ++ ⟨#[c]⟩ ++ PySem.Txt.slice z (some at') none, PySem.Txt.slice z none (some at') ++ PySem.Txt.slice z (some (at' + 1)) none, PySem.Txt.slice z none (some at') ++ ⟨#[c]⟩ ++ PySem.Txt.slice z (some (at' + 1)) none, ("0" : Str) ++ z, z ++ ("/1" : Str), z ++ ("/" : Str), ("/" : Str) ++ z, z ++ ("0" : Str), z ++ ("\n" : Str), PySem.Txt.mul z 2, z ++ ("/" : Str) ++ z, ("2" : Str) ++ z] /\ ∀ r ∈ ms, Asc r /\ r.length <= 2 * z.length + 2 := by
  refine ⟨_, rfl, fun r hr' => ?_⟩
  have A1 := asc.slice none (some at')
  have A2 := asc.slice (some at') none
  have A3 := asc.slice (some (at' + 1)) none
  have AC : Asc ⟨#[c]⟩ := Asc.one c128
  have k0 : Asc ("0" : Str) := by unfold Asc; decide +kernel
  have k1 : Asc ("/1" : Str) := by unfold Asc; decide +kernel
  have k2 : Asc ("/" : Str) := by unfold Asc; decide +kernel
  have k3 : Asc ("\n" : Str) := by unfold Asc; decide +kernel
  have k4 : Asc ("2" : Str) := by unfold Asc; decide +kernel
  have LL : (PySem.Txt.slice z none (some at')).length + (PySem.Txt.slice z (some at') none).length <= 2 * z.length := by omega
  simp only [List.mem_cons, List.not_mem_nil, or_false] at hr'
  rcases hr' with rfl | rfl | rfl | rfl | rfl | rfl | rfl | rfl | rfl | rfl | rfl | rfl
  ·exact ⟨(A1.app AC).app A2, by simp only [PySem.strLen_append]; omega⟩
  ·exact ⟨A1.app A3, by simp only [PySem.strLen_append]; omega⟩
  ·exact ⟨(A1.app AC).app A3, by simp only [PySem.strLen_append]; omega⟩
  ·exact ⟨k0.app asc, by simp only [PySem.strLen_append]; omega⟩
  ·exact ⟨asc.app k1, by simp only [PySem.strLen_append]; omega⟩
  ·exact ⟨asc.app k2, by simp only [PySem.strLen_append]; omega⟩
  ·exact ⟨k2.app asc, by simp only [PySem.strLen_append]; omega⟩
  ·exact ⟨asc.app k0, by simp only [PySem.strLen_append]; omega⟩
  ·exact ⟨asc.app k3, by simp only [PySem.strLen_append]; omega⟩
  ·exact ⟨asc.dbl, by omega⟩
  ·exact ⟨(asc.app k2).app asc, by simp only [PySem.strLen_append]; omega⟩
  ·exact ⟨k4.app asc, by simp only [PySem.strLen_append]; omega⟩
 have g36 := ((g3.trans g4).trans g5).trans g6
 have b6 := b2.same g36
 have np : p5 ≠ b := (b6.ne h5).symm
 refine ⟨_, rfl, b, 12, rfl, by decide, small (by decide) (by decide), b6.same (same_new h5 _), fun k' H7 k0' k1' b7 w7 => ?_⟩
 have c7 : H7 p5 = some (.lst (ms.map V.str)) := (w7 p5 np).trans (by rw [upd_same, em]; rfl)
 obtain ⟨v, hv, hat'⟩ := at_strs (ms := ms) k0' (by rw [em]; exact k1')
 obtain ⟨va, vl⟩ := hm v hv
 exact ⟨p5, _, _, _, rfl, rfl, SqL.of c7, hat', q v H7 b7 (((aw2.trans (away_of g36)).trans (away_of (same_new h5 _))).trans w7.away) va vl⟩
end
end S
set_option Elab.async false
set_option linter.all false
set_option maxRecDepth 100000
namespace S
open PySem L2
def ansD (d : PyData) : Option (Int × Int) -> PyData
 | some (a, b) => .tuple [.str "told", .tuple [.int a, .int b]]
 | none => .tuple [.str "none", d]
theorem Ans.dw {K : PySem.W.Frag} {H : Hp} {r : Addr} {x : V} {d : PyData} {o : Option (Int × Int)} (h : Ans H r x o) (hd : DW K H x d) : DW K H (.ref r) (ansD d o) := by
 cases o with
 | none => exact .tup (SqT.of h) (.cons (.str _) (.cons hd .nil))
 | some p =>
  obtain ⟨a, b⟩ := p
  obtain ⟨p, h1, h2⟩ := h
  exact .tup (SqT.of h2) (.cons (.str _) (.cons (.tup (SqT.of h1) (.cons (.int _) (.cons (.int _) .nil))) .nil))
theorem ansD_show {d : PyData} {o : Option (Int × Int)} (hd : d.showable = true) (h : ∀ a b, o = some (a, b) -> BG 1400 a /\ BG 1400 b) : (ansD d o).showable = true := by
 cases o with
 | none => simp only [ansD, PyData.showable, PyData.showableAll, hd]; rfl
 | some p =>
  obtain ⟨a, b⟩ := p
  obtain ⟨ha, hb⟩ := h a b rfl
  simp only [ansD, PyData.showable, PyData.showableAll, decide_eq_true (log_lt ha), decide_eq_true (log_lt hb)]
  rfl
theorem ansD_deep {d : PyData} {o : Option (Int × Int)} (hd : d.depth <= 50) : (ansD d o).depth <= 100 := by
 cases o with
 | none => simp only [ansD, PyData.depth, PyData.depthAll]; omega
 | some p => simp only [ansD, PyData.depth, PyData.depthAll]; omega
end S
set_option Elab.async false
set_option linter.all false
set_option maxRecDepth 100000
namespace S
open PySem L2
theorem shown_int {i : Int} (h : BG 1400 i) : (PyData.shown (.int i)).length <= 500 := Nat.le_trans (int_len h) (by decide)
theorem ansD_len {d : PyData} {o : Option (Int × Int)} (hd : d.leavesShort 500 = true) (hb : d.bulk <= 5000) (h : ∀ a b, o = some (a, b) -> BG 1400 a /\ BG 1400 b) : (ansD d o).shown.length <= sizeLine := by
 have s1 : 10000000 <= sizeLine := by decide
 cases o with
 | none =>
  have n0 : ((("none" : Str).cps.toList.all fun c => decide (c < 16 ^ 8))) = true := by decide +kernel
  have l : (ansD d none).leavesShort 500 = true := by
   simp only [ansD, PyData.leavesShort, PyData.leavesShortAll, hd, n0]
   rfl
  have q := PyData.shown_le_bulk 500 (by decide) _ l
  have e : (ansD d none).bulk <= 5010 := by
   have : (("none" : Str)).cps.size = 4 := by decide +kernel
   simp only [ansD, PyData.bulk, PyData.bulkAll]
   omega
  have := Nat.mul_le_mul_left 512 e
  omega
 | some p =>
  obtain ⟨a, b⟩ := p
  obtain ⟨ha, hb'⟩ := h a b rfl
  have n0 : ((("told" : Str).cps.toList.all fun c => decide (c < 16 ^ 8))) = true := by decide +kernel
  have l : (ansD d (some (a, b))).leavesShort 500 = true := by
   simp only [ansD, PyData.leavesShort, PyData.leavesShortAll, decide_eq_true (shown_int ha), decide_eq_true (shown_int hb'), n0]
   rfl
  have q := PyData.shown_le_bulk 500 (by decide) _ l
  have e : (ansD d (some (a, b))).bulk <= 5010 := by
   have : (("told" : Str)).cps.size = 4 := by decide +kernel
   simp only [ansD, PyData.bulk, PyData.bulkAll]
   omega
  have := Nat.mul_le_mul_left 512 e
  omega
end S
set_option Elab.async false
set_option linter.all false
set_option maxRecDepth 100000
namespace S
open PySem L2
theorem num_cl (n : Nat) : cl (toString (Int.ofNat n) : Str) = (Nat.toDigits 10 n).map Char.toNat := by
 show cl (Str.ofString (toString (Int.ofNat n))) = _
 rw [PyProof.Rows.text_ofNat]
theorem dig_all (n : Nat) : NumText.AllDigits ((Nat.toDigits 10 n).map Char.toNat) := fun c hc => by
 obtain ⟨d, hd, rfl⟩ := List.mem_map.mp hc
 have h := Nat.isDigit_of_mem_toDigits (by decide) (by decide) hd
 unfold Char.isDigit at h
 rw [Bool.and_eq_true, decide_eq_true_eq, decide_eq_true_eq] at h
 have h1 : (48 : UInt32).toNat <= d.val.toNat := UInt32.le_iff_toNat_le.mp h.1
 have h2 : d.val.toNat <= (57 : UInt32).toNat := UInt32.le_iff_toNat_le.mp h.2
 exact ⟨h1, h2⟩
theorem fig_in : ∀ c, c < 58 -> 48 <= c -> c ∈ FIG.cps.toList := by decide +kernel
theorem nought : ("0" : Str) = ⟨#[48]⟩ := by decide +kernel
theorem zero_head {n : Nat} {cs : List Nat} (e : (Nat.toDigits 10 n).map Char.toNat = cs) (h : cs.headD 0 = 48) : cs = [48] := by
 have al : NumText.AllDigits cs := e ▸ dig_all n
 have vb : NumText.digitsVal cs = n := by rw [<- e]; exact PySem.W.KIN.val_back n
 have td := NumText.toDigits_all cs al
 rw [vb] at td
 have ln : cs.length = (Nat.toDigits 10 n).length := by rw [<- e, List.length_map]
 match cs, h with
 | 48 :: r, _ =>
  have dw : List.dropWhile (fun x => x == 48) (48 :: r) = List.dropWhile (fun x => x == 48) r := by rw [List.dropWhile_cons]; rfl
  rw [dw] at td
  have dl : (List.dropWhile (fun x => x == 48) r).length <= r.length := (List.dropWhile_sublist _).length_le
  revert td dl
  cases List.dropWhile (fun x => x == 48) r with
  | nil =>
   intro td _
   have td' : Nat.toDigits 10 n = ['0'] := td
   rw [td'] at ln
   match r, ln with
   | [], _ => rfl
  | cons c r' =>
   intro td dl
   have td' : Nat.toDigits 10 n = List.map Char.ofNat (c :: r') := td
   rw [td', List.length_map] at ln
   rw [List.length_cons] at ln
   omega
theorem pn_num {n : Nat} (h : n < 10 ^ 400) : pn (toString (Int.ofNat n) : Str) = .int (Int.ofNat n) := by
 have e := num_cl n
 generalize (toString (Int.ofNat n) : Str) = z at e
 have e0 : plainB (.str z) 400 = if ((fitsLen z 400 && allIn z FIG) && !zeroB z) = true then .int ((PySem.NumText.digitsVal z.cps.toList : Nat) : Int) else .non := rfl
 have hl : z.length = (Nat.toDigits 10 n).length := by
  have : (cl z).length = z.length := Array.length_toList
  rw [<- this, e, List.length_map]
 have l1 := PySem.toDigits_len_ge 10 n
 have l2 := PySem.toDigits_len_pow (b := 10) (k := 400) (by decide) (by decide) h
 have f1 : fitsLen z 400 = true := by
  unfold fitsLen
  rw [decide_eq_true (by omega), decide_eq_true (by omega)]; rfl
 have f2 : allIn z FIG = true := List.all_eq_true.mpr fun c hc => by
  have hc' : c ∈ cl z := hc
  rw [e] at hc'
  have := dig_all n c hc'
  exact decide_eq_true (fig_in c (by omega) this.1)
 have f3 : zeroB z = false := by
  unfold zeroB
  by_cases c : V.str ⟨#[z.cps.toList.headD 0]⟩ = V.str "0"
  ·have c1 : (⟨#[z.cps.toList.headD 0]⟩ : Str) = ⟨#[48]⟩ := by rw [<- nought]; exact V.str.inj c
   have c2 : (cl z).headD 0 = 48 := by
    have := congrArg cl c1
    exact (List.cons.inj this).1
   have c3 := zero_head (n := n) e.symm c2
   have c4 : z = "0" := by rw [nought]; exact cl_inj c3
   rw [decide_eq_true (congrArg V.str c4)]
   exact Bool.and_false _
  ·rw [decide_eq_false c]; rfl
 show plainB (.str z) 400 = _
 rw [e0, f1, f2, f3]
 show V.int ((NumText.digitsVal (cl z) : Nat) : Int) = _
 rw [e, PySem.W.KIN.val_back]
 rfl
theorem num_free (n : Nat) : 47 ∉ cl (toString (Int.ofNat n) : Str) := fun h => by
 rw [num_cl] at h
 have := dig_all n 47 h
 omega
theorem num_asc (n : Nat) : Asc (toString (Int.ofNat n) : Str) := fun c h => by
 rw [num_cl] at h
 have := dig_all n c h
 omega
theorem asc_slash : Asc ("/" : Str) := by unfold Asc; decide +kernel
theorem asc_int {i : Int} (h : 0 <= i) : Asc (toString i : Str) := by
 obtain ⟨n, rfl⟩ := Int.eq_ofNat_of_zero_le h
 exact num_asc n
theorem asc_text {a b : Int} (ha : 0 <= a) (hb : 0 <= b) : Asc (textOf a b) := by
 unfold textOf
 split
 ·exact asc_int ha
 ·exact ((asc_int ha).app asc_slash).app (asc_int hb)
theorem due_text {a b : Int} (h : isSh a b) (ha : BG 1300 a) (hb : BG 1300 b) : dueS (textOf a b) = some (a, b) := by
 obtain ⟨h1, h2, h3⟩ := h
 obtain ⟨n, rfl⟩ := Int.eq_ofNat_of_zero_le h1
 obtain ⟨m, rfl⟩ := Int.eq_ofNat_of_zero_le (show 0 <= b by omega)
 have p13 : (2 : Nat) ^ 1300 < 10 ^ 400 := by decide +kernel
 have n4 : n < 10 ^ 400 := Nat.lt_trans (by have := ha.2; exact_mod_cast this) p13
 have m4 : m < 10 ^ 400 := Nat.lt_trans (by have := hb.2; exact_mod_cast this) p13
 have pn1 := pn_num n4
 have pm1 := pn_num m4
 have fn := num_free n
 have fm := num_free m
 unfold textOf
 by_cases c : (Int.ofNat m) = 1
 ·rw [if_pos (show ((m : Nat) : Int) = 1 from c)]
  show dueS (toString (Int.ofNat n) : Str) = some (Int.ofNat n, Int.ofNat m)
  generalize (toString (Int.ofNat n) : Str) = z at pn1 fn
  have po := parts_one fn
  rcases cut_cases z with ⟨hs, hc, _⟩ | ⟨hs, hp⟩
  ·rw [(due_one hs hc).2 (Int.ofNat n) (Int.natCast_nonneg n) pn1, c]
  ·rw [po] at hp
   exact absurd (List.cons.inj hp).2.symm (parts_ne _)
 ·rw [if_neg (show ¬ ((m : Nat) : Int) = 1 from c)]
  show dueS ((toString (Int.ofNat n) : Str) ++ "/" ++ (toString (Int.ofNat m) : Str)) = some (Int.ofNat n, Int.ofNat m)
  generalize (toString (Int.ofNat n) : Str) = A at pn1 fn
  generalize (toString (Int.ofNat m) : Str) = B at pm1 fm
  have pz : parts (A ++ "/" ++ B) = [A, B] := by
   refine join_inj (parts_ne _) (by simp) (parts_free _) (fun q hq => ?_) ?_
   ·simp only [List.mem_cons, List.not_mem_nil, or_false] at hq
    rcases hq with rfl | rfl
    ·exact fn
    ·exact fm
   ·rw [parts_join, join_two, slash]
    rfl
  generalize A ++ "/" ++ B = z at pz
  rcases cut_cases z with ⟨hs, hc, hp⟩ | ⟨hs, hp⟩
  ·rw [pz] at hp
   exact absurd (congrArg List.length hp) (by simp)
  ·rw [pz] at hp
   obtain ⟨e1, e2⟩ := List.cons.inj hp
   have e3 : (cut z).2.2 = B := by
    have := parts_join (cut z).2.2
    rw [<- e2] at this
    exact this.symm
   rw [due_two hs, <- e1, e3, pn1, pm1]
   exact if_pos ⟨by have : Int.ofNat m ≠ 1 := c; have h2' : 1 <= Int.ofNat m := h2; omega, h3⟩
theorem dv_lt : ∀ (cs : List Nat) (acc : Nat), NumText.AllDigits cs -> List.foldl (fun acc c => acc * 10 + (c - 48)) acc cs < (acc + 1) * 10 ^ cs.length
 | [], acc, _ => by simp
 | c :: r, acc, h => by
  have hc := h c (by simp)
  have ih := dv_lt r (acc * 10 + (c - 48)) (fun x hx => h x (by simp [hx]))
  rw [List.foldl_cons, List.length_cons, Nat.pow_succ]
  refine Nat.lt_of_lt_of_le ih ?_
  have : acc * 10 + (c - 48) + 1 <= (acc + 1) * 10 := by omega
  calc (acc * 10 + (c - 48) + 1) * 10 ^ r.length <= ((acc + 1) * 10) * 10 ^ r.length := Nat.mul_le_mul_right _ this
   _ = (acc + 1) * (10 ^ r.length * 10) := by rw [Nat.mul_assoc, Nat.mul_comm 10]
theorem plain_bg {z : Str} {n : Int} (h : plainB (.str z) 400 = .int n) : BG 1400 n := by
 have e0 : plainB (.str z) 400 = if ((fitsLen z 400 && allIn z FIG) && !zeroB z) = true then .int ((PySem.NumText.digitsVal z.cps.toList : Nat) : Int) else .non := rfl
 rw [e0] at h
 split at h
 ·rename_i c
  simp only [Bool.and_eq_true] at c
  obtain ⟨⟨c1, c2⟩, _⟩ := c
  unfold fitsLen at c1
  rw [Bool.and_eq_true, decide_eq_true_eq, decide_eq_true_eq] at c1
  have lt := dv_lt (cl z) 0 (digits_of c2)
  have hl : (cl z).length = z.length := Array.length_toList
  have l4 : (cl z).length <= 400 := by omega
  have p : (10 : Nat) ^ (cl z).length <= 10 ^ 400 := Nat.pow_le_pow_right (by decide) l4
  have p2 : (10 : Nat) ^ 400 <= 2 ^ 1400 := by decide +kernel
  cases h
  refine ⟨Int.natCast_nonneg _, ?_⟩
  have q : NumText.digitsVal (cl z) < 2 ^ 1400 := Nat.lt_of_lt_of_le (by rw [Nat.zero_add, Nat.one_mul] at lt; exact lt) (Nat.le_trans p p2)
  exact_mod_cast q
 ·cases h
theorem one_bg : BG 1400 1 := ⟨by decide, by decide +kernel⟩
theorem due_bg {z : Str} {a b : Int} (h : dueS z = some (a, b)) : BG 1400 a /\ BG 1400 b := by
 unfold dueS at h
 cases hw : writ z with
 | none => rw [hw] at h; cases h
 | some uv =>
  obtain ⟨u, v⟩ := uv
  rw [hw] at h
  obtain ⟨nu, nv⟩ := writ_nn hw
  rcases nu with rfl | ⟨n, rfl⟩
  ·cases h
  rcases nv with rfl | ⟨m, rfl⟩
  ·cases h
  have h' : (if isSh n m then some (n, m) else none) = some (a, b) := h
  split at h'
  ·cases h'
   unfold writ at hw
   split at hw
   ·have hw1 := (Prod.mk.inj (Option.some.inj hw)).1
    have hw2 := (Prod.mk.inj (Option.some.inj hw)).2
    cases hw2
    exact ⟨plain_bg hw1, one_bg⟩
   ·split at hw
    ·cases hw
    ·exact ⟨plain_bg (Prod.mk.inj (Option.some.inj hw)).1, plain_bg (Prod.mk.inj (Option.some.inj hw)).2⟩
  ·cases h'
theorem due_bgV {x : V} {a b : Int} (h : due x = some (a, b)) : BG 1400 a /\ BG 1400 b := by
 cases x with
 | str z => exact due_bg h
 | _ => cases h
theorem int_len42 {i : Int} (h : BG 141 i) : (toString i : Str).length <= 45 := by
 obtain ⟨a, rfl⟩ := Int.eq_ofNat_of_zero_le h.1
 have h1 : a < 2 ^ 141 := by have := h.2; exact_mod_cast this
 have h2 : a < 10 ^ 45 := Nat.lt_trans h1 (by decide +kernel)
 have h3 := PySem.toDigits_len_pow (b := 10) (k := 45) (by decide) (by decide) h2
 have e := num_cl a
 have : (cl (toString (Int.ofNat a) : Str)).length = (toString (Int.ofNat a) : Str).length := Array.length_toList
 show (toString (Int.ofNat a) : Str).length <= 45
 rw [<- this, e, List.length_map]
 exact h3
theorem text_len {a b : Int} (ha : BG 141 a) (hb : BG 141 b) : (textOf a b).length <= 91 := by
 have la := int_len42 ha
 have lb := int_len42 hb
 have ls : (("/" : Str)).length = 1 := by decide
 unfold textOf
 split
 ·omega
 ·rw [PySem.strLen_append, PySem.strLen_append]; omega
end S
set_option Elab.async false
set_option linter.all false
set_option maxRecDepth 100000
namespace S
open PySem L2
theorem tup_away {b t : Addr} {xs : List V} {H H' : Hp} (h : H t = some (.tup xs)) (hb : BoxAt H b) (g : Away b H H') : H' t = some (.tup xs) := g t _ h (fun e => by
 obtain ⟨d, s, h1, _⟩ := hb
 rw [e, h1] at h
 cases h)
structure Gd (K : PySem.W.Frag) (H : Hp) (x : V) (d : PyData) : Prop where
 ok : ∀ H', Same H H' -> Th H' x /\ DW K H' x d
 asc : ∀ z, x = .str z -> Asc z
 shw : d.showable = true
 dep : d.depth <= 50
 lvs : d.leavesShort 500 = true
 blk : d.bulk <= 5000
theorem Gd.mono {K : PySem.W.Frag} {H H' : Hp} {x : V} {d : PyData} (h : Gd K H x d) (g : Same H H') : Gd K H' x d := ⟨fun H2 g2 => h.ok H2 (g.trans g2), h.asc, h.shw, h.dep, h.lvs, h.blk⟩
theorem asc_short {z : Str} (h : Asc z) : (PyData.str z).leavesShort 500 = true := by
 have : (z.cps.toList.all fun c => decide (c < 16 ^ 8)) = true := List.all_eq_true.mpr fun c hc => decide_eq_true (Nat.lt_trans (h c hc) (by decide))
 simp only [PyData.leavesShort, this]
theorem Gd.str {K : PySem.W.Frag} {H : Hp} {z : Str} (h : Asc z) (l : z.length <= 1000) : Gd K H (.str z) (.str z) := by
 refine ⟨fun H' _ => ⟨(by show z.length <= 100000; omega), .str z⟩, fun y e => by cases e; exact h, rfl, (by simp only [PyData.depth]; omega), asc_short h, ?_⟩
 have : z.cps.size = z.length := rfl
 simp only [PyData.bulk]
 omega
theorem Gd.non {K : PySem.W.Frag} {H : Hp} : Gd K H .non .none := ⟨fun H' _ => ⟨trivial, .non⟩, fun y e => (nomatch e), rfl, (by simp only [PyData.depth]; omega), rfl, (by simp only [PyData.bulk]; omega)⟩
theorem Gd.bl {K : PySem.W.Frag} {H : Hp} {b : Bool} : Gd K H (.bl b) (.bool b) := ⟨fun H' _ => ⟨trivial, .bl b⟩, fun y e => (nomatch e), rfl, (by simp only [PyData.depth]; omega), rfl, (by simp only [PyData.bulk]; omega)⟩
theorem Gd.int {K : PySem.W.Frag} {H : Hp} {i : Int} (h : BG 1400 i) : Gd K H (.int i) (.int i) := ⟨fun H' _ => ⟨trivial, .int i⟩, fun y e => (nomatch e), (by simp only [PyData.showable, decide_eq_true (log_lt h)]), (by simp only [PyData.depth]; omega), (by simp only [PyData.leavesShort, decide_eq_true (shown_int h)]), (by simp only [PyData.bulk]; omega)⟩
theorem Gd.share {K : PySem.W.Frag} {H : Hp} {t : Addr} {a b : Int} (h : H t = some (.tup [.int a, .int b])) (ha : BG 1400 a) (hb : BG 1400 b) : Gd K H (.ref t) (.tuple [.int a, .int b]) :=
 ⟨fun H' g => ⟨.inr (.inl ⟨_, g _ _ h⟩), .tup (SqT.of (g _ _ h)) (.cons (.int _) (.cons (.int _) .nil))⟩, fun y e => (nomatch e), (by simp only [PyData.showable, PyData.showableAll, decide_eq_true (log_lt ha), decide_eq_true (log_lt hb)]; rfl), (by simp only [PyData.depth, PyData.depthAll]; omega), (by simp only [PyData.leavesShort, PyData.leavesShortAll, decide_eq_true (shown_int ha), decide_eq_true (shown_int hb)]; rfl), (by simp only [PyData.bulk, PyData.bulkAll]; omega)⟩
theorem Gd.lst {K : PySem.W.Frag} {H : Hp} {t : Addr} {z : Str} (h : H t = some (.lst [.str z])) (ne : t ≠ sysModules) (hz : Asc z) (l : z.length <= 1000) : Gd K H (.ref t) (.list [.str z]) := by
 refine ⟨fun H' g => ⟨.inl ⟨_, g _ _ h⟩, .lst (SqL.of (g _ _ h)) ne (.cons (.str _) .nil)⟩, fun y e => (nomatch e), rfl, (by simp only [PyData.depth, PyData.depthAll]; omega), ?_, ?_⟩
 ·have := asc_short hz
  simp only [PyData.leavesShort] at this
  simp only [PyData.leavesShort, PyData.leavesShortAll, this]
  rfl
 ·have : z.cps.size = z.length := rfl
  simp only [PyData.bulk, PyData.bulkAll]
  omega
theorem Gd.dct {K : PySem.W.Frag} {H : Hp} {t : Addr} (h : H t = some (.dK [])) : Gd K H (.ref t) (.dict []) :=
 ⟨fun H' g => ⟨.inr (.inr ⟨_, g _ _ h⟩), .dct (kvs := []) (g _ _ h) .nil⟩, fun y e => (nomatch e), rfl, (by simp only [PyData.depth, PyData.depthKv]; omega), rfl, (by simp only [PyData.bulk, PyData.bulkKv]; omega)⟩
theorem Gd.out {K : PySem.W.Frag} {H H' : Hp} {x : V} {d : PyData} {r : Addr} (h : Gd K H x d) (g : Same H H') (A : Ans H' r x (due x)) : DW K H' (.ref r) (ansD d (due x)) /\ (ansD d (due x)).showable = true /\ (ansD d (due x)).depth <= 100 /\ (ansD d (due x)).shown.length <= sizeLine :=
 ⟨A.dw (h.ok H' g).2, ansD_show h.shw (fun _ _ e => due_bgV e), ansD_deep h.dep, ansD_len h.lvs h.blk (fun _ _ e => due_bgV e)⟩
end S
set_option Elab.async false
set_option linter.all false
set_option maxRecDepth 100000
namespace S
open PySem L2
def spCase : Sp := fun vs H Q _ => ∃ b, vs = [.ref b] /\ BoxAt H b /\ ∀ H', Away b H H' -> Q (.bl true) H'
section
variable {P : Program} {w : World} {K : PySem.W.Frag} {mg : Str -> Option Value} {base : Heap}
theorem scCase : FnScope ["_law_box_here", "_law_share_here", "_law_text_here", "_law_turn", "_law_spoilt_here", "_law_factor", "_law_thing", "_law_odd"] ["_law_box_here"] (defScope s_law_case) := ⟨rfl, rfl, rfl, by decide +kernel, rfl, by decide +kernel, by decide +kernel⟩
set_option maxHeartbeats 2000000 in
theorem ok_case {f a1 a2 a3 a4 a5 a6 a7 : Addr} {fd d1 d2 d3 d4 d5 d6 d7 : FuncData} (F : Fun K "_law_case" "_law_case" s_law_case f fd) (T : Txt mg) (mp : mg "repr" = none) (mr : mg "range" = none)
  (D1 : Def P w K mg base 3 "_law_share" ["_law_box_here"] spShare a1 d1) (D2 : Def P w K mg base 1 "_law_text" ["_law_share_here"] spLText a2 d2) (D3 : Def P w K mg base 5 "share_text" ["share"] spText a3 d3) (D4 : Def P w K mg base 5 "_law_told" ["_law_thing"] spTold a4 d4)
  (D5 : Def P w K mg base 2 "_law_spoilt" ["_law_box_here", "_law_text_here"] spSpoilt a5 d5) (D6 : Def P w K mg base 1 "_law_take" ["_law_box_here", "_law_many"] spTake a6 d6) (D7 : Def P w K mg base 2 "_law_due" ["_law_thing"] spDue a7 d7) : FnOk P w K mg base CX0 6 f fd ["_law_box_here"] spCase := by
 refine F.ok scCase (fun vs H Q E h => ?_) (fun cdv A outer s H vs Q E hr h => ?_)
 ·obtain ⟨b, rfl, _⟩ := h
  rfl
 obtain ⟨b, rfl, hb, q⟩ := h
 have hr1 : Room 1 _ := hr.mono (by decide)
 have hr2 : Room 2 _ := hr.mono (by decide)
 have hr3 : Room 3 _ := hr.mono (by decide)
 refine ⟨_, pss_cons (ps_set (i := 1) scCase.nd rfl (Or.inl rfl) (pe_call D1.ok hr3 rfl D1.m D1.k D1.b .nil pass0 (pa_cons (pv 0) pa_nil)))
  (pss_cons (ps_set (i := 2) scCase.nd rfl (Or.inl rfl) (pe_call D2.ok hr1 rfl D2.m D2.k D2.b .nil pass0 (pa_cons (pv 1) pa_nil)))
  (pss_cons (ps_if (PW.pt (pw_or (pt_cmpR op_ne (pe_call D3.ok hr rfl D3.m D3.k D3.b .nil pass0 (pa_cons (pv 1) pa_nil)) (pv 2) (nomark _)) (pw_or1 (pt_cmpR op_ne (pe_callB (call_reprD hr) rfl mp PyProof.Rows.boot_repr (pa_cons (pe_call D4.ok hr rfl D4.m D4.k D4.b .nil pass0 (pa_cons (pv 2) pa_nil)) pa_nil)) (pe_callB (call_reprD hr) rfl mp PyProof.Rows.boot_repr (pa_cons (pe_tup (pa_cons pe_str (pa_cons (pv 1) pa_nil))) pa_nil)) (nomark _))))) (pss_one (ps_ret pe_bl)) pss_nil)
  (pss_cons (ps_for PassesOwn.never rfl (pi_range1 rfl mr (pa_cons pe_int pa_nil)) (pg_name (i := 3) scCase.nd rfl (Or.inl rfl))
   (pss_cons (ps_set (i := 4) scCase.nd rfl (Or.inl rfl) (pe_call D5.ok hr2 rfl D5.m D5.k D5.b .nil pass0 (pa_cons (pv 0) (pa_cons (pv 2) pa_nil))))
   (pss_cons (ps_if (pt_cmpR op_eq (pe_call D6.ok hr1 rfl D6.m D6.k D6.b .nil pass0 (pa_cons (pv 0) (pa_cons pe_int pa_nil))) pe_int (nomark _)) (pss_one (ps_set (i := 4) scCase.nd rfl (Or.inl rfl) (pe_call D5.ok hr2 rfl D5.m D5.k D5.b .nil pass0 (pa_cons (pv 0) (pa_cons (pv 4) pa_nil))))) pss_nil)
   (pss_one (ps_if (pt_cmpR op_ne (pe_callB (call_reprD hr) rfl mp PyProof.Rows.boot_repr (pa_cons (pe_call D4.ok hr rfl D4.m D4.k D4.b .nil pass0 (pa_cons (pv 4) pa_nil)) pa_nil)) (pe_callB (call_reprD hr) rfl mp PyProof.Rows.boot_repr (pa_cons (pe_call D7.ok hr2 rfl D7.m D7.k D7.b .nil pass0 (pa_cons (pv 4) pa_nil)) pa_nil)) (nomark _)) (pss_one (ps_ret pe_bl)) pss_nil)))))
  (pss_cons (ps_set (i := 5) scCase.nd rfl (Or.inl rfl) (pe_op op_add pe_int (pe_call D6.ok hr1 rfl D6.m D6.k D6.b .nil pass0 (pa_cons (pv 0) (pa_cons pe_int pa_nil)))))
  (pss_cons (ps_set (i := 6) scCase.nd rfl (Or.inl rfl) (pe_op op_add_str (pe_op op_add_str (pe_callTy call_str_int rfl T.str PyProof.Rows.boot_str (pa_cons (pe_op op_mulB (pe_ix ix_tup (pv 1) pe_int (fun _ _ => rfl)) (pv 5)) pa_nil)) pe_str) (pe_callTy call_str_int rfl T.str PyProof.Rows.boot_str (pa_cons (pe_op op_mulB (pe_ix ix_tup (pv 1) pe_int (fun _ _ => rfl)) (pv 5)) pa_nil))))
  (pss_cons (ps_for PassesOwn.never rfl (pi_seq (pe_lst (pa_cons (pv 6) (pa_cons pe_str (pa_cons pe_str (pa_cons pe_str (pa_cons pe_str (pa_cons pe_str (pa_cons pe_non (pa_cons pe_int (pa_cons pe_bl (pa_cons (pv 1) (pa_cons (pe_lstN (pa_cons (pv 2) pa_nil)) (pa_cons pe_dnewK pa_nil)))))))))))))) (pg_name (i := 7) scCase.nd rfl (Or.inl rfl))
   (pss_one (ps_if (pt_cmpR op_ne (pe_callB (call_reprD hr) rfl mp PyProof.Rows.boot_repr (pa_cons (pe_call D4.ok hr rfl D4.m D4.k D4.b .nil pass0 (pa_cons (pv 7) pa_nil)) pa_nil)) (pe_callB (call_reprD hr) rfl mp PyProof.Rows.boot_repr (pa_cons (pe_call D7.ok hr2 rfl D7.m D7.k D7.b .nil pass0 (pa_cons (pv 7) pa_nil)) pa_nil)) (nomark _)) (pss_one (ps_ret pe_bl)) pss_nil)))
  (pss_one (ps_ret (pe_cmpR op_eq (pe_callB (call_reprD hr) rfl mp PyProof.Rows.boot_repr (pa_cons (pe_call D4.ok hr rfl D4.m D4.k D4.b .nil pass0 (pa_cons (pv 2) pa_nil)) pa_nil)) (pe_callB (call_reprD hr) rfl mp PyProof.Rows.boot_repr (pa_cons (pe_tup (pa_cons pe_str (pa_cons (pv 1) pa_nil))) pa_nil)) (nomark _)))))))))), ?_⟩
 have s2 : (2 : Nat) <= sizeLine := by decide
 have s1 : 100000 <= sizeLine := by decide
 have small : ∀ {n : Int}, 0 < n -> n < 1000 -> BG 8000 n := fun h0 h1 => (bg_of (n := 10) (by omega) (by omega)).mono (by decide)
 have same : ∀ z : Str, (!decide (V.str z = V.str z)) = false := fun z => by simp
 refine ⟨_, rfl, b, rfl, hb, fun t x y H1 fr c1 sh xB yB b1 w1 => ?_⟩
 have X1 := xB.mono (show 138 <= 1400 by decide)
 have Y1 := yB.mono (show 138 <= 1400 by decide)
 refine ⟨_, rfl, t, x, y, rfl, c1, X1, Y1, ?_⟩
 refine ⟨_, rfl, t, x, y, rfl, c1, sh, X1, Y1, fun H2 g2 => ?_⟩
 have zA := asc_text xB.1 yB.1
 have zL := text_len (xB.mono (show 138 <= 141 by decide)) (yB.mono (show 138 <= 141 by decide))
 have zD : due (.str (textOf x y)) = some (x, y) := due_text sh (xB.mono (by decide)) (yB.mono (by decide))
 generalize textOf x y = z at zA zL zD ⊢
 have gz : ∀ H', Gd K H' (.str z) (.str z) := fun H' => Gd.str zA (by omega)
 have again : ∀ H' p, H' t = some (.tup [.int x, .int y]) -> H' p = none -> DW K (upd H' p (.tup [.str "told", .ref t])) (.ref p) (ansD (.str z) (due (.str z))) /\ (ansD (.str z) (due (.str z))).showable = true /\ (ansD (.str z) (due (.str z))).depth <= 100 /\ (ansD (.str z) (due (.str z))).shown.length <= sizeLine := fun H' p ht hp =>
  (gz _).out (Same.refl _) (by rw [zD]; exact ⟨t, same_new hp _ _ _ ht, upd_same⟩)
 have th : ∀ H', Th H' (.str z) := fun H' => ((gz H').ok H' (Same.refl _)).1
 refine ⟨_, rfl, rfl, _, rfl, ?_⟩
 rw [same]
 refine iteF ⟨_, rfl, .str z, rfl, th H2, fun r H3 g3 A3 => ⟨.ref r, _, rfl, ((gz H2).out g3 A3).1, ((gz H2).out g3 A3).2.1, ((gz H2).out g3 A3).2.2.1, ((gz H2).out g3 A3).2.2.2, _, rfl, s2, fun p hp => ⟨.ref p, _, rfl, (again H3 p ((g2.trans g3) _ _ c1) hp).1, (again H3 p ((g2.trans g3) _ _ c1) hp).2.1, (again H3 p ((g2.trans g3) _ _ c1) hp).2.2.1, (again H3 p ((g2.trans g3) _ _ c1) hp).2.2.2, rfl, _, rfl, ?_⟩⟩⟩
 rw [same]
 refine iteF ?_
 have g4 := (g2.trans g3).trans (same_new hp (.tup [.str "told", .ref t]))
 generalize upd H3 p (.tup [.str "told", .ref t]) = H4 at g4 ⊢
 have w4 : Away b H H4 := w1.trans (away_of g4)
 have b4 := b1.same g4
 have c4 := g4 _ _ c1
 refine ⟨3, rfl, by decide, by decide, ?_⟩
 refine for_range (lo := 0) (fun i σ H' => Away b H H' /\ BoxAt H' b /\ H' t = some (.tup [.int x, .int y]) /\ ∃ u v, σ = [some (.ref b), some (.ref t), some (.str z), u, v, none, none, none]) ⟨w4, b4, c4, _, _, rfl⟩ (fun i σ H5 hi hP => ?_) (fun σ H5 hP => ?_)
 ·obtain ⟨w5, b5, c5, u, v, rfl⟩ := hP
  refine ⟨_, rfl, _, rfl, b, z, rfl, b5, zA, by omega, fun y1 H6 b6 w6 a6 l6 => ?_⟩
  refine ⟨_, rfl, b, 3, rfl, by decide, small (by decide) (by decide), b6, fun k H7 k0 k3 b7 w7 => ⟨rfl, _, rfl, ?_⟩⟩
  have w57 := w6.trans w7.away
  have w07 := w5.trans w57
  have c7 := tup_away c5 b5 w57
  refine ite2 (fun _ => ?_) (fun _ => ?_)
  ·refine ⟨_, rfl, _, rfl, b, y1, rfl, b7, a6, by omega, fun y2 H8 b8 w8 a8 l8 => ?_⟩
   have gy : Gd K H8 (.str y2) (.str y2) := Gd.str a8 (by omega)
   refine ⟨_, rfl, .str y2, rfl, (gy.ok _ (Same.refl _)).1, fun r H9 g9 A9 => ⟨.ref r, _, rfl, (gy.out g9 A9).1, (gy.out g9 A9).2.1, (gy.out g9 A9).2.2.1, (gy.out g9 A9).2.2.2, _, rfl, .str y2, rfl, (gy.ok _ g9).1, gy.asc, fun r2 HA gA AA => ⟨.ref r2, _, rfl, (gy.out (g9.trans gA) AA).1, (gy.out (g9.trans gA) AA).2.1, (gy.out (g9.trans gA) AA).2.2.1, (gy.out (g9.trans gA) AA).2.2.2, rfl, _, rfl, ?_⟩⟩⟩
   rw [same]
   have gg := g9.trans gA
   exact iteF ⟨(w07.trans w8).trans (away_of gg), b8.same gg, gg _ _ (tup_away c7 b7 w8), _, _, rfl⟩
  ·have gy : Gd K H7 (.str y1) (.str y1) := Gd.str a6 (by omega)
   refine ⟨_, rfl, .str y1, rfl, (gy.ok _ (Same.refl _)).1, fun r H9 g9 A9 => ⟨.ref r, _, rfl, (gy.out g9 A9).1, (gy.out g9 A9).2.1, (gy.out g9 A9).2.2.1, (gy.out g9 A9).2.2.2, _, rfl, .str y1, rfl, (gy.ok _ g9).1, gy.asc, fun r2 HA gA AA => ⟨.ref r2, _, rfl, (gy.out (g9.trans gA) AA).1, (gy.out (g9.trans gA) AA).2.1, (gy.out (g9.trans gA) AA).2.2.1, (gy.out (g9.trans gA) AA).2.2.2, rfl, _, rfl, ?_⟩⟩⟩
   rw [same]
   have gg := g9.trans gA
   exact iteF ⟨w07.trans (away_of gg), b7.same gg, gg _ _ c7, _, _, rfl⟩
 obtain ⟨w5, b5, c5, u, v, rfl⟩ := hP
 refine ⟨_, rfl, b, 5, rfl, by decide, small (by decide) (by decide), b5, fun k H6 k0 k5 b6 w6 => ⟨_, _, rfl, rfl, ?_⟩⟩
 have c6 := tup_away c5 b5 w6.away
 have w06 := w5.trans w6.away
 have fB : BG 3 (2 + k) := bg_of (by omega) (by omega)
 have xF := xB.mul fB
 have yF := yB.mul fB
 have lx := int_len42 xF
 have ly := int_len42 yF
 have ls : (("/" : Str)).length = 1 := by decide
 refine ⟨_, rfl, t, _, _, _, rfl, rfl, SqT.of c6, rfl, _, rfl, _, _, rfl, rfl, ⟨xB.abs (by decide), fB.abs (by decide)⟩, _, rfl, log_lt (xF.mono (by decide)), _, _, rfl, rfl, by omega, _, rfl, t, _, _, _, rfl, rfl, SqT.of c6, rfl, _, rfl, _, _, rfl, rfl, ⟨yB.abs (by decide), fB.abs (by decide)⟩, _, rfl, log_lt (yF.mono (by decide)), _, _, rfl, rfl, by rw [PySem.strLen_append]; omega, ?_⟩
 have tA : Asc ((toString (x * (2 + k)) : Str) ++ "/" ++ (toString (y * (2 + k)) : Str)) := ((asc_int xF.1).app asc_slash).app (asc_int yF.1)
 have tL : ((toString (x * (2 + k)) : Str) ++ "/" ++ (toString (y * (2 + k)) : Str)).length <= 91 := by rw [PySem.strLen_append, PySem.strLen_append]; omega
 generalize (toString (x * (2 + k)) : Str) ++ "/" ++ (toString (y * (2 + k)) : Str) = tg at tA tL ⊢
 refine ⟨_, rfl, _, rfl, _, rfl, (by show 1 <= sizeLine; decide), fun l1 hl1 ne1 => ?_⟩
 have g7 := same_new hl1 (.lst [.str z])
 have c7 : (upd H6 l1 (.lst [.str z])) l1 = some (.lst [.str z]) := upd_same
 generalize upd H6 l1 (.lst [.str z]) = H7 at g7 c7 ⊢
 intro l2 hl2
 have g8 := same_new hl2 (.dK [])
 have c8 : (upd H7 l2 (.dK [])) l2 = some (.dK []) := upd_same
 generalize upd H7 l2 (.dK []) = H8 at g8 c8 ⊢
 refine ⟨(by show 12 <= sizeLine; decide), fun L hL => ⟨L, rfl, ?_⟩⟩
 have g9 := same_new hL (.lst [.str tg, .str "", .str "/", .str "0/1", .str "0/7", .str "1/0", .non, .int 3, .bl true, .ref t, .ref l1, .ref l2])
 have c9 : (upd H8 L (.lst [.str tg, .str "", .str "/", .str "0/1", .str "0/7", .str "1/0", .non, .int 3, .bl true, .ref t, .ref l1, .ref l2])) L = some (.lst [.str tg, .str "", .str "/", .str "0/1", .str "0/7", .str "1/0", .non, .int 3, .bl true, .ref t, .ref l1, .ref l2]) := upd_same
 generalize upd H8 L (.lst [.str tg, .str "", .str "/", .str "0/1", .str "0/7", .str "1/0", .non, .int 3, .bl true, .ref t, .ref l1, .ref l2]) = H9 at g9 c9 ⊢
 have g69 := (g7.trans g8).trans g9
 have t9 := g69 _ _ c6
 refine seq_for (K := K) (ys := [.str tg, .str "", .str "/", .str "0/1", .str "0/7", .str "1/0", .non, .int 3, .bl true, .ref t, .ref l1, .ref l2]) (.inl (SqL.of c9)) (fun j σ H' => Same H9 H' /\ ∃ o, σ = [some (.ref b), some (.ref t), some (.str z), u, v, some (.int (2 + k)), some (.str tg), o]) ⟨Same.refl _, _, rfl⟩ (fun j σ H' hP o ho => by obtain ⟨g, _⟩ := hP; exact g _ _ ho) (fun j σ HA vv hj hx hP => ?_) (fun σ HA hP => ?_)
 ·obtain ⟨gA, o, rfl⟩ := hP
  obtain ⟨d, gd9⟩ : ∃ d, Gd K H9 vv d := by
   match j, hx with
   | 0, hx => cases hx; exact ⟨_, Gd.str tA (by omega)⟩
   | 1, hx => cases hx; exact ⟨_, Gd.str (by unfold Asc; decide +kernel) (by decide +kernel)⟩
   | 2, hx => cases hx; exact ⟨_, Gd.str (by unfold Asc; decide +kernel) (by decide +kernel)⟩
   | 3, hx => cases hx; exact ⟨_, Gd.str (by unfold Asc; decide +kernel) (by decide +kernel)⟩
   | 4, hx => cases hx; exact ⟨_, Gd.str (by unfold Asc; decide +kernel) (by decide +kernel)⟩
   | 5, hx => cases hx; exact ⟨_, Gd.str (by unfold Asc; decide +kernel) (by decide +kernel)⟩
   | 6, hx => cases hx; exact ⟨_, Gd.non⟩
   | 7, hx => cases hx; exact ⟨_, Gd.int ⟨by decide, by decide +kernel⟩⟩
   | 8, hx => cases hx; exact ⟨_, Gd.bl⟩
   | 9, hx => cases hx; exact ⟨_, Gd.share t9 X1 Y1⟩
   | 10, hx => cases hx; exact ⟨_, Gd.lst ((g8.trans g9) _ _ c7) ne1 zA (by omega)⟩
   | 11, hx => cases hx; exact ⟨_, Gd.dct (g9 _ _ c8)⟩
  have gy := gd9.mono gA
  refine ⟨_, rfl, vv, rfl, (gy.ok _ (Same.refl _)).1, fun r HB gB AB => ⟨.ref r, _, rfl, (gy.out gB AB).1, (gy.out gB AB).2.1, (gy.out gB AB).2.2.1, (gy.out gB AB).2.2.2, _, rfl, vv, rfl, (gy.ok _ gB).1, gy.asc, fun r2 HC gC AC => ⟨.ref r2, _, rfl, (gy.out (gB.trans gC) AC).1, (gy.out (gB.trans gC) AC).2.1, (gy.out (gB.trans gC) AC).2.2.1, (gy.out (gB.trans gC) AC).2.2.2, rfl, _, rfl, ?_⟩⟩⟩
  rw [same]
  exact iteF ⟨(gA.trans gB).trans gC, _, rfl⟩
 obtain ⟨gA, o, rfl⟩ := hP
 refine ⟨_, rfl, .str z, rfl, th HA, fun r HB gB AB => ⟨.ref r, _, rfl, ((gz HA).out gB AB).1, ((gz HA).out gB AB).2.1, ((gz HA).out gB AB).2.2.1, ((gz HA).out gB AB).2.2.2, _, rfl, s2, fun p hp => ⟨.ref p, _, rfl, (again HB p ((gA.trans gB) _ _ t9) hp).1, (again HB p ((gA.trans gB) _ _ t9) hp).2.1, (again HB p ((gA.trans gB) _ _ t9) hp).2.2.1, (again HB p ((gA.trans gB) _ _ t9) hp).2.2.2, rfl, ?_⟩⟩⟩
 rw [decide_eq_true rfl]
 exact q _ (((w06.trans (away_of g69)).trans (away_of (gA.trans gB))).trans (away_of (same_new hp _)))
end
end S
set_option Elab.async false
set_option linter.all false
set_option maxRecDepth 100000
namespace S
open PySem L2
abbrev GN : Nat := 7 * ((10 ^ 400 - 1) / 9)
def GR : Int := Int.ofNat GN
abbrev T400 : Str := PySem.Txt.mul "7" 400
abbrev T401 : Str := PySem.Txt.mul "7" 401
theorem cl_mul {n : Nat} (h : 2 <= n) : cl (PySem.Txt.mul "7" (n : Int)) = List.replicate n 55 := by
 have e7 : ("7" : Str) = ⟨#[55]⟩ := by decide +kernel
 have gen : ∀ (k : Nat) (a : Array Nat), ((List.replicate k (#[55] : Array Nat)).foldl (· ++ ·) a).toList = a.toList ++ List.replicate k 55 := by
  intro k
  induction k with
  | zero => intro a; simp
  | succ k ih =>
   intro a
   rw [List.replicate_succ, List.foldl_cons, ih, Array.toList_append, List.append_assoc]
   rfl
 unfold PySem.Txt.mul
 rw [e7]
 split
 ·omega
 ·split
  ·rename_i c1 c2
   exfalso
   rw [Bool.or_eq_true, beq_iff_eq, beq_iff_eq] at c2
   rcases c2 with c2 | c2
   ·omega
   ·exact absurd c2 (by decide)
  ·have := gen n #[]
   rw [show ((n : Nat) : Int).toNat = n from Int.toNat_natCast n]
   rw [show ((#[] : Array Nat).toList ++ List.replicate n 55) = List.replicate n 55 from rfl] at this
   exact this
theorem cl400 : cl T400 = List.replicate 400 55 := cl_mul (n := 400) (by decide)
theorem cl401 : cl T401 = List.replicate 401 55 := cl_mul (n := 401) (by decide)
theorem dv400 : NumText.digitsVal (List.replicate 400 55) = GN := by decide +kernel
theorem ad400 : NumText.AllDigits (List.replicate 400 55) := fun c hc => by
 have := List.eq_of_mem_replicate hc
 omega
theorem great_len : T400.length = 400 := by
 have : (cl T400).length = T400.length := Array.length_toList
 rw [<- this, cl400, List.length_replicate]
theorem great_len1 : T401.length = 401 := by
 have : (cl T401).length = T401.length := Array.length_toList
 rw [<- this, cl401, List.length_replicate]
theorem great_text : intText? T400 = some GR := by
 have e := cl400
 have l := great_len
 generalize T400 = z at e l
 have e' : z.cps.toList = List.replicate 400 55 := e
 have q := intText_digits (x := z) (by rw [e']; exact ad400) (by rw [e']; decide) (by omega)
 rw [e', dv400] at q
 exact q
theorem great_bg : BG 1400 GR := ⟨by decide +kernel, by decide +kernel⟩
theorem sh1 : isSh 1 GR := ⟨by decide +kernel, by decide +kernel, by decide +kernel⟩
theorem sh2 : isSh GR 1 := ⟨by decide +kernel, by decide +kernel, by decide +kernel⟩
theorem num_gr : (toString GR : Str) = T400 := by
 refine cl_inj ?_
 rw [cl400]
 show cl (toString (Int.ofNat GN) : Str) = _
 rw [num_cl, <- dv400, NumText.toDigits_digitsVal 399 (List.replicate 400 55) (by rw [List.length_replicate]) ad400 (.inr ⟨55, List.replicate 399 55, rfl, by decide⟩), List.map_replicate, List.map_replicate]
 rfl
theorem gr_ne : GR ≠ 1 := by decide +kernel
theorem tx1 : textOf 1 GR = ("1/" : Str) ++ T400 := by
 unfold textOf
 rw [if_neg gr_ne, num_gr]
 have : (toString (1 : Int) : Str) ++ "/" = ("1/" : Str) := by decide +kernel
 rw [this]
theorem tx2 : textOf GR 1 = T400 := by
 unfold textOf
 rw [if_pos rfl, num_gr]
theorem asc400 : Asc T400 := fun c hc => by
 rw [cl400] at hc
 have := List.eq_of_mem_replicate hc
 omega
theorem asc401 : Asc T401 := fun c hc => by
 rw [cl401] at hc
 have := List.eq_of_mem_replicate hc
 omega
theorem asc1 : Asc ("1/" : Str) := by unfold Asc; decide +kernel
theorem one_len : (("1/" : Str)).length = 2 := by decide +kernel
def spLong : Sp := fun vs H Q _ => vs = [] /\ ∀ H', Q (.bl true) H'
def spLaw (K : PySem.W.Frag) : Sp := fun vs H Q _ => ∃ (a : Addr) (ns : List Int), vs = [.ref a] /\ SqL K H a (ns.map V.int) /\ ns.length <= 63 /\ ∀ H', Q (.bl true) H'
section
variable {P : Program} {w : World} {K : PySem.W.Frag} {mg : Str -> Option Value} {base : Heap}
theorem scLong : FnScope ["_law_most", "_law_text_here"] [] (defScope s_law_long) := ⟨rfl, rfl, rfl, by decide +kernel, rfl, by decide +kernel, by decide +kernel⟩
set_option maxHeartbeats 2000000 in
theorem ok_long {f a3 a4 a7 : Addr} {fd d3 d4 d7 : FuncData} (F : Fun K "_law_long" "_law_long" s_law_long f fd) (mi : mg "int" = none) (mp : mg "repr" = none)
  (D3 : Def P w K mg base 5 "share_text" ["share"] spText a3 d3) (D4 : Def P w K mg base 5 "_law_told" ["_law_thing"] spTold a4 d4) (D7 : Def P w K mg base 2 "_law_due" ["_law_thing"] spDue a7 d7) : FnOk P w K mg base CX0 6 f fd [] spLong := by
 refine F.ok scLong (fun vs H Q E h => ?_) (fun cdv A outer s H vs Q E hr h => ?_)
 ·obtain ⟨rfl, _⟩ := h
  rfl
 obtain ⟨rfl, q⟩ := h
 have hr2 : Room 2 _ := hr.mono (by decide)
 refine ⟨_, pss_cons (ps_set (i := 0) scLong.nd rfl (Or.inl rfl) (pe_callTy call_intS rfl mi PyProof.Rows.boot_int (pa_cons (pe_op op_mulSx pe_str pe_int) pa_nil)))
  (pss_cons (ps_for PassesOwn.never rfl (pi_seq (pe_lst (pa_cons (pe_op op_mulSx pe_str pe_int) (pa_cons (pe_op op_mulSx pe_str pe_int) (pa_cons (pe_op op_add_str pe_str (pe_op op_mulSx pe_str pe_int)) (pa_cons (pe_op op_add_str pe_str (pe_op op_mulSx pe_str pe_int)) pa_nil)))))) (pg_name (i := 1) scLong.nd rfl (Or.inl rfl))
   (pss_one (ps_if (pt_cmpR op_ne (pe_callB (call_reprD hr) rfl mp PyProof.Rows.boot_repr (pa_cons (pe_call D4.ok hr rfl D4.m D4.k D4.b .nil pass0 (pa_cons (pv 1) pa_nil)) pa_nil)) (pe_callB (call_reprD hr) rfl mp PyProof.Rows.boot_repr (pa_cons (pe_call D7.ok hr2 rfl D7.m D7.k D7.b .nil pass0 (pa_cons (pv 1) pa_nil)) pa_nil)) (nomark _)) (pss_one (ps_ret pe_bl)) pss_nil)))
  (pss_one (ps_ret (pe_and (pe_cmpR op_eq (pe_call D3.ok hr rfl D3.m D3.k D3.b .nil pass0 (pa_cons (pe_tup (pa_cons pe_int (pa_cons (pv 0) pa_nil))) pa_nil)) (pe_op op_add_str pe_str (pe_op op_mulSx pe_str pe_int)) (nomark _))
   (pe_one (pe_cmpR op_eq (pe_call D3.ok hr rfl D3.m D3.k D3.b .nil pass0 (pa_cons (pe_tup (pa_cons (pv 0) (pa_cons pe_int pa_nil))) pa_nil)) (pe_op op_mulSx pe_str pe_int) (nomark _))))))), ?_⟩
 have s1 : 100000 <= sizeLine := by decide
 have l7 : (("7" : Str)).length <= 1000 := by decide +kernel
 have same : ∀ z : Str, (!decide (V.str z = V.str z)) = false := fun z => by simp
 have lA : (("1/" : Str)).length + T400.length <= sizeLine := by rw [one_len, great_len]; omega
 have lB : (("1/" : Str)).length + T401.length <= sizeLine := by rw [one_len, great_len1]; omega
 have gA4 : ∀ H', Gd K H' (.str T400) (.str T400) := fun H' => Gd.str asc400 (by rw [great_len]; decide)
 have gA5 : ∀ H', Gd K H' (.str T401) (.str T401) := fun H' => Gd.str asc401 (by rw [great_len1]; decide)
 have gB4 : ∀ H', Gd K H' (.str (("1/" : Str) ++ T400)) (.str (("1/" : Str) ++ T400)) := fun H' => Gd.str (asc1.app asc400) (by rw [PySem.strLen_append, one_len, great_len]; decide)
 have gB5 : ∀ H', Gd K H' (.str (("1/" : Str) ++ T401)) (.str (("1/" : Str) ++ T401)) := fun H' => Gd.str (asc1.app asc401) (by rw [PySem.strLen_append, one_len, great_len1]; decide)
 have t1 := tx1
 have t2 := tx2
 have gt := great_text
 have gl : T400.length <= 640 := by rw [great_len]; decide
 have gb := great_bg
 have e1 := sh1
 have e2 := sh2
 generalize GR = G at t1 t2 gt gb e1 e2
 refine ⟨_, _, rfl, rfl, by decide, by decide, l7, _, G, rfl, gt, gl, ?_⟩
 refine ⟨_, _, rfl, rfl, by decide, by decide, l7, _, _, rfl, rfl, by decide, by decide, l7, _, _, rfl, rfl, by decide, by decide, l7, _, _, rfl, rfl, lA, _, _, rfl, rfl, by decide, by decide, l7, _, _, rfl, rfl, lB, (by show 4 <= sizeLine; decide), fun L hL => ⟨L, rfl, ?_⟩⟩
 obtain ⟨ys, ey, all⟩ : ∃ ys : List V, ys = [.str T400, .str T401, .str (("1/" : Str) ++ T400), .str (("1/" : Str) ++ T401)] /\ ∀ v ∈ ys, ∃ d, ∀ H', Gd K H' v d := by
  refine ⟨_, rfl, fun v hv => ?_⟩
  simp only [List.mem_cons, List.not_mem_nil, or_false] at hv
  rcases hv with rfl | rfl | rfl | rfl
  ·exact ⟨_, gA4⟩
  ·exact ⟨_, gA5⟩
  ·exact ⟨_, gB4⟩
  ·exact ⟨_, gB5⟩
 have g1 := same_new hL (.lst ys)
 have c1 : (upd H L (.lst ys)) L = some (.lst ys) := upd_same
 rw [<- ey]
 generalize upd H L (.lst ys) = H1 at g1 c1 ⊢
 refine seq_for (K := K) (ys := ys) (.inl (SqL.of c1)) (fun j σ H' => Same H1 H' /\ ∃ o, σ = [some (.int G), o]) ⟨Same.refl _, _, rfl⟩ (fun j σ H' hP o ho => by obtain ⟨g, _⟩ := hP; exact g _ _ ho) (fun j σ HA vv hj hx hP => ?_) (fun σ HA hP => ?_)
 ·obtain ⟨gA, o, rfl⟩ := hP
  obtain ⟨d, gy'⟩ := all vv (List.mem_of_getElem? hx)
  have gy := gy' HA
  refine ⟨_, rfl, vv, rfl, (gy.ok _ (Same.refl _)).1, fun r HB gB AB => ⟨.ref r, _, rfl, (gy.out gB AB).1, (gy.out gB AB).2.1, (gy.out gB AB).2.2.1, (gy.out gB AB).2.2.2, _, rfl, vv, rfl, (gy.ok _ gB).1, gy.asc, fun r2 HC gC AC => ⟨.ref r2, _, rfl, (gy.out (gB.trans gC) AC).1, (gy.out (gB.trans gC) AC).2.1, (gy.out (gB.trans gC) AC).2.2.1, (gy.out (gB.trans gC) AC).2.2.2, rfl, _, rfl, ?_⟩⟩⟩
  rw [same]
  exact iteF ⟨(gA.trans gB).trans gC, _, rfl⟩
 obtain ⟨gA, o, rfl⟩ := hP
 refine ⟨_, rfl, (by show 2 <= sizeLine; decide), fun p hp => ⟨p, 1, G, rfl, upd_same, e1, one_bg, gb, fun HB gB => ⟨_, _, rfl, rfl, by decide, by decide, l7, _, _, rfl, rfl, lA, rfl, _, rfl, ?_⟩⟩⟩
 rw [decide_eq_true (congrArg V.str t1)]
 refine iteT ⟨_, rfl, (by show 2 <= sizeLine; decide), fun p2 hp2 => ⟨p2, G, 1, rfl, upd_same, e2, gb, one_bg, fun HC gC => ⟨_, _, rfl, rfl, by decide, by decide, l7, rfl, ?_⟩⟩⟩
 rw [decide_eq_true (congrArg V.str t2)]
 exact q _
theorem scLaw : FnScope ["_law_script", "_law_k"] ["_law_script"] (defScope sLaw) := ⟨rfl, rfl, rfl, by decide +kernel, rfl, by decide +kernel, by decide +kernel⟩
theorem ok_law {f a1 a2 a3 : Addr} {fd d1 d2 d3 : FuncData} (F : Fun K "law" "law" sLaw f fd) (mr : mg "range" = none) (mx : mg "max" = none) (mn : mg "min" = none) (ml : mg "len" = none) (D1 : Def P w K mg base 1 "_law_box" ["_law_script", "_law_k"] (spBox K) a1 d1) (D2 : Def P w K mg base 6 "_law_case" ["_law_box_here"] spCase a2 d2)
  (D3 : Def P w K mg base 6 "_law_long" [] spLong a3 d3) : FnOk P w K mg base CX0 7 f fd ["_law_script"] (spLaw K) := by
 refine F.ok scLaw (fun vs H Q E h => ?_) (fun cdv A outer s H vs Q E hr h => ?_)
 ·obtain ⟨a, ns, rfl, _⟩ := h
  rfl
 obtain ⟨a, ns, rfl, hS, hl, q⟩ := h
 have hr1 : Room 1 _ := hr.mono (by decide)
 refine ⟨_, pss_cons (ps_for PassesOwn.never rfl (pi_range1 rfl mr (pa_cons (pe_callB (call_max2 rfl) rfl mx PyProof.Rows.boot_max (pa_cons pe_int (pa_cons (pe_callB (call_min2 rfl) rfl mn PyProof.Rows.boot_min (pa_cons (pe_callB call_len_seq rfl ml PySem.boot_len (pa_cons (pv 0) pa_nil)) (pa_cons pe_int pa_nil))) pa_nil))) pa_nil)) (pg_name (i := 1) scLaw.nd rfl (Or.inl rfl))
   (pss_one (ps_if (pt_not (pt_val (pe_call D2.ok hr rfl D2.m D2.k D2.b .nil pass0 (pa_cons (pe_call D1.ok hr1 rfl D1.m D1.k D1.b .nil pass0 (pa_cons (pv 0) (pa_cons (pv 1) pa_nil))) pa_nil)))) (pss_one (ps_ret pe_bl)) pss_nil)))
  (pss_one (ps_ret (pe_call0 D3.ok hr rfl D3.m D3.k D3.b .nil pass0))), ?_⟩
 refine ⟨_, rfl, a, _, rfl, .inl hS, _, _, rfl, _, _, rfl, _, rfl, ?_, ?_, ?_⟩
 ·split <;> (try split) <;> (try simp only [List.length_map]) <;> omega
 ·split <;> (try split) <;> (try simp only [List.length_map]) <;> omega
 refine for_range (lo := 0) (fun i σ H' => ∃ k, σ = [some (.ref a), k] /\ Same H H') ⟨_, rfl, Same.refl H⟩ ?_ ?_
 ·rintro i σ H' hi ⟨k, rfl, g⟩
  have hi' : i < 100 := by
   refine Nat.lt_of_lt_of_le hi ?_
   split <;> (try split) <;> (try simp only [List.length_map]) <;> omega
  refine ⟨_, rfl, _, rfl, a, ns, _, rfl, g.seq hS, by omega, by omega, fun b H2 g2 hb hb2 => ?_⟩
  refine ⟨b, rfl, hb2, fun H3 a3 => ⟨_, rfl, iteF ⟨_, rfl, fun c o hc => ?_⟩⟩⟩
  have hc' := g c o hc
  exact a3 c o (g2 c o hc') (ne_of_none hc' hb)
 ·rintro σ H' ⟨k, rfl, g⟩
  exact ⟨rfl, q⟩
end
end S
set_option Elab.async false
set_option linter.all false
set_option maxRecDepth 100000
namespace HT
open PySem PySem.W PySem.Calls PyProof.Rows
def topRunT (tb : String -> Option Builtin) (p : Program) (w : World) (m : Nat) (ann : Option Value) : Nat -> SharedT -> Thread -> Option SharedT
 | 0, _, _ => none
 | n + 1, s, t => match through t with
  | true => some s
  | false => match stepOk m ann t with
   | false => none
   | true => match stepT (denote tb) p w s t with
    | some (s', t') => topRunT tb p w m ann n s' t'
    | none => none
theorem topRun_ofT {tb : String -> Option Builtin} {p : Program} {w : World} {m : Nat} {ann : Option Value} : ∀ {n : Nat} {s s' : SharedT} {t : Thread}, topRunT tb p w m ann n s t = some s' -> topRun tb p w m ann n s.abs t = some s'.abs
 | 0, _, _, _, h => by cases h
 | n + 1, s, s', t, h => by
  unfold topRunT at h
  unfold topRun
  cases he : through t with
  | true => rw [he] at h; cases h; rfl
  | false =>
   rw [he] at h
   cases hk : stepOk m ann t with
   | false => rw [hk] at h; cases h
   | true =>
    rw [hk] at h
    cases hs : stepT (denote tb) p w s t with
    | none => rw [hs] at h; cases h
    | some r => obtain ⟨a, b⟩ := r; rw [hs] at h; rw [stepT_spec hs]; exact topRun_ofT h
def bt (l : List Obj) : Nat -> Nat -> Nat -> BT
 | 0, _, _ => .nil
 | n + 1, a, b => match l[b]? with
  | some o => .node o (bt l n (2 * a) (a + b)) (bt l n (2 * a) (2 * a + b))
  | none => .nil
noncomputable def bootT (P : Params) : BT := bt (boot_heap P).objs.toList 10 1 0
def bootN : Nat := 11
theorem boot_abs (P : Params) : absHeap (bootT P) bootN (boot_heap P).life = boot_heap P := by
 kernel_rfl
theorem boot_ann (P : Params) : (boot_heap P).nsMap mainGlobals "__annotations__" = some (Value.ref 6) := by kernel_rfl
theorem boot_ns (P : Params) : (boot_heap P).isNs mainGlobals = true := by kernel_rfl
theorem boot_size (P : Params) : (boot_heap P).objs.size = bootN := by kernel_rfl
noncomputable def start0 (P : Params) (os : OsState) : SharedT := ⟨bootT P, bootN, (boot_heap P).life, Array.mk [], boot_drawn, boot_toks, os⟩
theorem start0_abs (P : Params) (os : OsState) : (start0 P os).abs = ⟨boot_heap P, Array.mk [], boot_drawn, boot_toks, os⟩ := by
 unfold start0 SharedT.abs
 dsimp only
 rw [boot_abs]
noncomputable def ran (p q : Program) (loose : List Str) (Xt : Shared -> Bool) {α : Type} (Yf : Shared -> α) (N : Nat) (w : World) (os : OsState) :=
 (topRunT treeTable p w bootN (some (Value.ref 6)) N (start0 w.params os) (topStub p)).map fun s =>
  (staticsOk (importedModules p.main.body) (boot_heap w.params) s.abs.heap && namesBound p s.abs.heap && gensDone s.abs && laidKept (boot_heap w.params) s.abs.heap,
   openSeen q loose (importedModules p.main.body) Xt true s.abs, Yf s.abs)
theorem left_of {p q : Program} {loose : List Str} {Xt : Shared -> Bool} {α : Type} {Yf : Shared -> α} {Ya : World -> α} {N : Nat}
  (e : opening p = plainProg p.main.scope.names) (hN : Nat.ble 600 N = true) (f : ∀ s, fenceModules? p s = some s)
  (h : ∀ w os, ran p q loose Xt Yf N w os = some (true, openGood q loose, Ya w)) : LeftO p q loose Xt Yf Ya N := fun w => by
 obtain ⟨⟨hp, gs, d, k, os⟩, e1, e2⟩ := Option.map_eq_some_iff.mp (boot_open e hN f w)
 obtain ⟨rfl, rfl, rfl, rfl⟩ : hp = boot_heap w.params /\ gs = Array.mk [] /\ d = boot_drawn /\ k = boot_toks := by simpa using e2
 obtain ⟨s, r1, r2⟩ := Option.map_eq_some_iff.mp (h w os)
 have r3 := topRun_ofT r1
 rw [start0_abs] at r3
 obtain ⟨l1, l2, l3⟩ : _ /\ _ /\ _ := by simpa only [Prod.mk.injEq] using r2
 have t : topFrom treeTable p w N ⟨boot_heap w.params, Array.mk [], boot_drawn, boot_toks, os⟩ = some s.abs := by
  unfold topFrom
  dsimp only
  rw [boot_ann, boot_ns, boot_size, r3]
  show (match staticsOk (importedModules p.main.body) (boot_heap w.params) s.abs.heap && namesBound p s.abs.heap && gensDone s.abs && laidKept (boot_heap w.params) s.abs.heap with | true => _ | false => _) = _
  rw [l1]
 unfold openEnds
 rw [e1]
 show (topFrom treeTable p w N _).map _ = _
 rw [t]
 exact congrArg some (Prod.ext l2 l3)
def only (p : Program) (l : List Stmt) : Program := { p with main := { p.main with body := l } }
end HT
set_option Elab.async false
set_option linter.all false
set_option maxRecDepth 100000
namespace S
open PySem L2
theorem kit_of {K : PySem.W.Frag} {t c : String} {b : Bool} (n : ((Value.type t) == (Value.type c)) = false) (m : PySem.W.kitMeta c = true) (s : PySem.W.subIn K (.type t) (.type c) = some b) : PySem.W.kitOne K (.type t) (.type c) = some b := by
 unfold PySem.W.kitOne
 rw [if_neg (by rw [n]; simp)]
 unfold PySem.W.kitCls
 dsimp only
 rw [if_pos m]
 exact s
abbrev bmV : List Value := [.type "ValueError", .type "Exception", .type "BaseException", .type "object"]
theorem tailV : L2E.Tail bmV "ValueError" := ⟨by decide +kernel, by decide +kernel, by decide +kernel⟩
theorem tailM (C : Addr) : L2E.Tail (.ref C :: bmV) "ValueError" := ⟨by rw [List.contains_cons, tailV.base, Bool.or_true], by rw [List.contains_cons, tailV.attr]; rfl, by rw [List.contains_cons, tailV.name]; rfl⟩
set_option maxHeartbeats 0 in
theorem all_mk {l : PySem.W.OpenLaw} {w : World} {K : PySem.W.Frag} {h : Heap} {mg : Str -> Option Value} {fa CM C_n f_a f_b f_c f_d f_e f_f f_g f_h f_i f_j f_k f_l f_m f_n f_o f_p f_q f_r f_s f_t f_u f_v f_w f_x f_y : Addr} (X : K.In h) (G : h.Ns mainGlobals mg) (hfa : mg "law" = some (.ref fa))
  {od_a an_a od_b an_b od_c an_c od_d an_d od_e an_e od_f an_f od_g an_g od_h an_h od_i an_i od_j an_j od_k an_k od_l an_l od_m an_m od_n an_n od_o an_o od_p an_p od_q an_q od_r an_r od_s an_s od_t an_t od_u an_u od_v an_v od_w an_w od_x an_x od_y an_y : Option Addr} {sl_a sl_b sl_c sl_d sl_e sl_f sl_g sl_h sl_i sl_j sl_k sl_l sl_m sl_n sl_o sl_p sl_q sl_r sl_s sl_t sl_u sl_v sl_w sl_x sl_y : Array (Option Value)} {oc_a kV_a dc_a pm_a cd_a ct_a oc_b kV_b dc_b pm_b cd_b ct_b oc_c kV_c dc_c pm_c cd_c ct_c oc_d kV_d dc_d pm_d cd_d ct_d oc_e kV_e dc_e pm_e cd_e ct_e oc_f kV_f dc_f pm_f cd_f ct_f oc_g kV_g dc_g pm_g cd_g ct_g oc_h kV_h dc_h pm_h cd_h ct_h oc_i kV_i dc_i pm_i cd_i ct_i oc_j kV_j dc_j pm_j cd_j ct_j oc_k kV_k dc_k pm_k cd_k ct_k oc_l kV_l dc_l pm_l cd_l ct_l oc_m kV_m dc_m pm_m cd_m ct_m oc_n kV_n dc_n pm_n cd_n ct_n oc_o kV_o dc_o pm_o cd_o ct_o oc_p kV_p dc_p pm_p cd_p ct_p oc_q kV_q dc_q pm_q cd_q ct_q oc_r kV_r dc_r pm_r cd_r ct_r oc_s kV_s dc_s pm_s cd_s ct_s oc_t kV_t dc_t pm_t cd_t ct_t oc_u kV_u dc_u pm_u cd_u ct_u oc_v kV_v dc_v pm_v cd_v ct_v oc_w kV_w dc_w pm_w cd_w ct_w oc_x kV_x dc_x pm_x cd_x ct_x oc_y kV_y dc_y pm_y cd_y ct_y : Value}
  {nmM qnM nmn qnn : Str} {nNM nNn : Addr} {bsM sbM bsn sbn : List Value} {snM snn : List Str} {abM abn : Bool} {coM con : Option Bool} {ddM ddn : Option Addr} {k0M k1M k2M k3M k5M k0n k1n k2n k3n k5n : Option Value}
  (gM : PySem.W.nsIn K mainGlobals "MeetError" = some (some (.ref CM)))
  (gn : PySem.W.nsIn K mainGlobals "NoShare" = some (some (.ref C_n)))
  (a_a : PySem.W.findIn K (.ref CM) "__init__" = some (some (.ref f_a))) (i_a : PySem.W.isFn K (.ref f_a) = true)
  (l_a : K.lookup f_a = some ⟨oc_a, od_a, .func (PySem.W.fnOf "__init__" "MeetError.__init__" (defArgs sMeetErrorInit) (defBody sMeetErrorInit) (defScope sMeetErrorInit) .none kV_a dc_a pm_a an_a cd_a ct_a), sl_a⟩) (c_a : PySem.W.codeIn K cd_a "MeetError.__init__" = true) (k_a : PySem.W.keepIn K (.ref f_a) = true)
  (a_b : PySem.W.findIn K (.ref C_n) "__init__" = some (some (.ref f_b))) (i_b : PySem.W.isFn K (.ref f_b) = true)
  (l_b : K.lookup f_b = some ⟨oc_b, od_b, .func (PySem.W.fnOf "__init__" "NoShare.__init__" (defArgs sNoShareInit) (defBody sNoShareInit) (defScope sNoShareInit) .none kV_b dc_b pm_b an_b cd_b ct_b), sl_b⟩) (c_b : PySem.W.codeIn K cd_b "NoShare.__init__" = true) (k_b : PySem.W.keepIn K (.ref f_b) = true)
  (a_c : PySem.W.nsIn K mainGlobals "is_whole" = some (some (.ref f_c)))
  (l_c : K.lookup f_c = some ⟨oc_c, od_c, .func (PySem.W.fnOf "is_whole" "is_whole" (defArgs sWhole) (defBody sWhole) (defScope sWhole) .none kV_c dc_c pm_c an_c cd_c ct_c), sl_c⟩) (c_c : PySem.W.codeIn K cd_c "is_whole" = true) (k_c : PySem.W.keepIn K (.ref f_c) = true)
  (a_d : PySem.W.nsIn K mainGlobals "is_made_of" = some (some (.ref f_d)))
  (l_d : K.lookup f_d = some ⟨oc_d, od_d, .func (PySem.W.fnOf "is_made_of" "is_made_of" (defArgs sMade) (defBody sMade) (defScope sMade) .none kV_d dc_d pm_d an_d cd_d ct_d), sl_d⟩) (c_d : PySem.W.codeIn K cd_d "is_made_of" = true) (k_d : PySem.W.keepIn K (.ref f_d) = true)
  (a_e : PySem.W.nsIn K mainGlobals "plain_number" = some (some (.ref f_e)))
  (l_e : K.lookup f_e = some ⟨oc_e, od_e, .func (PySem.W.fnOf "plain_number" "plain_number" (defArgs sPlain) (defBody sPlain) (defScope sPlain) .none kV_e dc_e pm_e an_e cd_e ct_e), sl_e⟩) (c_e : PySem.W.codeIn K cd_e "plain_number" = true) (k_e : PySem.W.keepIn K (.ref f_e) = true)
  (a_f : PySem.W.nsIn K mainGlobals "common" = some (some (.ref f_f)))
  (l_f : K.lookup f_f = some ⟨oc_f, od_f, .func (PySem.W.fnOf "common" "common" (defArgs sCommon) (defBody sCommon) (defScope sCommon) .none kV_f dc_f pm_f an_f cd_f ct_f), sl_f⟩) (c_f : PySem.W.codeIn K cd_f "common" = true) (k_f : PySem.W.keepIn K (.ref f_f) = true)
  (a_g : PySem.W.nsIn K mainGlobals "make_a_share" = some (some (.ref f_g)))
  (l_g : K.lookup f_g = some ⟨oc_g, od_g, .func (PySem.W.fnOf "make_a_share" "make_a_share" (defArgs sMakeA) (defBody sMakeA) (defScope sMakeA) .none kV_g dc_g pm_g an_g cd_g ct_g), sl_g⟩) (c_g : PySem.W.codeIn K cd_g "make_a_share" = true) (k_g : PySem.W.keepIn K (.ref f_g) = true)
  (a_h : PySem.W.nsIn K mainGlobals "is_share" = some (some (.ref f_h)))
  (l_h : K.lookup f_h = some ⟨oc_h, od_h, .func (PySem.W.fnOf "is_share" "is_share" (defArgs sIsShare) (defBody sIsShare) (defScope sIsShare) .none kV_h dc_h pm_h an_h cd_h ct_h), sl_h⟩) (c_h : PySem.W.codeIn K cd_h "is_share" = true) (k_h : PySem.W.keepIn K (.ref f_h) = true)
  (a_i : PySem.W.nsIn K mainGlobals "check_shares" = some (some (.ref f_i)))
  (l_i : K.lookup f_i = some ⟨oc_i, od_i, .func (PySem.W.fnOf "check_shares" "check_shares" (defArgs sCheckS) (defBody sCheckS) (defScope sCheckS) .none kV_i dc_i pm_i an_i cd_i ct_i), sl_i⟩) (c_i : PySem.W.codeIn K cd_i "check_shares" = true) (k_i : PySem.W.keepIn K (.ref f_i) = true)
  (a_j : PySem.W.nsIn K mainGlobals "share_text" = some (some (.ref f_j)))
  (l_j : K.lookup f_j = some ⟨oc_j, od_j, .func (PySem.W.fnOf "share_text" "share_text" (defArgs sShareText) (defBody sShareText) (defScope sShareText) .none kV_j dc_j pm_j an_j cd_j ct_j), sl_j⟩) (c_j : PySem.W.codeIn K cd_j "share_text" = true) (k_j : PySem.W.keepIn K (.ref f_j) = true)
  (a_k : PySem.W.nsIn K mainGlobals "written_share" = some (some (.ref f_k)))
  (l_k : K.lookup f_k = some ⟨oc_k, od_k, .func (PySem.W.fnOf "written_share" "written_share" (defArgs sWritten) (defBody sWritten) (defScope sWritten) .none kV_k dc_k pm_k an_k cd_k ct_k), sl_k⟩) (c_k : PySem.W.codeIn K cd_k "written_share" = true) (k_k : PySem.W.keepIn K (.ref f_k) = true)
  (a_l : PySem.W.nsIn K mainGlobals "share_in" = some (some (.ref f_l)))
  (l_l : K.lookup f_l = some ⟨oc_l, od_l, .func (PySem.W.fnOf "share_in" "share_in" (defArgs sShareIn) (defBody sShareIn) (defScope sShareIn) .none kV_l dc_l pm_l an_l cd_l ct_l), sl_l⟩) (c_l : PySem.W.codeIn K cd_l "share_in" = true) (k_l : PySem.W.keepIn K (.ref f_l) = true)
  (a_m : PySem.W.nsIn K mainGlobals "_law_box" = some (some (.ref f_m)))
  (l_m : K.lookup f_m = some ⟨oc_m, od_m, .func (PySem.W.fnOf "_law_box" "_law_box" (defArgs sBox) (defBody sBox) (defScope sBox) .none kV_m dc_m pm_m an_m cd_m ct_m), sl_m⟩) (c_m : PySem.W.codeIn K cd_m "_law_box" = true) (k_m : PySem.W.keepIn K (.ref f_m) = true)
  (a_n : PySem.W.nsIn K mainGlobals "_law_take" = some (some (.ref f_n)))
  (l_n : K.lookup f_n = some ⟨oc_n, od_n, .func (PySem.W.fnOf "_law_take" "_law_take" (defArgs sTake) (defBody sTake) (defScope sTake) .none kV_n dc_n pm_n an_n cd_n ct_n), sl_n⟩) (c_n : PySem.W.codeIn K cd_n "_law_take" = true) (k_n : PySem.W.keepIn K (.ref f_n) = true)
  (a_o : PySem.W.nsIn K mainGlobals "_law_common" = some (some (.ref f_o)))
  (l_o : K.lookup f_o = some ⟨oc_o, od_o, .func (PySem.W.fnOf "_law_common" "_law_common" (defArgs s_law_common) (defBody s_law_common) (defScope s_law_common) .none kV_o dc_o pm_o an_o cd_o ct_o), sl_o⟩) (c_o : PySem.W.codeIn K cd_o "_law_common" = true) (k_o : PySem.W.keepIn K (.ref f_o) = true)
  (a_p : PySem.W.nsIn K mainGlobals "_law_part" = some (some (.ref f_p)))
  (l_p : K.lookup f_p = some ⟨oc_p, od_p, .func (PySem.W.fnOf "_law_part" "_law_part" (defArgs s_law_part) (defBody s_law_part) (defScope s_law_part) .none kV_p dc_p pm_p an_p cd_p ct_p), sl_p⟩) (c_p : PySem.W.codeIn K cd_p "_law_part" = true) (k_p : PySem.W.keepIn K (.ref f_p) = true)
  (a_q : PySem.W.nsIn K mainGlobals "_law_share" = some (some (.ref f_q)))
  (l_q : K.lookup f_q = some ⟨oc_q, od_q, .func (PySem.W.fnOf "_law_share" "_law_share" (defArgs s_law_share) (defBody s_law_share) (defScope s_law_share) .none kV_q dc_q pm_q an_q cd_q ct_q), sl_q⟩) (c_q : PySem.W.codeIn K cd_q "_law_share" = true) (k_q : PySem.W.keepIn K (.ref f_q) = true)
  (a_r : PySem.W.nsIn K mainGlobals "_law_text" = some (some (.ref f_r)))
  (l_r : K.lookup f_r = some ⟨oc_r, od_r, .func (PySem.W.fnOf "_law_text" "_law_text" (defArgs s_law_text) (defBody s_law_text) (defScope s_law_text) .none kV_r dc_r pm_r an_r cd_r ct_r), sl_r⟩) (c_r : PySem.W.codeIn K cd_r "_law_text" = true) (k_r : PySem.W.keepIn K (.ref f_r) = true)
  (a_s : PySem.W.nsIn K mainGlobals "_law_number" = some (some (.ref f_s)))
  (l_s : K.lookup f_s = some ⟨oc_s, od_s, .func (PySem.W.fnOf "_law_number" "_law_number" (defArgs s_law_number) (defBody s_law_number) (defScope s_law_number) .none kV_s dc_s pm_s an_s cd_s ct_s), sl_s⟩) (c_s : PySem.W.codeIn K cd_s "_law_number" = true) (k_s : PySem.W.keepIn K (.ref f_s) = true)
  (a_t : PySem.W.nsIn K mainGlobals "_law_due" = some (some (.ref f_t)))
  (l_t : K.lookup f_t = some ⟨oc_t, od_t, .func (PySem.W.fnOf "_law_due" "_law_due" (defArgs s_law_due) (defBody s_law_due) (defScope s_law_due) .none kV_t dc_t pm_t an_t cd_t ct_t), sl_t⟩) (c_t : PySem.W.codeIn K cd_t "_law_due" = true) (k_t : PySem.W.keepIn K (.ref f_t) = true)
  (a_u : PySem.W.nsIn K mainGlobals "_law_told" = some (some (.ref f_u)))
  (l_u : K.lookup f_u = some ⟨oc_u, od_u, .func (PySem.W.fnOf "_law_told" "_law_told" (defArgs s_law_told) (defBody s_law_told) (defScope s_law_told) .none kV_u dc_u pm_u an_u cd_u ct_u), sl_u⟩) (c_u : PySem.W.codeIn K cd_u "_law_told" = true) (k_u : PySem.W.keepIn K (.ref f_u) = true)
  (a_v : PySem.W.nsIn K mainGlobals "_law_spoilt" = some (some (.ref f_v)))
  (l_v : K.lookup f_v = some ⟨oc_v, od_v, .func (PySem.W.fnOf "_law_spoilt" "_law_spoilt" (defArgs s_law_spoilt) (defBody s_law_spoilt) (defScope s_law_spoilt) .none kV_v dc_v pm_v an_v cd_v ct_v), sl_v⟩) (c_v : PySem.W.codeIn K cd_v "_law_spoilt" = true) (k_v : PySem.W.keepIn K (.ref f_v) = true)
  (a_w : PySem.W.nsIn K mainGlobals "_law_case" = some (some (.ref f_w)))
  (l_w : K.lookup f_w = some ⟨oc_w, od_w, .func (PySem.W.fnOf "_law_case" "_law_case" (defArgs s_law_case) (defBody s_law_case) (defScope s_law_case) .none kV_w dc_w pm_w an_w cd_w ct_w), sl_w⟩) (c_w : PySem.W.codeIn K cd_w "_law_case" = true) (k_w : PySem.W.keepIn K (.ref f_w) = true)
  (a_x : PySem.W.nsIn K mainGlobals "_law_long" = some (some (.ref f_x)))
  (l_x : K.lookup f_x = some ⟨oc_x, od_x, .func (PySem.W.fnOf "_law_long" "_law_long" (defArgs s_law_long) (defBody s_law_long) (defScope s_law_long) .none kV_x dc_x pm_x an_x cd_x ct_x), sl_x⟩) (c_x : PySem.W.codeIn K cd_x "_law_long" = true) (k_x : PySem.W.keepIn K (.ref f_x) = true)
  (a_y : PySem.W.nsIn K mainGlobals "law" = some (some (.ref f_y)))
  (l_y : K.lookup f_y = some ⟨oc_y, od_y, .func (PySem.W.fnOf "law" "law" (defArgs sLaw) (defBody sLaw) (defScope sLaw) .none kV_y dc_y pm_y an_y cd_y ct_y), sl_y⟩) (c_y : PySem.W.codeIn K cd_y "law" = true) (k_y : PySem.W.keepIn K (.ref f_y) = true)
  (oM : K.lookup CM = some (excClassObj nmM qnM CM nNM bsM bmV true snM sbM abM coM ddM k0M k1M k2M k3M k5M "ValueError.__new__")) (kcM : PySem.W.keepIn K (.ref CM) = true) (saM : PySem.W.findIn K (.ref CM) "__setattr__" = some (some (.builtin "object.__setattr__"))) (gaM : PySem.W.findIn K (.ref CM) "__getattribute__" = some (some (.builtin "BaseException.__getattribute__"))) (ghM : PySem.W.findIn K (.ref CM) "__getattr__" = some none)
  (on : K.lookup C_n = some (excClassObj nmn qnn C_n nNn bsn (.ref CM :: bmV) true snn sbn abn con ddn k0n k1n k2n k3n k5n "ValueError.__new__")) (kcn : PySem.W.keepIn K (.ref C_n) = true) (san : PySem.W.findIn K (.ref C_n) "__setattr__" = some (some (.builtin "object.__setattr__"))) (gan : PySem.W.findIn K (.ref C_n) "__getattribute__" = some (some (.builtin "BaseException.__getattribute__"))) (ghn : PySem.W.findIn K (.ref C_n) "__getattr__" = some none)
  (spM : PySem.W.specialIn K (.ref CM) "__getattribute__" = some (some (.builtin "type.__getattribute__"))) (rdM : PySem.W.readsIn K CM (.type "type") = true) (fcM : PySem.W.findCls K (.ref CM) (.type "type") "__init__" = some (.val (.ref f_a)))
  (nfn : PySem.W.findIn K (.ref C_n) "found" = some none)
  {zF : Str} {tF tS : Tok} {iS : Int}
  (exn : PySem.W.exmOne K (.ref C_n) (.ref C_n) = some true)
  (gF : PySem.W.nsIn K mainGlobals "FIGURES" = some (some (.str zF tF)))
  (gS : PySem.W.nsIn K mainGlobals "SHARE_FIGURES" = some (some (.int iS tS)))
  (eF : zF = FIG)
  (eS : iS = 400)
  (z_isinstance : PySem.W.nsIn K mainGlobals "isinstance" = some none) (z_int : PySem.W.nsIn K mainGlobals "int" = some none) (z_bool : PySem.W.nsIn K mainGlobals "bool" = some none) (z_str : PySem.W.nsIn K mainGlobals "str" = some none) (z_len : PySem.W.nsIn K mainGlobals "len" = some none) (z_all : PySem.W.nsIn K mainGlobals "all" = some none) (z_list : PySem.W.nsIn K mainGlobals "list" = some none) (z_range : PySem.W.nsIn K mainGlobals "range" = some none) (z_repr : PySem.W.nsIn K mainGlobals "repr" = some none) (z_tuple : PySem.W.nsIn K mainGlobals "tuple" = some none) (z_max : PySem.W.nsIn K mainGlobals "max" = some none) (z_min : PySem.W.nsIn K mainGlobals "min" = some none) (z_ValueError : PySem.W.nsIn K mainGlobals "ValueError" = some none)
  (s_i_non : PySem.W.subIn K (.type "NoneType") (.type "int") = some false) (s_i_bool : PySem.W.subIn K (.type "bool") (.type "int") = some true) (s_i_str : PySem.W.subIn K (.type "str") (.type "int") = some false) (s_i_list : PySem.W.subIn K (.type "list") (.type "int") = some false) (s_i_tup : PySem.W.subIn K (.type "tuple") (.type "int") = some false) (s_i_dict : PySem.W.subIn K (.type "dict") (.type "int") = some false) (s_b_non : PySem.W.subIn K (.type "NoneType") (.type "bool") = some false) (s_b_int : PySem.W.subIn K (.type "int") (.type "bool") = some false) (s_b_str : PySem.W.subIn K (.type "str") (.type "bool") = some false) (s_b_list : PySem.W.subIn K (.type "list") (.type "bool") = some false) (s_b_tup : PySem.W.subIn K (.type "tuple") (.type "bool") = some false) (s_b_dict : PySem.W.subIn K (.type "dict") (.type "bool") = some false) (s_s_non : PySem.W.subIn K (.type "NoneType") (.type "str") = some false) (s_s_int : PySem.W.subIn K (.type "int") (.type "str") = some false) (s_s_bool : PySem.W.subIn K (.type "bool") (.type "str") = some false) (s_s_list : PySem.W.subIn K (.type "list") (.type "str") = some false) (s_s_tup : PySem.W.subIn K (.type "tuple") (.type "str") = some false) (s_s_dict : PySem.W.subIn K (.type "dict") (.type "str") = some false) (s_n_tup : PySem.W.subIn K (.type "NoneType") (.type "tuple") = some false) :
  ∃ fd : FuncData, (∀ (s : Shared) (v : Value), BindsTo s fd ⟨[v], []⟩ [("_law_script", v)]) /\ ∀ base : Heap, K.In base -> base.Ns mainGlobals mg -> FnOk l.prog w K mg base CX0 7 fa fd ["_law_script"] (spLaw K) := by
 have e := hfa.symm.trans (PySem.W.mg_of X G a_y)
 cases e
 have F_a := fun_mk (st := sMeetErrorInit) l_a c_a k_a
 have F_b := fun_mk (st := sNoShareInit) l_b c_b k_b
 have F_c := fun_mk (st := sWhole) l_c c_c k_c
 have F_d := fun_mk (st := sMade) l_d c_d k_d
 have F_e := fun_mk (st := sPlain) l_e c_e k_e
 have F_f := fun_mk (st := sCommon) l_f c_f k_f
 have F_g := fun_mk (st := sMakeA) l_g c_g k_g
 have F_h := fun_mk (st := sIsShare) l_h c_h k_h
 have F_i := fun_mk (st := sCheckS) l_i c_i k_i
 have F_j := fun_mk (st := sShareText) l_j c_j k_j
 have F_k := fun_mk (st := sWritten) l_k c_k k_k
 have F_l := fun_mk (st := sShareIn) l_l c_l k_l
 have F_m := fun_mk (st := sBox) l_m c_m k_m
 have F_n := fun_mk (st := sTake) l_n c_n k_n
 have F_o := fun_mk (st := s_law_common) l_o c_o k_o
 have F_p := fun_mk (st := s_law_part) l_p c_p k_p
 have F_q := fun_mk (st := s_law_share) l_q c_q k_q
 have F_r := fun_mk (st := s_law_text) l_r c_r k_r
 have F_s := fun_mk (st := s_law_number) l_s c_s k_s
 have F_t := fun_mk (st := s_law_due) l_t c_t k_t
 have F_u := fun_mk (st := s_law_told) l_u c_u k_u
 have F_v := fun_mk (st := s_law_spoilt) l_v c_v k_v
 have F_w := fun_mk (st := s_law_case) l_w c_w k_w
 have F_x := fun_mk (st := s_law_long) l_x c_x k_x
 have F_y := fun_mk (st := sLaw) l_y c_y k_y
 have b_a := F_a.binds (ps := ["self", "text"]) fun _ _ _ _ _ _ us hl => match us, hl with | [_, _], _ => rfl
 have b_b := F_b.binds (ps := ["self", "found"]) fun _ _ _ _ _ _ us hl => match us, hl with | [_, _], _ => rfl
 have b_c := F_c.binds (ps := ["thing"]) fun _ _ _ _ _ _ us hl => match us, hl with | [_], _ => rfl
 have b_d := F_d.binds (ps := ["thing", "signs", "most"]) fun _ _ _ _ _ _ us hl => match us, hl with | [_, _, _], _ => rfl
 have b_e := F_e.binds (ps := ["text", "most"]) fun _ _ _ _ _ _ us hl => match us, hl with | [_, _], _ => rfl
 have b_f := F_f.binds (ps := ["one", "other"]) fun _ _ _ _ _ _ us hl => match us, hl with | [_, _], _ => rfl
 have b_g := F_g.binds (ps := ["top", "bottom"]) fun _ _ _ _ _ _ us hl => match us, hl with | [_, _], _ => rfl
 have b_h := F_h.binds (ps := ["thing"]) fun _ _ _ _ _ _ us hl => match us, hl with | [_], _ => rfl
 have b_i := F_i.binds (ps := ["shares"]) fun _ _ _ _ _ _ us hl => match us, hl with | [_], _ => rfl
 have b_j := F_j.binds (ps := ["share"]) fun _ _ _ _ _ _ us hl => match us, hl with | [_], _ => rfl
 have b_k := F_k.binds (ps := ["text"]) fun _ _ _ _ _ _ us hl => match us, hl with | [_], _ => rfl
 have b_l := F_l.binds (ps := ["text"]) fun _ _ _ _ _ _ us hl => match us, hl with | [_], _ => rfl
 have b_m := F_m.binds (ps := ["_law_script", "_law_k"]) fun _ _ _ _ _ _ us hl => match us, hl with | [_, _], _ => rfl
 have b_n := F_n.binds (ps := ["_law_box_here", "_law_many"]) fun _ _ _ _ _ _ us hl => match us, hl with | [_, _], _ => rfl
 have b_o := F_o.binds (ps := ["_law_one", "_law_other"]) fun _ _ _ _ _ _ us hl => match us, hl with | [_, _], _ => rfl
 have b_p := F_p.binds (ps := ["_law_box_here"]) fun _ _ _ _ _ _ us hl => match us, hl with | [_], _ => rfl
 have b_q := F_q.binds (ps := ["_law_box_here"]) fun _ _ _ _ _ _ us hl => match us, hl with | [_], _ => rfl
 have b_r := F_r.binds (ps := ["_law_share_here"]) fun _ _ _ _ _ _ us hl => match us, hl with | [_], _ => rfl
 have b_s := F_s.binds (ps := ["_law_word"]) fun _ _ _ _ _ _ us hl => match us, hl with | [_], _ => rfl
 have b_t := F_t.binds (ps := ["_law_thing"]) fun _ _ _ _ _ _ us hl => match us, hl with | [_], _ => rfl
 have b_u := F_u.binds (ps := ["_law_thing"]) fun _ _ _ _ _ _ us hl => match us, hl with | [_], _ => rfl
 have b_v := F_v.binds (ps := ["_law_box_here", "_law_text_here"]) fun _ _ _ _ _ _ us hl => match us, hl with | [_, _], _ => rfl
 have b_w := F_w.binds (ps := ["_law_box_here"]) fun _ _ _ _ _ _ us hl => match us, hl with | [_], _ => rfl
 have b_x := F_x.binds (ps := []) fun _ _ _ _ _ _ us hl => match us, hl with | [], _ => rfl
 have m_isinstance := PySem.W.mg_none_of X G z_isinstance
 have m_int := PySem.W.mg_none_of X G z_int
 have m_bool := PySem.W.mg_none_of X G z_bool
 have m_str := PySem.W.mg_none_of X G z_str
 have m_len := PySem.W.mg_none_of X G z_len
 have m_all := PySem.W.mg_none_of X G z_all
 have m_list := PySem.W.mg_none_of X G z_list
 have m_range := PySem.W.mg_none_of X G z_range
 have m_repr := PySem.W.mg_none_of X G z_repr
 have m_tuple := PySem.W.mg_none_of X G z_tuple
 have m_max := PySem.W.mg_none_of X G z_max
 have m_min := PySem.W.mg_none_of X G z_min
 have m_ValueError := PySem.W.mg_none_of X G z_ValueError
 have t_i_non := kit_of (by decide +kernel) (by decide +kernel) s_i_non
 have t_i_bool := kit_of (by decide +kernel) (by decide +kernel) s_i_bool
 have t_i_str := kit_of (by decide +kernel) (by decide +kernel) s_i_str
 have t_i_list := kit_of (by decide +kernel) (by decide +kernel) s_i_list
 have t_i_tup := kit_of (by decide +kernel) (by decide +kernel) s_i_tup
 have t_i_dict := kit_of (by decide +kernel) (by decide +kernel) s_i_dict
 have t_b_non := kit_of (by decide +kernel) (by decide +kernel) s_b_non
 have t_b_int := kit_of (by decide +kernel) (by decide +kernel) s_b_int
 have t_b_str := kit_of (by decide +kernel) (by decide +kernel) s_b_str
 have t_b_list := kit_of (by decide +kernel) (by decide +kernel) s_b_list
 have t_b_tup := kit_of (by decide +kernel) (by decide +kernel) s_b_tup
 have t_b_dict := kit_of (by decide +kernel) (by decide +kernel) s_b_dict
 have t_s_non := kit_of (by decide +kernel) (by decide +kernel) s_s_non
 have t_s_int := kit_of (by decide +kernel) (by decide +kernel) s_s_int
 have t_s_bool := kit_of (by decide +kernel) (by decide +kernel) s_s_bool
 have t_s_list := kit_of (by decide +kernel) (by decide +kernel) s_s_list
 have t_s_tup := kit_of (by decide +kernel) (by decide +kernel) s_s_tup
 have t_s_dict := kit_of (by decide +kernel) (by decide +kernel) s_s_dict
 have t_n_tup := kit_of (by decide +kernel) (by decide +kernel) s_n_tup
 have mCM := PySem.W.mg_of X G gM
 have mCn := PySem.W.mg_of X G gn
 have ecM : ErrC K CM f_a bmV := ⟨⟨_, _, _, _, _, _, _, _, _, _, _, _, _, _, oM⟩, a_a, i_a, kcM, saM, gaM, ghM, tailV, by decide +kernel, by decide +kernel, PySem.F.store_ValueError.passes⟩
 have cfM : ClsFn K CM f_a := ⟨spM, rdM, fcM, k_a⟩
 have ecn : ErrC K C_n f_b (.ref CM :: bmV) := ⟨⟨_, _, _, _, _, _, _, _, _, _, _, _, _, _, on⟩, a_b, i_b, kcn, san, gan, ghn, tailM CM, by rw [List.contains_cons]; simp, by rw [List.contains_cons]; simp, fun x => by rw [refuseLoop_ref]; exact PySem.F.store_ValueError.passes x⟩
 have m_c := PySem.W.mg_of X G a_c
 have m_d := PySem.W.mg_of X G a_d
 have m_e := PySem.W.mg_of X G a_e
 have m_f := PySem.W.mg_of X G a_f
 have m_g := PySem.W.mg_of X G a_g
 have m_h := PySem.W.mg_of X G a_h
 have m_i := PySem.W.mg_of X G a_i
 have m_j := PySem.W.mg_of X G a_j
 have m_k := PySem.W.mg_of X G a_k
 have m_l := PySem.W.mg_of X G a_l
 have m_m := PySem.W.mg_of X G a_m
 have m_n := PySem.W.mg_of X G a_n
 have m_o := PySem.W.mg_of X G a_o
 have m_p := PySem.W.mg_of X G a_p
 have m_q := PySem.W.mg_of X G a_q
 have m_r := PySem.W.mg_of X G a_r
 have m_s := PySem.W.mg_of X G a_s
 have m_t := PySem.W.mg_of X G a_t
 have m_u := PySem.W.mg_of X G a_u
 have m_v := PySem.W.mg_of X G a_v
 have m_w := PySem.W.mg_of X G a_w
 have m_x := PySem.W.mg_of X G a_x
 subst eF eS
 have T : Txt mg := ⟨m_isinstance, m_int, m_bool, m_str, m_len, m_all, m_list, m_range, m_repr⟩
 have kk : Kit K := ⟨t_i_non, t_i_bool, t_i_str, t_i_list, t_i_tup, t_i_dict, t_b_non, t_b_int, t_b_str, t_b_list, t_b_tup, t_b_dict, t_s_non, t_s_int, t_s_bool, t_s_list, t_s_tup, t_s_dict⟩
 have GG : Glb K mg := ⟨_, PySem.W.mg_of X G gF⟩
 have GS : GlbS mg := ⟨_, PySem.W.mg_of X G gS⟩
 refine ⟨PySem.W.fnOf "law" "law" (defArgs sLaw) (defBody sLaw) (defScope sLaw) .none kV_y dc_y pm_y an_y cd_y ct_y, fun s v => .of_eq rfl, fun base _ _ => ?_⟩
 have O_a := ok_mInit (P := l.prog) (w := w) (mg := mg) (base := base) F_a m_ValueError
 have O_b := ok_nInit (P := l.prog) (w := w) (mg := mg) (base := base) F_b ecn nfn cfM O_a b_a mCM
 have O_c := ok_whole (P := l.prog) (w := w) (mg := mg) (base := base) F_c T kk
 have O_d := ok_made (P := l.prog) (w := w) (mg := mg) (base := base) F_d T kk
 have O_e := ok_plain (P := l.prog) (w := w) (mg := mg) (base := base) F_e T GG ⟨O_d, b_d, k_d, m_d⟩
 have O_f := ok_common (P := l.prog) (w := w) (mg := mg) (base := base) F_f
 have O_g := ok_makeA (P := l.prog) (w := w) (mg := mg) (base := base) F_g ⟨O_c, b_c, k_c, m_c⟩
 have O_h := ok_isShare (P := l.prog) (w := w) (mg := mg) (base := base) F_h m_isinstance m_tuple m_len t_n_tup ⟨O_g, b_g, k_g, m_g⟩ ⟨O_f, b_f, k_f, m_f⟩
 have O_i := ok_check (P := l.prog) (w := w) (mg := mg) (base := base) F_i ⟨O_h, b_h, k_h, m_h⟩
 have O_j := ok_text (P := l.prog) (w := w) (mg := mg) (base := base) F_j ⟨O_i, b_i, k_i, m_i⟩
 have O_k := ok_written (P := l.prog) (w := w) (mg := mg) (base := base) F_k T kk GS ⟨O_e, b_e, k_e, m_e⟩
 have O_l := ok_shareIn (P := l.prog) (w := w) (mg := mg) (base := base) F_l ⟨O_k, b_k, k_k, m_k⟩ ⟨O_h, b_h, k_h, m_h⟩ ecn O_b b_b mCn
 have O_m := ok_box (P := l.prog) (w := w) (mg := mg) (base := base) F_m m_len
 have O_n := ok_take (P := l.prog) (w := w) (mg := mg) (base := base) F_n
 have O_o := ok_lcommon (P := l.prog) (w := w) (mg := mg) (base := base) F_o
 have O_p := ok_part (P := l.prog) (w := w) (mg := mg) (base := base) F_p m_range ⟨O_n, b_n, k_n, m_n⟩
 have O_q := ok_share (P := l.prog) (w := w) (mg := mg) (base := base) F_q ⟨O_p, b_p, k_p, m_p⟩ ⟨O_o, b_o, k_o, m_o⟩
 have O_r := ok_ltext (P := l.prog) (w := w) (mg := mg) (base := base) F_r T
 have O_s := ok_lnum (P := l.prog) (w := w) (mg := mg) (base := base) F_s T
 have O_t := ok_due (P := l.prog) (w := w) (mg := mg) (base := base) F_t T kk ⟨O_s, b_s, k_s, m_s⟩ ⟨O_o, b_o, k_o, m_o⟩
 have O_u := ok_told (P := l.prog) (w := w) (mg := mg) (base := base) F_u ⟨O_l, b_l, k_l, m_l⟩ ecn nfn mCn exn
 have O_v := ok_spoilt (P := l.prog) (w := w) (mg := mg) (base := base) F_v T ⟨O_n, b_n, k_n, m_n⟩
 have O_w := ok_case (P := l.prog) (w := w) (mg := mg) (base := base) F_w T m_repr m_range ⟨O_q, b_q, k_q, m_q⟩ ⟨O_r, b_r, k_r, m_r⟩ ⟨O_j, b_j, k_j, m_j⟩ ⟨O_u, b_u, k_u, m_u⟩ ⟨O_v, b_v, k_v, m_v⟩ ⟨O_n, b_n, k_n, m_n⟩ ⟨O_t, b_t, k_t, m_t⟩
 have O_x := ok_long (P := l.prog) (w := w) (mg := mg) (base := base) F_x m_int m_repr ⟨O_j, b_j, k_j, m_j⟩ ⟨O_u, b_u, k_u, m_u⟩ ⟨O_t, b_t, k_t, m_t⟩
 exact ok_law F_y m_range m_max m_min m_len ⟨O_m, b_m, k_m, m_m⟩ ⟨O_w, b_w, k_w, m_w⟩ ⟨O_x, b_x, k_x, m_x⟩
theorem walk {l : PySem.W.OpenLaw} {q : Program} {loose : List Str} {XP : (Str -> Option Value) -> Heap -> Prop} {YP : World -> Heap -> Prop} {d : DefRec} {K : Params -> PySem.W.Frag} (hn : l.most = some 63) (hdf : d.params.defaults = [])
  (hY : ∀ (w : World) (h : Heap), YP w h -> (K w.params).In h)
  (F : ∀ (w : World) (mg : Str -> Option Value) (fa : Addr) (h : Heap), (K w.params).In h -> h.Ns mainGlobals mg -> mg d.name = some (.ref fa) ->
   ∃ fd : FuncData, (∀ (s : Shared) (u : Value), BindsTo s fd ⟨[u], []⟩ [("_law_script", u)]) /\ ∀ base : Heap, (K w.params).In base -> base.Ns mainGlobals mg -> FnOk l.prog w (K w.params) mg base CX0 7 fa fd ["_law_script"] (spLaw (K w.params))) :
  PySem.W.WalkO q loose XP YP l.row.toRowW d [] (fun f vs => PySem.call f vs) :=
 L2.walk_of (n := 63) (k := 7) (x := "_law_script") (CX := fun _ => CX0) (sp := fun w => spLaw (K w.params)) hn (by decide) hdf ⟨rfl, by decide, by decide, rfl⟩ hY F (fun _ _ a ns hl _ hS => ⟨a, ns, rfl, hS, hl, fun _ => rfl⟩) fun _ _ _ _ _ z => z
end S
namespace HD
open PySem PySem.W PySem.Calls PyProof.Rows
def lawSt : Stmt := (PySem.Challenge.pw_alwaysmeet_k05_texts_of_shares.main.body[30]?).getD (.Pass ⟨0, 0, 0, 0⟩)
def Q : Program := HT.only PySem.Challenge.pw_alwaysmeet_k05_texts_of_shares [lawSt]
def L : List Str := PySem.Challenge.pw_alwaysmeet_k05_texts_of_shares.boundNames.filter fun x => !(x == "law")
def Xt (s : Shared) : Bool := recOk (RowW.records (OpenRow.toRowW (OpenLaw.row PySem.Challenge.rw_alwaysmeet_k05_texts_of_shares))) s
noncomputable def F (as : List Addr) (w : World) (os : OsState) := HT.ran PySem.Challenge.pw_alwaysmeet_k05_texts_of_shares Q L Xt (fun s => as.map s.heap.get?) 8000 w os
noncomputable def G (K : Params -> Frag) (w : World) := some (true, openGood Q L, (K w.params).map fun p => some p.2)
theorem F_rfl : F = F := rfl
theorem G_rfl : G = G := rfl
end HD
name_quick hdF for HD.F by HD.F_rfl
name_quick hdG for HD.G by HD.G_rfl
open PySem PySem.W PyProof.Rows
set_option hygiene false in
local macro_rules | `(tactic| o_head ($f:term $K $as $e)) => `(tactic| (
 refine holds_open (q := HD.Q) (loose := HD.L) (Xt := HD.Xt) (XP := fun _ _ => True) (Yf := Hook.obs (kHook $K $as $e)) (Ya := Hook.val (kHook $K $as $e)) (YP := Hook.says (kHook $K $as $e)) (N := 8000) ?hl (Hook.of (kHook $K $as $e)) (Hook.keeps (kHook $K $as $e)) (fun _ _ => trivial) (fun _ _ _ _ _ => trivial) (by rfl) (by rfl) (by rfl) (fun s e => recFacts_of e) (by rfl) (by first | assumption | decide +kernel) (by decide +kernel) ⟨rfl, rfl, rfl, rfl, rfl, by decide +kernel⟩ ?hw ?hc
 (case hl => exact HT.left_of (by kernel_rfl) (by decide) (fun s => by kernel_rfl) (fun w os => (congrFun (congrFun (congrFun Fast.hdF_eq $as) w) os).trans ((show Fast.hdF $as w os = Fast.hdG $K w by kernel_rfl).trans (congrFun (congrFun Fast.hdG_eq $K) w).symm)))))
set_option maxRecDepth 100000 in
set_option maxHeartbeats 0 in
theorem PySem.Challenge.cw_alwaysmeet_k05_texts_of_shares_holds : PySem.Challenge.rw_alwaysmeet_k05_texts_of_shares.Holds := by
 w_on; o_law; k_head; (case hw => w_witness2)
 k_fill
 refine S.walk (l := PySem.Challenge.rw_alwaysmeet_k05_texts_of_shares) rfl rfl (fun w h Y => PySem.W.kIn_of Y) ?F
 case F =>
  intro w mg fa h KX G hmg
  refine' S.all_mk KX G hmg ?gM ?gn ?a_a ?i_a ?l_a ?c_a ?k_a ?a_b ?i_b ?l_b ?c_b ?k_b ?a_c ?l_c ?c_c ?k_c ?a_d ?l_d ?c_d ?k_d ?a_e ?l_e ?c_e ?k_e ?a_f ?l_f ?c_f ?k_f ?a_g ?l_g ?c_g ?k_g ?a_h ?l_h ?c_h ?k_h ?a_i ?l_i ?c_i ?k_i ?a_j ?l_j ?c_j ?k_j ?a_k ?l_k ?c_k ?k_k ?a_l ?l_l ?c_l ?k_l ?a_m ?l_m ?c_m ?k_m ?a_n ?l_n ?c_n ?k_n ?a_o ?l_o ?c_o ?k_o ?a_p ?l_p ?c_p ?k_p ?a_q ?l_q ?c_q ?k_q ?a_r ?l_r ?c_r ?k_r ?a_s ?l_s ?c_s ?k_s ?a_t ?l_t ?c_t ?k_t ?a_u ?l_u ?c_u ?k_u ?a_v ?l_v ?c_v ?k_v ?a_w ?l_w ?c_w ?k_w ?a_x ?l_x ?c_x ?k_x ?a_y ?l_y ?c_y ?k_y ?oM ?kcM ?saM ?gaM ?ghM ?on ?kcn ?san ?gan ?ghn ?spM ?rdM ?fcM ?nfn ?exn ?gF ?gS ?eF ?eS ?z_isinstance ?z_int ?z_bool ?z_str ?z_len ?z_all ?z_list ?z_range ?z_repr ?z_tuple ?z_max ?z_min ?z_ValueError ?s_i_non ?s_i_bool ?s_i_str ?s_i_list ?s_i_tup ?s_i_dict ?s_b_non ?s_b_int ?s_b_str ?s_b_list ?s_b_tup ?s_b_dict ?s_s_non ?s_s_int ?s_s_bool ?s_s_list ?s_s_tup ?s_s_dict ?s_n_tup
  (case gM => k_is)
  (case gn => k_is)
  (case a_a => k_is)
  (case i_a => k_is)
  (case l_a => k_is)
  (case c_a => k_is)
  (case k_a => k_is)
  (case a_b => k_is)
  (case i_b => k_is)
  (case l_b => k_is)
  (case c_b => k_is)
  (case k_b => k_is)
  (case a_c => k_is)
  (case l_c => k_is)
  (case c_c => k_is)
  (case k_c => k_is)
  (case a_d => k_is)
  (case l_d => k_is)
  (case c_d => k_is)
  (case k_d => k_is)
  (case a_e => k_is)
  (case l_e => k_is)
  (case c_e => k_is)
  (case k_e => k_is)
  (case a_f => k_is)
  (case l_f => k_is)
  (case c_f => k_is)
  (case k_f => k_is)
  (case a_g => k_is)
  (case l_g => k_is)
  (case c_g => k_is)
  (case k_g => k_is)
  (case a_h => k_is)
  (case l_h => k_is)
  (case c_h => k_is)
  (case k_h => k_is)
  (case a_i => k_is)
  (case l_i => k_is)
  (case c_i => k_is)
  (case k_i => k_is)
  (case a_j => k_is)
  (case l_j => k_is)
  (case c_j => k_is)
  (case k_j => k_is)
  (case a_k => k_is)
  (case l_k => k_is)
  (case c_k => k_is)
  (case k_k => k_is)
  (case a_l => k_is)
  (case l_l => k_is)
  (case c_l => k_is)
  (case k_l => k_is)
  (case a_m => k_is)
  (case l_m => k_is)
  (case c_m => k_is)
  (case k_m => k_is)
  (case a_n => k_is)
  (case l_n => k_is)
  (case c_n => k_is)
  (case k_n => k_is)
  (case a_o => k_is)
  (case l_o => k_is)
  (case c_o => k_is)
  (case k_o => k_is)
  (case a_p => k_is)
  (case l_p => k_is)
  (case c_p => k_is)
  (case k_p => k_is)
  (case a_q => k_is)
  (case l_q => k_is)
  (case c_q => k_is)
  (case k_q => k_is)
  (case a_r => k_is)
  (case l_r => k_is)
  (case c_r => k_is)
  (case k_r => k_is)
  (case a_s => k_is)
  (case l_s => k_is)
  (case c_s => k_is)
  (case k_s => k_is)
  (case a_t => k_is)
  (case l_t => k_is)
  (case c_t => k_is)
  (case k_t => k_is)
  (case a_u => k_is)
  (case l_u => k_is)
  (case c_u => k_is)
  (case k_u => k_is)
  (case a_v => k_is)
  (case l_v => k_is)
  (case c_v => k_is)
  (case k_v => k_is)
  (case a_w => k_is)
  (case l_w => k_is)
  (case c_w => k_is)
  (case k_w => k_is)
  (case a_x => k_is)
  (case l_x => k_is)
  (case c_x => k_is)
  (case k_x => k_is)
  (case a_y => k_is)
  (case l_y => k_is)
  (case c_y => k_is)
  (case k_y => k_is)
  (case oM => k_is)
  (case kcM => k_is)
  (case saM => k_is)
  (case gaM => k_is)
  (case ghM => k_is)
  (case on => k_is)
  (case kcn => k_is)
  (case san => k_is)
  (case gan => k_is)
  (case ghn => k_is)
  (case spM => k_is)
  (case rdM => k_is)
  (case fcM => k_is)
  (case nfn => k_is)
  (case exn => kts_exm)
  (case gF => k_is)
  (case gS => k_is)
  (case eF => first | rfl | decide +kernel)
  (case eS => first | rfl | decide +kernel)
  (case z_isinstance => k_is)
  (case z_int => k_is)
  (case z_bool => k_is)
  (case z_str => k_is)
  (case z_len => k_is)
  (case z_all => k_is)
  (case z_list => k_is)
  (case z_range => k_is)
  (case z_repr => k_is)
  (case z_tuple => k_is)
  (case z_max => k_is)
  (case z_min => k_is)
  (case z_ValueError => k_is)
  (case s_i_non => k_is)
  (case s_i_bool => k_is)
  (case s_i_str => k_is)
  (case s_i_list => k_is)
  (case s_i_tup => k_is)
  (case s_i_dict => k_is)
  (case s_b_non => k_is)
  (case s_b_int => k_is)
  (case s_b_str => k_is)
  (case s_b_list => k_is)
  (case s_b_tup => k_is)
  (case s_b_dict => k_is)
  (case s_s_non => k_is)
  (case s_s_int => k_is)
  (case s_s_bool => k_is)
  (case s_s_list => k_is)
  (case s_s_tup => k_is)
  (case s_s_dict => k_is)
  (case s_n_tup => k_is)
