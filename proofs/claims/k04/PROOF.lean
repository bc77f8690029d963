import PyProof.Rows.All
import Wide.All
import OpenK.AllK
import Wide.FinOn
import Lean
import PyProof.EqAt
import PyProof.EqKinds
import PyProof.TupleCall
import PyProof.DictCompW
import PyProof.EnumFor
import PyProof.EnumStmt
import PyProof.EnumMake
import PyProof.Rows.EnumRows
import PyProof.Rows.SetFrom
import PyProof.Rows.LoopUnroll
import PyProof.Draws
import PyProof.ExcClass3
import PyProof.ExcInit
import PyProof.InstStoreFacts
import PyProof.ExcArgs
import PyProof.ExcBaseAll.ValueError
import PyProof.NsDelKeeps
import PyProof.RulesAs
import KE.KTryMore
import KE.IntBitsLaws
import PyProof.FitsBits
import PyProof.ReprBulk
import PyProof.Rows.StrBin
import PyProof.P3Eq
import PySem.Challenge.RW_alwaysmeet_k04_shares_reckoned
set_option Elab.async false
set_option linter.all false
set_option maxRecDepth 100000
namespace L2
open PySem PySem.Spec PyProof.Rows
abbrev Key := Sum Int Str
def keyIs : Key -> Value -> Bool
 | .inl k, v => Value.isInt k v
 | .inr x, v => Value.isStrOf x v
def keyH (w : World) : Key -> Int
 | .inl k => hashInt k
 | .inr x => hashStr w x
theorem keyIs_shape : ∀ {k : Key} {v : Value}, keyIs k v = true -> (∃ i t, k = Sum.inl i /\ v = Value.int i t) \/ (∃ x t, k = Sum.inr x /\ v = Value.str x t)
 | .inl i, v, h => by
  obtain ⟨t, e⟩ := Value.isInt_shape (k := i) (v := v) h
  exact .inl ⟨i, t, rfl, e⟩
 | .inr x, v, h => by
  obtain ⟨t, e⟩ := Value.isStrOf_shape (x := x) (v := v) h
  exact .inr ⟨x, t, rfl, e⟩
theorem key_ll (a b : Int) : decide ((Sum.inl a : Key) = Sum.inl b) = (a == b) := by
 by_cases e : a = b
 ·subst e; simp
 ·have h : ¬ (Sum.inl a : Key) = Sum.inl b := fun q => e (Sum.inl.inj q)
  rw [decide_eq_false h]
  exact (beq_eq_false_iff_ne.mpr e).symm
theorem key_rr (a b : Str) : decide ((Sum.inr a : Key) = Sum.inr b) = decide (a = b) := by
 by_cases e : a = b
 ·subst e; simp
 ·have h : ¬ (Sum.inr a : Key) = Sum.inr b := fun q => e (Sum.inr.inj q)
  rw [decide_eq_false h, decide_eq_false e]
theorem key_lr (a : Int) (b : Str) : decide ((Sum.inl a : Key) = Sum.inr b) = false := decide_eq_false (fun q => nomatch q)
theorem key_rl (a : Str) (b : Int) : decide ((Sum.inr a : Key) = Sum.inl b) = false := decide_eq_false (fun q => nomatch q)
def mixKind (prog : Program) (w : World) : PySem.KeyKind prog w Key where
 is := keyIs
 hash := keyH w
 inj := fun v a b ha hb => by
  rcases keyIs_shape ha with ⟨i, t, rfl, rfl⟩ | ⟨x, t, rfl, rfl⟩
  ·rcases keyIs_shape hb with ⟨j, u, rfl, e⟩ | ⟨y, u, rfl, e⟩
   ·injection e with e1 _; rw [e1]
   ·exact nomatch e
  ·rcases keyIs_shape hb with ⟨j, u, rfl, e⟩ | ⟨y, u, rfl, e⟩
   ·exact nomatch e
   ·injection e with e1 _; rw [e1]
 byValue := fun k v h => by
  rcases keyIs_shape h with ⟨i, t, rfl, rfl⟩ | ⟨x, t, rfl, rfl⟩ <;> rfl
 pyHash := fun hv h => by
  rcases keyIs_shape hv with ⟨i, t, rfl, rfl⟩ | ⟨x, t, rfl, rfl⟩
  ·exact wpAny_pyHash_int h
  ·exact wpAny_pyHash_str h
 eqBool := fun hu hv h => by
  rcases keyIs_shape hu with ⟨i, t, rfl, rfl⟩ | ⟨x, t, rfl, rfl⟩
  ·rcases keyIs_shape hv with ⟨j, u, rfl, rfl⟩ | ⟨y, u, rfl, rfl⟩
   ·rw [key_ll] at h; exact wpAny_eqBool_int h
   ·rw [key_lr] at h; exact SeqAt.EqAt.int_str i t y u _ _ _ _ h
  ·rcases keyIs_shape hv with ⟨j, u, rfl, rfl⟩ | ⟨y, u, rfl, rfl⟩
   ·rw [key_rl] at h; exact SeqAt.EqAt.str_int x t j u _ _ _ _ h
   ·rw [key_rr] at h; exact wpAny_eqBool_str h
 «strs» := fun k x t v h => by
  rcases keyIs_shape h with ⟨i, u, rfl, e⟩ | ⟨y, u, rfl, e⟩
  ·exact nomatch e
  ·injection e with e1 _
   subst e1
   cases v <;> rfl
end L2
namespace L2
open PySem PySem.Spec PyProof.Rows
inductive V where
 | non | bl (b : Bool) | int (i : Int) | str (x : Str) | byt (b : Array UInt8) | flt (b : UInt64) | ref (a : Addr) | ty (n : String)
 deriving DecidableEq
def RelV : V -> Value -> Prop
 | .non, u => u = Value.none
 | .bl b, u => u = Value.bool b
 | .int i, u => ∃ t, u = Value.int i t
 | .str x, u => ∃ t, u = Value.str x t
 | .byt b, u => ∃ t, u = Value.bytes b t
 | .flt b, u => ∃ t, u = Value.float b t
 | .ref a, u => u = Value.ref a
 | .ty n, u => u = Value.type n
abbrev Vals : List V -> List Value -> Prop := Paired RelV
theorem Vals.length {xs : List V} {us : List Value} (r : Vals xs us) : xs.length = us.length := Paired.length r
theorem Vals.get : ∀ {xs : List V} {us : List Value} {i : Nat} {x : V}, Vals xs us -> xs[i]? = some x -> ∃ u, us[i]? = some u /\ RelV x u
 | _, _, _, _, .nil, e => by simp at e
 | _, _, 0, _, .cons r _, e => by simp at e; subst e; exact ⟨_, rfl, r⟩
 | _, _, i + 1, x, .cons _ t, e => by
  obtain ⟨u, h1, h2⟩ := Vals.get (i := i) (x := x) t (by simpa using e)
  exact ⟨u, by simpa using h1, h2⟩
theorem Vals.set {x : V} {u : Value} (r : RelV x u) : ∀ {xs : List V} {us : List Value} (i : Nat), Vals xs us -> Vals (xs.set i x) (us.set i u)
 | _, _, _, .nil => .nil
 | _, _, 0, .cons _ t => .cons r t
 | _, _, i + 1, .cons q t => .cons q (Vals.set r i t)
theorem Vals.append : ∀ {xs ys : List V} {us ws : List Value}, Vals xs us -> Vals ys ws -> Vals (xs ++ ys) (us ++ ws)
 | _, _, _, _, .nil, s => s
 | _, _, _, _, .cons r t, s => .cons r (Vals.append t s)
def RelO : Option V -> Option Value -> Prop
 | some v, some u => RelV v u
 | none, none => True
 | _, _ => False
def KV {κ : Type} : List (κ × V) -> List (κ × Value) -> Prop := Paired fun (p : κ × V) (q : κ × Value) => p.1 = q.1 /\ RelV p.2 q.2
def kV : Key -> V
 | .inl i => .int i
 | .inr x => .str x
inductive HO where
 | lst (xs : List V)
 | tup (xs : List V)
 | dK (kvs : List (Key × V)) | dT (kvs : List (List Key × V))
 | set (S : Int -> Bool) (n : Nat)
 | ins (C dx : Addr) (fs : List (Str × V))
 | own (x : Addr)
 | xd (fs : List (Str × V))
 | met (f x : Addr)
 | rng (lo hi : Int)
 | frz (o : Obj) (u : HO)
 | tbl (ps : Array Value)
 | ext (φ : Heap -> Prop)
abbrev Hp := Addr -> Option HO
def upd (H : Hp) (a : Addr) (o : HO) : Hp := fun b => if b = a then some o else H b
theorem upd_same {H : Hp} {a : Addr} {o : HO} : upd H a o a = some o := by unfold upd; rw [if_pos rfl]
theorem upd_ne {H : Hp} {a b : Addr} {o : HO} (h : b ≠ a) : upd H a o b = H b := by unfold upd; rw [if_neg h]
theorem ne_of_none {H : Hp} {a b : Addr} {o : HO} (h : H a = some o) (h' : H b = none) : a ≠ b := by
 intro e; subst e; rw [h] at h'; cases h'
section
variable (P : Program) (w : World)
def ObjOk (H : Hp) (h : Heap) (a : Addr) : HO -> Prop
 | .lst xs => xs.length <= sizeLine /\ ∃ (its : List Value) (n : Nat), Vals xs its /\ h.get? a = some { cls := .type "list", data := .seq its.toArray n }
 | .tup xs => xs.length <= sizeLine /\ ∃ its : List Value, Vals xs its /\ IsTup h a its.toArray
 | .dK kvs => kvs.length <= sizeLine /\ (a == sysModules) = false /\ ∃ vs, KV kvs vs /\ h.DictOf (mixKind P w) a vs
 | .dT kvs => kvs.length <= sizeLine /\ (a == sysModules) = false /\ ∃ xs : List (List Key × Addr × Value),
   Paired (fun (p : List Key × V) (q : List Key × Addr × Value) => p.1 = q.1 /\ H q.2.1 = some (.tup (p.1.map kV)) /\ RelV p.2 q.2.2) kvs xs /\
   ∃ o es ep, h.get? a = some o /\ o.ExactDict /\ o.data = .dict es ep /\ es.toList = xs.map (entryOfKey (tupleKind (mixKind P w))) /\ (xs.map (·.1)).Nodup
 | .set S n => h.SetOf (intKind P w) a S n
 | .ins C dx fs => H dx = some (.own a) /\ fs.length <= 1000 /\ dx ≠ a /\ h.get? a = some (PySem.W.instObj C dx) /\
   ∃ mA, h.Ns1 dx mA /\ (∀ f, RelO (fs.lookup f) (mA f)) /\ PySem.Within mA (fs.map (·.1))
 | .own _ => ∃ o, h.get? a = some o
 | .xd fs => ∃ mA, h.Ns1 a mA /\ ∀ f, RelO (fs.lookup f) (mA f)
 | .rng lo hi => ∃ t u v, h.get? a = some { cls := .type "range", data := .fields #[.int lo t, .int hi u, .int 1 v] }
 | .frz o u => h.get? a = some o /\ ObjOk H h a u
 | .tbl ps => h.get? a = some { cls := .none, data := .fields ps }
 | .met f x => h.get? a = some (PySem.W.methodObj (.ref f) (.ref x))
 | .ext φ => φ h /\ (∃ o, h.get? a = some o) /\ ∀ h1 h2 : Heap, φ h1 -> (∀ o, h1.get? a = some o -> h2.get? a = some o) -> φ h2
def HOk (H : Hp) (h : Heap) : Prop := ∀ a o, H a = some o -> ObjOk P w H h a o
end
section
variable {P : Program} {w : World} {H H' : Hp} {h h' : Heap} {a : Addr} {o : HO}
theorem ObjOk.lt (x : ObjOk P w H h a o) : a < h.objs.size := by
 cases o with
 | lst xs => obtain ⟨_, _, _, _, e⟩ := x; exact Heap.lt_size e
 | tup xs => obtain ⟨_, _, _, p⟩ := x; exact p.lt
 | dK kvs => obtain ⟨_, _, _, _, o, _, _, e, _⟩ := x; exact Heap.lt_size e
 | dT kvs => obtain ⟨_, _, _, _, o, _, _, e, _⟩ := x; exact Heap.lt_size e
 | set S n => obtain ⟨o, _, _, _, e, _⟩ := x; exact Heap.lt_size e
 | ins C dx fs => obtain ⟨_, _, _, e, _⟩ := x; exact Heap.lt_size e
 | own y => obtain ⟨_, e⟩ := x; exact Heap.lt_size e
 | xd fs => obtain ⟨_, ⟨_, _, _, e, _⟩, _⟩ := x; exact Heap.lt_size e
 | rng lo hi => obtain ⟨_, _, _, e⟩ := x; exact Heap.lt_size e
 | frz ob u => obtain ⟨e, _⟩ := x; exact Heap.lt_size e
 | tbl ps => exact Heap.lt_size (show h.get? a = some _ from x)
 | met f y => exact Heap.lt_size (show h.get? a = some _ from x)
 | ext φ => obtain ⟨_, ⟨_, e⟩, _⟩ := x; exact Heap.lt_size e
theorem Paired.mapP {α β : Type} {F G : α -> β -> Prop} : ∀ {l₁ : List α} {l₂ : List β}, Paired F l₁ l₂ -> (∀ a b, F a b -> G a b) -> Paired G l₁ l₂
 | _, _, .nil, _ => .nil
 | _, _, .cons r t, f => .cons (f _ _ r) (Paired.mapP t f)
theorem ObjOk.stay (x : ObjOk P w H h a o) (k : ∀ b u, (b = a \/ H b = some (.own a)) -> h.get? b = some u -> h'.get? b = some u)
  (ho : ∀ b, H b = some (.own a) -> H' b = some (.own a)) (ht : ∀ b xs, H b = some (.tup xs) -> H' b = some (.tup xs)) : ObjOk P w H' h' a o := by
 induction o with
 | lst xs => obtain ⟨z, its, n, r, e⟩ := x; exact ⟨z, its, n, r, k _ _ (.inl rfl) e⟩
 | tup xs => obtain ⟨z, its, r, ob, e, c⟩ := x; exact ⟨z, its, r, ob, k _ _ (.inl rfl) e, c⟩
 | dK kvs => obtain ⟨z, y, vs, r, ob, es, ep, e, c⟩ := x; exact ⟨z, y, vs, r, ob, es, ep, k _ _ (.inl rfl) e, c⟩
 | dT kvs =>
  obtain ⟨z, y, xs, r, ob, es, ep, e, c⟩ := x
  exact ⟨z, y, xs, Paired.mapP r fun p q z => ⟨z.1, ht _ _ z.2.1, z.2.2⟩, ob, es, ep, k _ _ (.inl rfl) e, c⟩
 | set S n => obtain ⟨ob, es, ep, t, e, c⟩ := x; exact ⟨ob, es, ep, t, k _ _ (.inl rfl) e, c⟩
 | ins C dx fs =>
  obtain ⟨d, z, ne, e, mA, ⟨od, es, ep, e2, c⟩, r⟩ := x
  exact ⟨ho _ d, z, ne, k _ _ (.inl rfl) e, mA, ⟨od, es, ep, k _ _ (.inr d) e2, c⟩, r⟩
 | own y => obtain ⟨ob, e⟩ := x; exact ⟨ob, k _ _ (.inl rfl) e⟩
 | xd fs => obtain ⟨mA, ⟨od, es, ep, e, c⟩, r⟩ := x; exact ⟨mA, ⟨od, es, ep, k _ _ (.inl rfl) e, c⟩, r⟩
 | rng lo hi => obtain ⟨t, u, v, e⟩ := x; exact ⟨t, u, v, k _ _ (.inl rfl) e⟩
 | frz ob u ih => obtain ⟨e, q⟩ := x; exact ⟨k _ _ (.inl rfl) e, ih q⟩
 | tbl ps =>
  have e : h.get? a = some { cls := .none, data := .fields ps } := x
  show h'.get? a = some { cls := .none, data := .fields ps }
  exact k a _ (.inl rfl) e
 | met f y =>
  have e : h.get? a = some (PySem.W.methodObj (.ref f) (.ref y)) := x
  show h'.get? a = some (PySem.W.methodObj (.ref f) (.ref y))
  exact k a _ (.inl rfl) e
 | ext φ => obtain ⟨p, ⟨o, e⟩, st⟩ := x; exact ⟨st _ _ p fun o q => k _ _ (.inl rfl) q, ⟨o, k _ _ (.inl rfl) e⟩, st⟩
theorem HOk.lt (x : HOk P w H h) (e : H a = some o) : a < h.objs.size := (x a o e).lt
theorem HOk.fresh (x : HOk P w H h) (e : h.objs.size <= a) : H a = none := by
 cases q : H a with
 | none => rfl
 | some u => exact absurd (Nat.lt_of_lt_of_le (x.lt q) e) (Nat.lt_irrefl _)
theorem HOk.kept (x : HOk P w H h) (k : ∀ b u, h.get? b = some u -> h'.get? b = some u) : HOk P w H h' := fun a o e =>
 (x a o e).stay (fun b u _ q => k b u q) (fun _ q => q) fun _ _ q => q
theorem HOk.laid (x : HOk P w H h) (k : ∀ b u, h.get? b = some u -> h'.get? b = some u) (hp : h.objs.size <= a) (new : ObjOk P w (upd H a o) h' a o) : HOk P w (upd H a o) h' := fun b u e => by
 have hn := x.fresh hp
 by_cases hb : b = a
 ·subst hb; rw [upd_same] at e; cases e; exact new
 ·rw [upd_ne hb] at e
  exact (x b u e).stay (fun c v _ q => k c v q) (fun c q => by rw [upd_ne (ne_of_none q hn)]; exact q) fun c xs q => by rw [upd_ne (ne_of_none q hn)]; exact q
end
def Rd (H : Hp) (a : Addr) (u : HO) : Prop := H a = some u \/ ∃ o, H a = some (.frz o u)
theorem Rd.ok {P : Program} {w : World} {H : Hp} {h : Heap} {a : Addr} {u : HO} (r : Rd H a u) (x : HOk P w H h) : ObjOk P w H h a u := by
 rcases r with r | ⟨o, r⟩
 ·exact x a u r
 ·obtain ⟨_, q⟩ := x a _ r
  exact q
def Mut : Option HO -> Prop
 | some (.lst _) => True
 | some (.dK _) => True
 | some (.dT _) => True
 | some (.set _ _) => True
 | some (.ins _ _ _) => True
 | some (.ext _) => True
 | _ => False
section
variable {P : Program} {w : World} {H : Hp} {h h' : Heap} {x e : Addr} {o' : HO}
theorem HOk.write (ok : HOk P w H h) (mu : Mut (H x)) (he : e = x \/ H e = some (.own x)) (k : ∀ b u, b ≠ e -> h.get? b = some u -> h'.get? b = some u) (heo : ∃ u, h'.get? e = some u)
  (new : ObjOk P w (upd H x o') h' x o') : HOk P w (upd H x o') h' := fun b u q => by
 have nown : ∀ c y, H c = some (.own y) -> c ≠ x := fun c y r z => by subst z; rw [r] at mu; exact mu
 have ntup : ∀ c xs, H c = some (.tup xs) -> c ≠ x := fun c xs r z => by subst z; rw [r] at mu; exact mu
 by_cases hb : b = x
 ·subst hb; rw [upd_same] at q; cases q; exact new
 ·rw [upd_ne hb] at q
  by_cases hbe : b = e
  ·have q' : H b = some (.own x) := by
    rcases he with z | z
    ·exact absurd (hbe.trans z) hb
    ·rw [hbe]; exact z
   rw [q] at q'; cases q'
   obtain ⟨v, hv⟩ := heo
   exact ⟨v, by rw [hbe]; exact hv⟩
  ·refine (ok b u q).stay (fun c v hc r => k c v ?_ r) (fun c r => by rw [upd_ne (nown c b r)]; exact r) fun c xs r => by rw [upd_ne (ntup c xs r)]; exact r
   rcases hc with rfl | hc
   ·exact hbe
   ·rintro rfl
    rcases he with z | z
    ·exact nown c b hc z
    ·rw [hc] at z; cases z; exact hb rfl
end
structure Un (fs ex : List Addr) (H H' : Hp) (h h' : Heap) : Prop where
 keep : ∀ b o, h.get? b = some o -> H b = none -> b ∉ fs -> b ∉ ex -> h'.get? b = some o
 slot : ∀ b o, h.get? b = some o -> H b = none -> b ∈ fs -> b ∉ ex -> ∃ sl, h'.get? b = some { o with slots := sl }
 free : ∀ b o, h.get? b = some o -> H b = none -> b ∉ ex -> H' b = none
 there : ∀ b o, h.get? b = some o -> b ∉ ex -> ∃ o', h'.get? b = some o'
 tups : ∀ b xs, H b = some (.tup xs) -> H' b = some (.tup xs)
 frzs : ∀ b o u, H b = some (.frz o u) -> H' b = some (.frz o u)
 tbls : ∀ b ps, H b = some (.tbl ps) -> ∃ more, H' b = some (.tbl (ps ++ more))
section
variable {fs fs' ex ex' : List Addr} {H H1 H2 : Hp} {h h1 h2 h' : Heap} {a x e : Addr} {o : HO}
theorem Un.any (u : Un fs ex H H1 h h1) {b : Addr} {ob : Obj} (q : h.get? b = some ob) (n : H b = none) (hx : b ∉ ex) : ∃ sl, h1.get? b = some { ob with slots := sl } := by
 by_cases hb : b ∈ fs
 ·exact u.slot b ob q n hb hx
 ·exact ⟨ob.slots, u.keep b ob q n hb hx⟩
theorem Un.kept (k : ∀ b u, h.get? b = some u -> h'.get? b = some u) : Un fs ex H H h h' :=
 ⟨fun b ob q _ _ _ => k b ob q, fun b ob q _ _ _ => ⟨ob.slots, k b ob q⟩, fun _ _ _ n _ => n, fun b ob q _ => ⟨ob, k b ob q⟩, fun _ _ q => q, fun _ _ _ q => q, fun _ ps q => ⟨#[], by rw [q]; simp⟩⟩
theorem Un.refl : Un fs ex H H h h := Un.kept fun _ _ q => q
theorem Un.laid (k : ∀ b u, h.get? b = some u -> h'.get? b = some u) (hp : h.objs.size <= a) (hn : H a = none) : Un fs ex H (upd H a o) h h' where
 keep := fun b u q _ _ _ => k b u q
 slot := fun b u q _ _ _ => ⟨u.slots, k b u q⟩
 free := fun b u q n _ => by rw [upd_ne (Nat.ne_of_lt (Nat.lt_of_lt_of_le (Heap.lt_size q) hp))]; exact n
 there := fun b u q _ => ⟨u, k b u q⟩
 tups := fun b xs q => by rw [upd_ne (ne_of_none q hn)]; exact q
 frzs := fun b u xs q => by rw [upd_ne (ne_of_none q hn)]; exact q
 tbls := fun b ps q => ⟨#[], by rw [upd_ne (ne_of_none q hn), q]; simp⟩
theorem Un.write (mu : Mut (H x)) (he : e = x \/ H e = some (.own x)) (k : ∀ b u, b ≠ e -> h.get? b = some u -> h'.get? b = some u) (heo : ∃ u, h'.get? e = some u) : Un fs ex H (upd H x o) h h' := by
 have hx : ∀ b, H b = none -> b ≠ x := fun b n z => by subst z; rw [n] at mu; exact mu
 have hb : ∀ b, H b = none -> b ≠ e := fun b n z => by
  subst z
  rcases he with r | r
  ·exact hx b n r
  ·rw [n] at r; cases r
 have hm : ∀ b u, H b = some u -> ¬ Mut (some u) -> b ≠ x := fun b u q nm z => by subst z; rw [q] at mu; exact nm mu
 refine ⟨fun b u q n _ _ => k b u (hb b n) q, fun b u q n _ _ => ⟨u.slots, k b u (hb b n) q⟩, fun b u q n _ => by rw [upd_ne (hx b n)]; exact n, fun b u q _ => ?_,
  fun b xs q => by rw [upd_ne (hm b _ q fun z => z)]; exact q, fun b u xs q => by rw [upd_ne (hm b _ q fun z => z)]; exact q, fun b ps q => ⟨#[], by rw [upd_ne (hm b _ q fun z => z), q]; simp⟩⟩
 by_cases hbe : b = e
 ·subst hbe; exact heo
 ·exact ⟨u, k b u hbe q⟩
end
def trk (h : Heap) (H : Hp) : List Addr := (List.range h.objs.size).filter fun a => (H a).isSome
def hidT (h : Heap) (H : Hp) : Heap := PySem.W.hideAll h (trk h H)
theorem hidT_size (h : Heap) (H : Hp) : (hidT h H).objs.size = h.objs.size := PySem.W.hideAll_size _ _
theorem hidT_get {h : Heap} {H : Hp} {b : Addr} {o : Obj} (e : h.get? b = some o) (n : H b = none) : (hidT h H).get? b = some o :=
 PySem.W.hideAll_get _ e fun hm => by
  have q : (H b).isSome = true := (List.mem_filter.mp hm).2
  rw [n] at q; simp at q
theorem of_hidT {h : Heap} {H : Hp} {b : Addr} {o : Obj} (e : (hidT h H).get? b = some o) : h.get? b = some o /\ H b = none := by
 have e' : h.get? b = some o := PySem.W.of_hideAll (trk h H) e
 refine ⟨e', ?_⟩
 cases q : H b with
 | none => rfl
 | some x =>
  have hm : b ∈ trk h H := List.mem_filter.mpr ⟨List.mem_range.mpr (Heap.lt_size e'), by simp [q]⟩
  have z : (hidT h H).get? b = none := PySem.W.hideAll_none (trk h H) hm
  rw [z] at e; cases e
def allNews (g h : Heap) (L : Addr) : List (Addr × Obj) := (List.range h.objs.size).filterMap fun a => if a = L \/ (g.get? a).isSome = true then none else (h.get? a).map fun o => (a, o)
def rest (g h : Heap) (L d : Addr) : List (Addr × Obj) := (allNews g h L).filter fun p => decide (p.1 ≠ d)
end L2
namespace L2
open PySem PySem.Spec PyProof.Rows
structure Mod (K : PySem.W.Frag) (mg : Str -> Option Value) (base : Heap) : Prop where
 kin : K.In base
 glob : base.Ns mainGlobals mg
 blt : ∃ mb, base.Ns builtinsNs mb /\ ∀ x : Str, x ≠ "__name__" -> mb x = bootBuiltins x
 nolimit : base.NoLimit
structure Cx where
 prog : Program
 w : World
 K : PySem.W.Frag
 mg : Str -> Option Value
 base : Heap
 A : Around
 N : List Str
 s₀ : Shared
 H₀ : Hp
 env : Env
 outer : List Env
 stack : List Env
 ex : List Addr
 fn : Str -> Bool
 calm : Bool
 pn : List (Addr × Obj)
 xe : Value -> Shared -> Prop
def frs (l : List Env) : List Addr := l.filterMap (·.frame)
abbrev Cx.fs (X : Cx) : List Addr := frs X.outer
def Vis (sc : Scope) (x : Str) : Prop := sc.names.lookup x = some .local \/ sc.names.lookup x = some .cell \/ sc.names.lookup x = some .free
def Loc (sc : Scope) (x : Str) : Prop := sc.names.lookup x = some .local \/ sc.names.lookup x = some .cell
def Look (env : Env) (h : Heap) (m : Str -> Option Value) (x : Str) (u : Value) : Prop :=
 (env.kindOf x = some .local /\ m x = some u) \/ ((env.kindOf x = some .cell \/ env.kindOf x = some .free) /\ ∃ c, env.cells.lookup x = some c /\ h.IsCell c (some u))
structure Cx.Ok (X : Cx) : Prop where
 mod : Mod X.K X.mg X.base
 kind : X.env.scope.kind = .function
 glob : X.env.globals = mainGlobals
 blt : X.env.builtins = builtinsNs
 above : X.s₀.heap.objs.size <= X.env.locals
 inj : ∀ x y c, X.env.cells.lookup x = some c -> X.env.cells.lookup y = some c -> x = y
 has : ∀ x, (X.env.kindOf x = some .cell \/ X.env.kindOf x = some .free) -> ∃ c, X.env.cells.lookup x = some c
 cab : ∀ x c, X.fn x = true -> X.env.cells.lookup x = some c -> X.s₀.heap.objs.size <= c
 hd : X.calm = true -> X.A.handled = none
 frames : X.A.frames = some X.stack
 stk : X.stack = X.outer \/ (X.stack = X.env :: X.outer /\ X.env.frame = some X.env.locals)
 exf : ∀ b ∈ X.ex, b ≠ X.env.locals /\ ∀ x c, X.env.cells.lookup x = some c -> c ≠ b
 bs : ∀ b o, X.base.get? b = some o -> X.s₀.heap.get? b = some o /\ X.H₀ b = none
 bsz : X.base.objs.size <= X.s₀.heap.objs.size
 noex : ∀ b o, X.base.get? b = some o -> b ∉ X.ex
 exfs : ∀ b ∈ X.ex, b ∉ X.fs
 funs : X.s₀.heap.FunFrames X.base X.outer
 frf : ∀ b ∈ X.fs, X.H₀ b = none
structure Inv (X : Cx) (pins : List (Addr × Obj)) (σ : List (Option V)) (H : Hp) (s : Shared) : Prop where
 ok : X.Ok
 os : s.os = X.s₀.os
 bare : AllBare s.gens
 base : Un X.fs X.ex X.H₀ H X.s₀.heap s.heap
 loc : ∃ m, s.heap.Ns X.env.locals m /\ ∀ (i : Nat) (x : Str) (v : V), X.N[i]? = some x -> σ[i]? = some (some v) -> Vis X.env.scope x -> ∃ u, RelV v u /\ Look X.env s.heap m x u
 cell : ∀ x c, X.env.cells.lookup x = some c -> ∃ v, s.heap.IsCell c v
 free : H X.env.locals = none
 freeC : ∀ x c, X.env.cells.lookup x = some c -> H c = none
 pin : ∀ p ∈ X.pn ++ pins, s.heap.get? p.1 = some p.2 /\ H p.1 = none /\ p.1 ≠ X.env.locals /\ p.1 ∉ X.fs /\ ∀ v, p.2.data ≠ .cell v
 hok : HOk X.prog X.w H s.heap
 len : σ.length = X.N.length
section
variable {X : Cx} {pins : List (Addr × Obj)} {σ : List (Option V)} {H H' : Hp} {s : Shared} {h' : Heap}
theorem Cx.Ok.nofr (ok : X.Ok) {b : Addr} {o : Obj} (e : X.base.get? b = some o) : b ∉ X.fs := fun hb => by
 have := (ok.funs.mem hb).1
 rw [e] at this; cases this
theorem Inv.bs (I : Inv X pins σ H s) : ∀ b o, X.base.get? b = some o -> s.heap.get? b = some o /\ H b = none := fun b o e =>
 ⟨I.base.keep b o (I.ok.bs b o e).1 (I.ok.bs b o e).2 (I.ok.nofr e) (I.ok.noex b o e), I.base.free b o (I.ok.bs b o e).1 (I.ok.bs b o e).2 (I.ok.noex b o e)⟩
theorem Inv.bk (I : Inv X pins σ H s) : ∀ b o, X.base.get? b = some o -> s.heap.get? b = some o := fun b o e => (I.bs b o e).1
theorem Inv.mod (I : Inv X pins σ H s) : Mod X.K X.mg X.base := I.ok.mod
theorem Inv.kIn (I : Inv X pins σ H s) : X.K.In s.heap := I.ok.mod.kin.keeps I.bk
theorem Inv.fr (I : Inv X pins σ H s) : ∃ m, Fr X.base X.env.locals s.heap m :=
 let ⟨m, hn, _⟩ := I.loc
 ⟨m, hn, I.bk, Nat.le_trans I.ok.bsz I.ok.above⟩
theorem Inv.lt (I : Inv X pins σ H s) : X.env.locals < s.heap.objs.size := let ⟨_, hn, _⟩ := I.loc; hn.lt
theorem Inv.sz (I : Inv X pins σ H s) : X.s₀.heap.objs.size <= s.heap.objs.size := Nat.le_trans I.ok.above (Nat.le_of_lt I.lt)
theorem Inv.nofs (I : Inv X pins σ H s) {a : Addr} (h : s.heap.objs.size <= a) : a ∉ X.fs := fun hb => by
 obtain ⟨_, o, ho, _⟩ := I.ok.funs.mem hb
 exact absurd (Nat.lt_of_lt_of_le (Heap.lt_size ho) (Nat.le_trans I.sz h)) (Nat.lt_irrefl _)
theorem Inv.cne (I : Inv X pins σ H s) : ∀ x c, X.env.cells.lookup x = some c -> c ≠ X.env.locals := fun x c e z => by
 obtain ⟨v, o, ho, hd⟩ := I.cell x c e
 obtain ⟨m, ⟨o', es, ep, ho', hd', _⟩, _⟩ := I.loc
 rw [z, ho'] at ho; cases ho; rw [hd'] at hd; cases hd
theorem Inv.funs (I : Inv X pins σ H s) : s.heap.FunFrames X.base X.outer := by
 have all : ∀ (l : List Env), (∀ b ∈ frs l, b ∈ X.fs) -> X.s₀.heap.FunFrames X.base l -> s.heap.FunFrames X.base l := by
  intro l
  induction l with
  | nil => intro _ _; trivial
  | cons env r ih =>
   intro hs hl
   obtain ⟨hk, ⟨L, o, hf, hn, ho, hd⟩, hr⟩ := hl
   have hL : L ∈ X.fs := hs L (by unfold frs; rw [List.filterMap_cons, hf]; exact List.mem_cons_self)
   obtain ⟨sl, e⟩ := I.base.slot L o ho (I.ok.frf L hL) hL fun z => I.ok.exfs L z hL
   exact ⟨hk, ⟨L, _, hf, hn, e, hd⟩, ih (fun b hb => hs b (by unfold frs; rw [List.filterMap_cons, hf]; exact List.mem_cons_of_mem _ hb)) hr⟩
 exact all X.outer (fun _ hb => hb) I.ok.funs
theorem Inv.stack (I : Inv X pins σ H s) : s.heap.FunFrames X.base X.stack := by
 rcases I.ok.stk with e | ⟨e, hf⟩
 ·rw [e]; exact I.funs
 ·rw [e]
  obtain ⟨m, hn, _⟩ := I.loc
  refine .cons (by rw [I.ok.kind]; decide) hf hn ?_ I.funs
  exact Heap.get?_none_of_le (Nat.le_trans I.ok.bsz I.ok.above)
theorem Inv.stkSub (I : Inv X pins σ H s) : ∀ b ∈ frs X.stack, b ∈ X.env.locals :: X.fs := fun b hb => by
 rcases I.ok.stk with e | ⟨e, hf⟩
 ·rw [e] at hb; exact List.mem_cons_of_mem _ hb
 ·rw [e] at hb
  unfold frs at hb
  rw [List.filterMap_cons, hf] at hb
  exact hb
theorem Inv.stkFree (I : Inv X pins σ H s) : ∀ b ∈ frs X.stack, H b = none := fun b hb => by
 rcases List.mem_cons.mp (I.stkSub b hb) with e | hb
 ·rw [e]; exact I.free
 ·obtain ⟨_, o, ho, _⟩ := I.ok.funs.mem hb
  exact I.base.free b o ho (I.ok.frf b hb) fun z => I.ok.exfs b z hb
theorem Inv.step {g' : Array GenState} {t' : Nat} {d' : Drawn} {ch : List Addr} (I : Inv X pins σ H s)
  (hch : ∀ b ∈ ch, (b ∈ X.ex \/ X.s₀.heap.objs.size <= b) /\ b ≠ X.env.locals /\ (∀ x c, X.env.cells.lookup x = some c -> c ≠ b) /\ ∀ p ∈ X.pn ++ pins, p.1 ≠ b)
  (keep : ∀ b o, b ≠ X.env.locals -> b ∉ X.fs -> b ∉ ch -> s.heap.get? b = some o -> H b = none -> h'.get? b = some o)
  (slot : ∀ b o, b ≠ X.env.locals -> b ∈ X.fs -> b ∉ ch -> s.heap.get? b = some o -> H b = none -> ∃ sl, h'.get? b = some { o with slots := sl }) (free : ∀ b o, b ∉ ch -> s.heap.get? b = some o -> H b = none -> H' b = none)
  (there : ∀ b o, b ∉ ch -> s.heap.get? b = some o -> ∃ o', h'.get? b = some o')
  (tups : ∀ b xs, H b = some (.tup xs) -> H' b = some (.tup xs)) (frzs : ∀ b o u, H b = some (.frz o u) -> H' b = some (.frz o u)) (tbls : ∀ b ps, H b = some (.tbl ps) -> ∃ more, H' b = some (.tbl (ps ++ more)))
  (ns : ∀ m, s.heap.Ns X.env.locals m -> h'.Ns X.env.locals m) (hok : HOk X.prog X.w H' h') (hg : AllBare g') :
  Inv X pins σ H' { s with heap := h', gens := g', drawn := d', toks := t' } := by
 have neL : ∀ b o, X.s₀.heap.get? b = some o -> b ≠ X.env.locals := fun b o e => Nat.ne_of_lt (Nat.lt_of_lt_of_le (Heap.lt_size e) I.ok.above)
 have neC : ∀ b o, X.s₀.heap.get? b = some o -> b ∉ X.ex -> b ∉ ch := fun b o e hx hb => by
  rcases (hch b hb).1 with z | z
  ·exact hx z
  ·exact absurd (Nat.lt_of_lt_of_le (Heap.lt_size e) z) (Nat.lt_irrefl _)
 have cellK : ∀ x c, X.env.cells.lookup x = some c -> ∀ v, s.heap.IsCell c v -> h'.IsCell c v := fun x c e v ⟨o, ho, hd⟩ => by
  have nch : c ∉ ch := fun z => (hch c z).2.2.1 x c e rfl
  by_cases hc : c ∈ X.fs
  ·obtain ⟨sl, q⟩ := slot c o (I.cne x c e) hc nch ho (I.freeC x c e)
   exact ⟨_, q, hd⟩
  ·exact ⟨o, keep c o (I.cne x c e) hc nch ho (I.freeC x c e), hd⟩
 refine ⟨I.ok, I.os, hg, ⟨fun b o e n hb hx => ?_, fun b o e n hb hx => ?_, fun b o e n hx => ?_, fun b o e hx => ?_, fun b xs e => tups b xs (I.base.tups b xs e), fun b o xs e => frzs b o xs (I.base.frzs b o xs e), fun b ps e => ?_⟩, ?_, fun x c e => ?_, ?_, fun x c e => ?_, fun p hp => ?_, hok, I.len⟩
 ·exact keep b o (neL b o e) hb (neC b o e hx) (I.base.keep b o e n hb hx) (I.base.free b o e n hx)
 ·obtain ⟨sl, e1⟩ := I.base.slot b o e n hb hx
  obtain ⟨sl', e2⟩ := slot b _ (neL b o e) hb (neC b o e hx) e1 (I.base.free b o e n hx)
  exact ⟨sl', e2⟩
 ·obtain ⟨o', e1⟩ := I.base.there b o e hx
  exact free b o' (neC b o e hx) e1 (I.base.free b o e n hx)
 ·obtain ⟨o', e1⟩ := I.base.there b o e hx
  exact there b o' (neC b o e hx) e1
 ·obtain ⟨m1, e1⟩ := I.base.tbls b ps e
  obtain ⟨m2, e2⟩ := tbls b _ e1
  exact ⟨m1 ++ m2, by rw [e2, Array.append_assoc]⟩
 ·obtain ⟨m, hn, hl⟩ := I.loc
  refine ⟨m, ns m hn, fun i x v e1 e2 e3 => ?_⟩
  obtain ⟨u, r, l⟩ := hl i x v e1 e2 e3
  refine ⟨u, r, ?_⟩
  rcases l with l | ⟨k, c, e, z⟩
  ·exact .inl l
  ·exact .inr ⟨k, c, e, cellK x c e _ z⟩
 ·obtain ⟨v, z⟩ := I.cell x c e
  exact ⟨v, cellK x c e v z⟩
 ·obtain ⟨m, ⟨o, _, _, ho, _⟩, _⟩ := I.loc
  exact free _ o (fun z => (hch _ z).2.1 rfl) ho I.free
 ·obtain ⟨v, o, ho, hd⟩ := I.cell x c e
  exact free c o (fun z => (hch c z).2.2.1 x c e rfl) ho (I.freeC x c e)
 ·obtain ⟨e, n, ne, nf, d⟩ := I.pin p hp
  have nch : p.1 ∉ ch := fun z => (hch p.1 z).2.2.2 p hp rfl
  exact ⟨keep p.1 p.2 ne nf nch e n, free p.1 p.2 nch e n, ne, nf, d⟩
theorem Inv.un {t' : Nat} (I : Inv X pins σ H s) (u : Un X.fs [] H H' s.heap h') (hok : HOk X.prog X.w H' h') : Inv X pins σ H' { s with heap := h', toks := t' } := by
 obtain ⟨m, ⟨o, es, ep, ho, r⟩, _⟩ := id I.loc
 obtain ⟨sl, hL⟩ := u.any ho I.free (by simp)
 exact I.step (g' := s.gens) (d' := s.drawn) (ch := []) (fun _ z => nomatch z) (fun b o _ hb _ e n => u.keep b o e n hb (by simp)) (fun b o _ hb _ e n => u.slot b o e n hb (by simp)) (fun b o _ e n => u.free b o e n (by simp)) (fun b o _ e => u.there b o e (by simp)) u.tups u.frzs u.tbls (fun m' hm => by
  obtain ⟨o', es', ep', ho', r'⟩ := hm
  rw [ho] at ho'; cases ho'
  exact ⟨_, es', ep', hL, r'⟩) hok I.bare
theorem Inv.call {g' : Array GenState} {t' : Nat} {d' : Drawn} {ch : List Addr} (I : Inv X pins σ H s) (u : Un (frs X.stack) ch H H' s.heap h') (hok : HOk X.prog X.w H' h') (hg : AllBare g')
  (hch : ∀ b ∈ ch, (b ∈ X.ex \/ X.s₀.heap.objs.size <= b) /\ b ≠ X.env.locals /\ (∀ x c, X.env.cells.lookup x = some c -> c ≠ b) /\ ∀ p ∈ X.pn ++ pins, p.1 ≠ b) :
  Inv X pins σ H' { s with heap := h', gens := g', drawn := d', toks := t' } := by
 obtain ⟨m, ⟨o, es, ep, ho, r⟩, _⟩ := id I.loc
 obtain ⟨sl, hL⟩ := u.any ho I.free fun z => (hch _ z).2.1 rfl
 exact I.step (ch := ch) hch (fun b o hL hb hc e n => u.keep b o e n (fun z => (List.mem_cons.mp (I.stkSub b z)).elim hL hb) hc) (fun b o _ _ hc e n => u.any e n hc) (fun b o hc e n => u.free b o e n hc) (fun b o hc e => u.there b o e hc) u.tups u.frzs u.tbls (fun m' hm => by
  obtain ⟨o', es', ep', ho', r'⟩ := hm
  rw [ho] at ho'; cases ho'
  exact ⟨_, es', ep', hL, r'⟩) hok hg
theorem Inv.turned {t' : Nat} {it : Addr} (I : Inv X pins σ H s) (k : ∀ b o, b ≠ it -> s.heap.get? b = some o -> h'.get? b = some o) (hn : H it = none) (hL : it ≠ X.env.locals)
  (h1 : it ∈ X.ex \/ X.s₀.heap.objs.size <= it) (h2 : ∀ x c, X.env.cells.lookup x = some c -> c ≠ it) (h3 : ∀ p ∈ X.pn ++ pins, p.1 ≠ it) : Inv X pins σ H { s with heap := h', toks := t' } := by
 have nit : ∀ b u, H b = some u -> b ≠ it := fun b u e z => by rw [z, hn] at e; cases e
 refine I.step (g' := s.gens) (d' := s.drawn) (ch := [it]) (fun b hb => ?_) (fun b o _ _ hc e _ => k b o (fun z => hc (by simp [z])) e) (fun b o _ _ hc e _ => ⟨o.slots, k b o (fun z => hc (by simp [z])) e⟩) (fun _ _ _ _ n => n)
  (fun b o hc e => ⟨o, k b o (fun z => hc (by simp [z])) e⟩) (fun _ _ e => e) (fun _ _ _ e => e) (fun b ps e => ⟨#[], by rw [e]; simp⟩) (fun m hm => ?_) (fun b u e => ?_) I.bare
 ·have e : b = it := by simpa using hb
  subst e
  exact ⟨h1, hL, h2, h3⟩
 ·obtain ⟨o, es, ep, ho, r⟩ := hm
  exact ⟨o, es, ep, k _ o (Ne.symm hL) ho, r⟩
 ·refine (I.hok b u e).stay (fun c v hc q => k c v ?_ q) (fun _ q => q) fun _ _ q => q
  rcases hc with z | z
  ·rw [z]; exact nit b u e
  ·exact nit c _ z
theorem Inv.tok (I : Inv X pins σ H s) (t : Nat) : Inv X pins σ H { s with toks := t } := I.un (h' := s.heap) (t' := t) Un.refl I.hok
theorem Inv.kept {t' : Nat} (I : Inv X pins σ H s) (k : ∀ b u, s.heap.get? b = some u -> h'.get? b = some u) : Inv X pins σ H { s with heap := h', toks := t' } := I.un (Un.kept k) (I.hok.kept k)
theorem Inv.laid {a : Addr} {o : HO} {t' : Nat} (I : Inv X pins σ H s) (k : ∀ b u, s.heap.get? b = some u -> h'.get? b = some u) (hp : s.heap.objs.size <= a) (new : ObjOk X.prog X.w (upd H a o) h' a o) :
  Inv X pins σ (upd H a o) { s with heap := h', toks := t' } := I.un (Un.laid k hp (I.hok.fresh hp)) (I.hok.laid k hp new)
theorem Inv.write {x e : Addr} {o : HO} {t' : Nat} (I : Inv X pins σ H s) (mu : Mut (H x)) (he : e = x \/ H e = some (.own x)) (k : ∀ b u, b ≠ e -> s.heap.get? b = some u -> h'.get? b = some u) (heo : ∃ u, h'.get? e = some u)
  (new : ObjOk X.prog X.w (upd H x o) h' x o) : Inv X pins σ (upd H x o) { s with heap := h', toks := t' } := I.un (Un.write mu he k heo) (I.hok.write mu he k heo new)
theorem Inv.weak {σ' : List (Option V)} (I : Inv X pins σ H s) (hl : σ'.length = σ.length) (w : ∀ (i : Nat) v, σ'[i]? = some (some v) -> σ[i]? = some (some v)) : Inv X pins σ' H s :=
 ⟨I.ok, I.os, I.bare, I.base, let ⟨m, hn, hl'⟩ := I.loc; ⟨m, hn, fun i x v e1 e2 e3 => hl' i x v e1 (w i v e2) e3⟩, I.cell, I.free, I.freeC, I.pin, I.hok, hl.trans I.len⟩
theorem Inv.pins_of {pins' : List (Addr × Obj)} (I : Inv X pins σ H s) (h : ∀ p ∈ pins', s.heap.get? p.1 = some p.2 /\ H p.1 = none /\ p.1 ≠ X.env.locals /\ p.1 ∉ X.fs /\ ∀ v, p.2.data ≠ .cell v) : Inv X pins' σ H s :=
 ⟨I.ok, I.os, I.bare, I.base, I.loc, I.cell, I.free, I.freeC, fun p hp => (List.mem_append.mp hp).elim (fun z => I.pin p (List.mem_append_left _ z)) (h p), I.hok, I.len⟩
theorem nodup_ix {N : List Str} (hN : N.Nodup) {i j : Nat} {x : Str} (a : N[i]? = some x) (b : N[j]? = some x) : i = j := by
 obtain ⟨h1, e1⟩ := List.getElem?_eq_some_iff.mp a
 obtain ⟨h2, e2⟩ := List.getElem?_eq_some_iff.mp b
 exact (List.getElem_inj hN).mp (e1.trans e2.symm)
theorem store_ok2 {M : Model} {A : Around} {E : Value -> Shared -> Prop} {i : Nat} {x : Str} {v : V} {u : Value} {Q : Unit -> Shared -> Prop} (I : Inv X pins σ H s) (hN : X.N.Nodup) (hi : X.N[i]? = some x) (hx : Loc X.env.scope x) (r : RelV v u)
  (h : ∀ s', Inv X pins (σ.set i (some v)) H s' -> (∃ a, Heap.SameBut a s.heap s'.heap /\ (a = X.env.locals \/ X.env.cells.lookup x = some a)) -> Q () s') (hf : X.fn x = true \/ X.env.scope.names.lookup x = some .local := by first | exact .inl rfl | exact .inr rfl | assumption) : wpAny M A (storeName X.env x u) Q E s := by
 obtain ⟨m, hn, hl⟩ := id I.loc
 have hcls : (X.env.scope.kind == .class || (X.env.scope.kind == .module && X.env.locals != X.env.globals)) = false := by rw [I.ok.kind]; rfl
 have hiσ : i < σ.length := by rw [I.len]; exact (List.getElem?_eq_some_iff.mp hi).1
 have cne := I.cne
 have tracked : ∀ {a : Addr} {h' : Heap}, (∃ o, s.heap.get? a = some o /\ H a = none) -> Heap.SameBut a s.heap h' -> HOk X.prog X.w H h' := fun {a h'} ha hs b ob e => by
  obtain ⟨_, _, hfree⟩ := ha
  refine (I.hok b ob e).stay (fun c w' hc q => (hs.2 c ?_).trans q) (fun _ q => q) fun _ _ q => q
  rintro rfl
  rcases hc with rfl | hc
  ·rw [hfree] at e; cases e
  ·rw [hfree] at hc; cases hc
 rcases hx with hk | hk
 ·refine wpAny_storeName_local hk hn (fun h' hn' hs => ?_) hcls
  obtain ⟨oL, _, _, hoL, _⟩ := id hn
  refine h _ ⟨I.ok, I.os, I.bare, ⟨fun b o e n hb hx => ?_, fun b o e n hb hx => ?_, I.base.free, fun b o e hx => ?_, I.base.tups, I.base.frzs, I.base.tbls⟩, ⟨_, hn', fun j y v' e1 e2 e3 => ?_⟩, fun y c e => ?_, I.free, I.freeC, fun p hp => ?_, tracked ⟨oL, hoL, I.free⟩ hs, by simpa using I.len⟩ ⟨_, hs, .inl rfl⟩
  ·exact (hs.2 b (Nat.ne_of_lt (Nat.lt_of_lt_of_le (Heap.lt_size e) I.ok.above))).trans (I.base.keep b o e n hb hx)
  ·obtain ⟨sl, e1⟩ := I.base.slot b o e n hb hx
   exact ⟨sl, (hs.2 b (Nat.ne_of_lt (Nat.lt_of_lt_of_le (Heap.lt_size e) I.ok.above))).trans e1⟩
  ·obtain ⟨o', e1⟩ := I.base.there b o e hx
   exact ⟨o', (hs.2 b (Nat.ne_of_lt (Nat.lt_of_lt_of_le (Heap.lt_size e) I.ok.above))).trans e1⟩
  ·by_cases hj : j = i
   ·subst hj
    rw [hi] at e1; cases e1
    rw [List.getElem?_set_self hiσ] at e2
    cases e2
    exact ⟨u, r, .inl ⟨hk, by simp⟩⟩
   ·rw [List.getElem?_set_ne (Ne.symm hj)] at e2
    obtain ⟨u', r', q⟩ := hl j y v' e1 e2 e3
    refine ⟨u', r', ?_⟩
    rcases q with ⟨k, e⟩ | ⟨k, c, e, z⟩
    ·refine .inl ⟨k, ?_⟩
     have : y ≠ x := fun e => hj (nodup_ix hN e1 (e ▸ hi))
     simp [this, e]
    ·exact .inr ⟨k, c, e, z.sameBut hs (cne y c e)⟩
  ·obtain ⟨w', z⟩ := I.cell y c e
   exact ⟨w', z.sameBut hs (cne y c e)⟩
  ·obtain ⟨e, n, ne, nf, d⟩ := I.pin p hp
   exact ⟨(hs.2 p.1 ne).trans e, n, ne, nf, d⟩
 ·have hfn : X.fn x = true := by
   rcases hf with z | z
   ·exact z
   ·rw [z] at hk; cases hk
  obtain ⟨c, hc⟩ := I.ok.has x (.inl hk)
  obtain ⟨w', z⟩ := I.cell x c hc
  refine wpAny_storeName_cell I.ok.kind hk hc z (fun h' hc' hs => ?_)
  obtain ⟨oc, hoc, hocd⟩ := id z
  refine h { s with heap := h' } ⟨I.ok, I.os, I.bare, ⟨fun b o e n hb hx => ?_, fun b o e n hb hx => ?_, I.base.free, fun b o e hx => ?_, I.base.tups, I.base.frzs, I.base.tbls⟩, ⟨m, hn.sameBut hs (Ne.symm (cne x c hc)), fun j y v' e1 e2 e3 => ?_⟩, fun y c' e => ?_, I.free, I.freeC, fun p hp => ?_, tracked ⟨oc, hoc, I.freeC x c hc⟩ hs, by simpa using I.len⟩ ⟨c, hs, .inr hc⟩
  ·exact (hs.2 b (Nat.ne_of_lt (Nat.lt_of_lt_of_le (Heap.lt_size e) (I.ok.cab x c hfn hc)))).trans (I.base.keep b o e n hb hx)
  ·obtain ⟨sl, e1⟩ := I.base.slot b o e n hb hx
   exact ⟨sl, (hs.2 b (Nat.ne_of_lt (Nat.lt_of_lt_of_le (Heap.lt_size e) (I.ok.cab x c hfn hc)))).trans e1⟩
  ·obtain ⟨o', e1⟩ := I.base.there b o e hx
   exact ⟨o', (hs.2 b (Nat.ne_of_lt (Nat.lt_of_lt_of_le (Heap.lt_size e) (I.ok.cab x c hfn hc)))).trans e1⟩
  ·by_cases hj : j = i
   ·subst hj
    rw [hi] at e1; cases e1
    rw [List.getElem?_set_self hiσ] at e2
    cases e2
    exact ⟨u, r, .inr ⟨.inl hk, c, hc, hc'⟩⟩
   ·rw [List.getElem?_set_ne (Ne.symm hj)] at e2
    obtain ⟨u', r', q⟩ := hl j y v' e1 e2 e3
    refine ⟨u', r', ?_⟩
    rcases q with q | ⟨k, c', e, z'⟩
    ·exact .inl q
    ·refine .inr ⟨k, c', e, z'.sameBut hs ?_⟩
     rintro rfl
     exact hj (nodup_ix hN e1 (I.ok.inj _ _ _ e hc ▸ hi))
  ·by_cases hcc : c' = c
   ·subst hcc; exact ⟨_, hc'⟩
   ·obtain ⟨w2, z2⟩ := I.cell y c' e
    exact ⟨w2, z2.sameBut hs hcc⟩
  ·obtain ⟨e, n, ne, nf, d⟩ := I.pin p hp
   refine ⟨(hs.2 p.1 ?_).trans e, n, ne, nf, d⟩
   intro q
   rw [q, hoc] at e
   have q' : oc = p.2 := Option.some.inj e
   exact d w' (by rw [<- q']; exact hocd)
theorem store_ok {M : Model} {A : Around} {E : Value -> Shared -> Prop} {i : Nat} {x : Str} {v : V} {u : Value} {Q : Unit -> Shared -> Prop} (I : Inv X pins σ H s) (hN : X.N.Nodup) (hi : X.N[i]? = some x) (hx : Loc X.env.scope x) (r : RelV v u)
  (h : ∀ s', Inv X pins (σ.set i (some v)) H s' -> Q () s') (hf : X.fn x = true \/ X.env.scope.names.lookup x = some .local := by first | exact .inl rfl | exact .inr rfl | assumption) : wpAny M A (storeName X.env x u) Q E s :=
 store_ok2 I hN hi hx r (fun s' I' _ => h s' I') hf
theorem Inv.call' {s' : Shared} {ch : List Addr} (I : Inv X pins σ H s) (ho : s'.os = s.os) (u : Un (frs X.stack) ch H H' s.heap s'.heap) (hok : HOk X.prog X.w H' s'.heap) (hg : AllBare s'.gens)
  (hch : ∀ b ∈ ch, (b ∈ X.ex \/ X.s₀.heap.objs.size <= b) /\ b ≠ X.env.locals /\ (∀ x c, X.env.cells.lookup x = some c -> c ≠ b) /\ ∀ p ∈ X.pn ++ pins, p.1 ≠ b) : Inv X pins σ H' s' := by
 obtain ⟨h', g', d', t', o'⟩ := s'
 have e : o' = s.os := ho
 subst e
 exact I.call (g' := g') (t' := t') (d' := d') u hok hg hch
end
abbrev XK := Value -> Option Addr -> Hp -> Prop
abbrev St := List (Option V)
abbrev VK := V -> Hp -> Prop
abbrev TE := St -> Hp -> VK -> Prop
abbrev TT := St -> Hp -> (Bool -> Hp -> Prop) -> Prop
abbrev TA := St -> Hp -> (List V -> Hp -> Prop) -> Prop
structure Ends where
 nx : St -> Hp -> Prop
 rt : VK
 bk : St -> Hp -> Prop := fun _ _ => False
 ct : St -> Hp -> Prop := fun _ _ => False
abbrev TS := Ends -> St -> Hp -> Prop
def EP (X : Cx) (pins : List (Addr × Obj)) (σ : St) (Q : VK) (u : Value) (s' : Shared) : Prop := ∃ v H', Inv X pins σ H' s' /\ RelV v u /\ Q v H'
def TP (X : Cx) (pins : List (Addr × Obj)) (σ : St) (Q : Bool -> Hp -> Prop) (b : Bool) (s' : Shared) : Prop := ∃ H', Inv X pins σ H' s' /\ Q b H'
def AP (X : Cx) (pins : List (Addr × Obj)) (σ : St) (Q : List V -> Hp -> Prop) (us : List Value) (s' : Shared) : Prop := ∃ vs H', Inv X pins σ H' s' /\ Vals vs us /\ Q vs H'
def SP (X : Cx) (pins : List (Addr × Obj)) (D : Ends) (f : Flow) (s' : Shared) : Prop :=
 match f with
 | .next => ∃ σ' H', Inv X pins σ' H' s' /\ D.nx σ' H'
 | .brk => ∃ σ' H', Inv X pins σ' H' s' /\ D.bk σ' H'
 | .cont => ∃ σ' H', Inv X pins σ' H' s' /\ D.ct σ' H'
 | .ret u => ∃ v σ' H', Inv X pins σ' H' s' /\ RelV v u /\ D.rt v H'
def PE (X : Cx) (e : Expr) (t : TE) : Prop :=
 ∀ (pins : List (Addr × Obj)) (s : Shared) (σ : St) (H : Hp) (Q : VK), Inv X pins σ H s -> t σ H Q -> wpAny (model X.prog X.w) X.A (eval e X.env) (EP X pins σ Q) X.xe s
def PT (X : Cx) (e : Expr) (t : TT) : Prop :=
 ∀ (pins : List (Addr × Obj)) (s : Shared) (σ : St) (H : Hp) (Q : Bool -> Hp -> Prop), Inv X pins σ H s -> t σ H Q -> wpAny (model X.prog X.w) X.A (isTrue e X.env (eval e X.env)) (TP X pins σ Q) X.xe s
def PW (X : Cx) (e : Expr) (t : TT) : Prop :=
 ∀ (whole : Sem Value) (pins : List (Addr × Obj)) (s : Shared) (σ : St) (H : Hp) (Q : Bool -> Hp -> Prop), Inv X pins σ H s -> t σ H Q -> wpAny (model X.prog X.w) X.A (isTrue e X.env whole) (TP X pins σ Q) X.xe s
theorem PW.pt {X : Cx} {e : Expr} {t : TT} (h : PW X e t) : PT X e t := h _
def PA (X : Cx) (es : List Expr) (t : TA) : Prop :=
 ∀ (pos : Pos) (pins : List (Addr × Obj)) (s : Shared) (σ : St) (H : Hp) (Q : List V -> Hp -> Prop), Inv X pins σ H s -> t σ H Q -> wpAny (model X.prog X.w) X.A (spliced (backTo pos (starEach es X.env))) (AP X pins σ Q) X.xe s
def PS (X : Cx) (st : Stmt) (t : TS) : Prop :=
 ∀ (pins : List (Addr × Obj)) (s : Shared) (σ : St) (H : Hp) (D : Ends), Inv X pins σ H s -> t D σ H -> wpAny (model X.prog X.w) X.A (exec st X.env) (SP X pins D) X.xe s
def PSs (X : Cx) (st : List Stmt) (t : TS) : Prop :=
 ∀ (pins : List (Addr × Obj)) (s : Shared) (σ : St) (H : Hp) (D : Ends), Inv X pins σ H s -> t D σ H -> wpAny (model X.prog X.w) X.A (execs st X.env) (SP X pins D) X.xe s
theorem thn {α : Type} {t : Sem α} {Q Q' : α -> Shared -> Prop} {M : Model} {A : Around} {E : Value -> Shared -> Prop} {s : Shared} (h : wpAny M A t Q E s) (hQ : ∀ a s, Q a s -> Q' a s) : wpAny M A t Q' E s := wpAny_mono h hQ fun _ _ x => x
end L2
namespace L2
open PySem PySem.Spec PyProof.Rows
section
variable {X : Cx}
def tVar (i : Nat) : TE := fun σ H Q => ∃ v, σ[i]? = some (some v) /\ Q v H
def tC (v : V) : TE := fun _ H Q => Q v H
theorem pe_var {i : Nat} {x : Str} {pos : Pos} (hN : X.N[i]? = some x) (hv : Vis X.env.scope x) (hd : (x == ("__debug__" : Str)) = false := by decide) (hcd : (x == ("__classdict__" : Str)) = false := by decide) : PE X (.Name x pos) (tVar i) := by
 intro pins s σ H Q I h
 obtain ⟨v, e, h⟩ := h
 obtain ⟨m, hn, hl⟩ := I.loc
 obtain ⟨u, r, l⟩ := hl i x v hN e hv
 have fin : EP X pins σ Q u s := ⟨v, H, I, r, h⟩
 rcases l with ⟨hk, hm⟩ | ⟨hk, c, hc, hcell⟩
 ·exact wpAny_Name (wpAny_loadName_local I.ok.kind hk hn hm fin) hd
 ·rcases hk with hk | hk
  ·exact wpAny_Name (wpAny_loadName_cell I.ok.kind hk hc hcell fin) hd
  ·exact wpAny_Name (wpAny_loadName_free I.ok.kind hk hc hcell fin hcd) hd
theorem pe_int {i j pos} : PE X (.Constant (.int i) j pos) (tC (.int i)) := fun _ _ _ H _ I h => wpAny_Constant_int ⟨.int i, H, I.tok _, ⟨_, rfl⟩, h⟩
theorem pe_bl {b j pos} : PE X (.Constant (.bool b) j pos) (tC (.bl b)) := fun _ _ _ H _ I h => Constant_bool ⟨.bl b, H, I, rfl, h⟩
theorem pe_str {x j pos} : PE X (.Constant (.str x) j pos) (tC (.str x)) := fun _ _ _ H _ I h => Calls.Constant_str ⟨.str x, H, I.tok _, ⟨_, rfl⟩, h⟩
def Gl (X : Cx) (x : Str) : Prop := X.env.kindOf x = some .globalImplicit
theorem ld_glob {E : Value -> Shared -> Prop} {pins : List (Addr × Obj)} {s : Shared} {σ : St} {H : Hp} {x : Str} {u : Value} {pos : Pos} {Q : Value -> Shared -> Prop} (I : Inv X pins σ H s) (hg : Gl X x) (hm : X.mg x = some u) (h : Q u s)
  (hd : (x == ("__debug__" : Str)) = false := by decide) : wpAny (model X.prog X.w) X.A (eval (.Name x pos) X.env) Q E s :=
 Calls.Name_function_global I.ok.kind hg (Calls.loadGlobal_global (by rw [I.ok.glob]; exact I.mod.glob.keeps I.bk) hm h) hd
theorem ld_blt {E : Value -> Shared -> Prop} {pins : List (Addr × Obj)} {s : Shared} {σ : St} {H : Hp} {x : Str} {u : Value} {pos : Pos} {Q : Value -> Shared -> Prop} (I : Inv X pins σ H s) (hg : Gl X x) (hm : X.mg x = none) (hv : bootBuiltins x = some u) (h : Q u s)
  (hn : x ≠ "__name__" := by decide) (hd : (x == ("__debug__" : Str)) = false := by decide) : wpAny (model X.prog X.w) X.A (eval (.Name x pos) X.env) Q E s := by
 obtain ⟨mb, h1, h2⟩ := I.mod.blt
 exact Calls.Name_function_global I.ok.kind hg (Calls.loadGlobal_builtin (by rw [I.ok.glob]; exact I.mod.glob.keeps I.bk) hm (by rw [I.ok.blt]; exact h1.keeps I.bk) ((h2 x hn).trans hv) h) hd
theorem pe_bltn {x : Str} {v : V} {u : Value} {pos : Pos} (hg : Gl X x) (hm : X.mg x = none) (hv : bootBuiltins x = some u) (r : RelV v u) (hn : x ≠ "__name__" := by decide) (hd : (x == ("__debug__" : Str)) = false := by decide) : PE X (.Name x pos) (tC v) :=
 fun _ _ _ H _ I h => ld_blt I hg hm hv ⟨v, H, I, r, h⟩ hn hd
variable {a b : Expr} {ta tb : TE} {pos : Pos}
def tB (t : TE) : TT := fun σ H Q => t σ H fun x H1 => ∃ c, x = .bl c /\ Q c H1
theorem pt_val {e : Expr} {t : TE} (h : PE X e t) (he : ∀ whole, isTrue e X.env whole = (do let v <- whole; standAt e.pos; holding [v] (truthy v)) := by intro _; rfl) : PT X e (tB t) := by
 intro pins s σ H Q I hw
 refine isTrue_plain (thn (h pins s σ H _ I hw) fun v s1 ⟨x, H1, I1, r1, q1⟩ => ?_) (he _)
 obtain ⟨d, rfl, q⟩ := q1
 cases r1
 exact wpAny_truthy_bool ⟨H1, I1, q⟩
variable {tA tB' : TT} {rest : List Expr}
def tOr (t u : TT) : TT := fun σ H Q => t σ H fun c H1 => if c = true then Q true H1 else u σ H1 Q
def tNot (t : TT) : TT := fun σ H Q => t σ H fun c H1 => Q (!c) H1
theorem pw_or1 (ha : PT X a tA) : PW X (.BoolOp .Or [a] pos) tA := by
 intro wh pins s σ H Q I h
 refine isTrue_or (thn (ha pins s σ H Q I h) fun c s1 e => ?_)
 cases c with
 | false => exact isTrue_or_nil e
 | true => exact e
theorem pw_or (ha : PT X a tA) (hb : PW X (.BoolOp .Or (b :: rest) pos) tB') : PW X (.BoolOp .Or (a :: b :: rest) pos) (tOr tA tB') := by
 intro wh pins s σ H Q I h
 refine isTrue_or (thn (ha pins s σ H _ I h) fun c s1 ⟨H1, I1, q1⟩ => ?_)
 cases c with
 | true => exact ⟨H1, I1, q1⟩
 | false => exact hb wh pins s1 σ H1 Q I1 q1
theorem pt_not (ha : PT X a tA) : PT X (.UnaryOp .Not a pos) (tNot tA) := by
 intro pins s σ H Q I h
 exact isTrue_not (ha pins s σ H (fun c H1 => Q (!c) H1) I h)
def tAndV (ta tb : TE) : TE := fun σ H Q => ta σ H fun x H1 => ∃ c, x = .bl c /\ if c = true then tb σ H1 Q else Q (.bl false) H1
def tNotV (ta : TE) : TE := fun σ H Q => ta σ H fun x H1 => ∃ c, x = .bl c /\ Q (.bl (!c)) H1
theorem pe_one {op} {t : TE} (h : PE X a t) : PE X (.BoolOp op [a] pos) t := fun pins s σ H Q I hw => BoolOp_one (h pins s σ H Q I hw)
theorem pe_and (ha : PE X a ta) (hb : PE X (.BoolOp .And (b :: rest) pos) tb) : PE X (.BoolOp .And (a :: b :: rest) pos) (tAndV ta tb) := by
 intro pins s σ H Q I h
 refine BoolOp_and (thn (ha pins s σ H _ I h) fun v s1 ⟨x, H1, I1, r1, q1⟩ => ?_)
 obtain ⟨c, rfl, q1⟩ := q1
 cases r1
 refine wpAny_truthy_bool ?_
 cases c with
 | true => exact hb pins s1 σ H1 Q I1 q1
 | false => exact ⟨.bl false, H1, I1, rfl, q1⟩
theorem pe_not (ha : PE X a ta) : PE X (.UnaryOp .Not a pos) (tNotV ta) := by
 intro pins s σ H Q I h
 refine UnaryOp_ (thn (ha pins s σ H _ I h) fun v s1 ⟨x, H1, I1, r1, q1⟩ => ?_)
 obtain ⟨c, rfl, q1⟩ := q1
 cases r1
 exact not_of (wpAny_truthy_bool ⟨.bl (!c), H1, I1, rfl, q1⟩)
end
end L2
namespace L2
open PySem PySem.Spec PyProof.Rows
def SqL (K : PySem.W.Frag) (H : Hp) (a : Addr) (xs : List V) : Prop :=
 Rd H a (.lst xs) \/
  ∃ (o : Obj) (its : Array Value) (n : Nat), K.lookup a = some o /\ o.cls = .type "list" /\ o.dict = none /\ o.data = .seq its n /\ its.size <= sizeLine /\ Vals xs its.toList
def SqT (K : PySem.W.Frag) (H : Hp) (a : Addr) (xs : List V) : Prop :=
 Rd H a (.tup xs) \/
  ∃ (o : Obj) (its : Array Value) (n : Nat), K.lookup a = some o /\ o.cls = .type "tuple" /\ o.data = .seq its n /\ its.size <= sizeLine /\ Vals xs its.toList
def absV : Value -> Option V
 | .none => some .non
 | .bool b => some (.bl b)
 | .int i _ => some (.int i)
 | .str x _ => some (.str x)
 | .bytes b _ => some (.byt b)
 | .float b _ => some (.flt b)
 | .ref a => some (.ref a)
 | .type n => some (.ty n)
 | _ => none
theorem RelV.abs {x : V} {u : Value} (r : RelV x u) : absV u = some x := by
 cases x with
 | non => cases r; rfl
 | bl _ => cases r; rfl
 | int _ => obtain ⟨t, rfl⟩ := r; rfl
 | str _ => obtain ⟨t, rfl⟩ := r; rfl
 | byt _ => obtain ⟨t, rfl⟩ := r; rfl
 | flt _ => obtain ⟨t, rfl⟩ := r; rfl
 | ref _ => cases r; rfl
 | ty _ => cases r; rfl
theorem RelV.inj {x y : V} {u : Value} (r : RelV x u) (q : RelV y u) : x = y := Option.some.inj (r.abs.symm.trans q.abs)
theorem Vals.inj : ∀ {xs ys : List V} {us : List Value}, Vals xs us -> Vals ys us -> xs = ys
 | _, _, _, .nil, .nil => rfl
 | _, _, _, .cons r t, .cons r' t' => by rw [r.inj r', Vals.inj t t']
section
variable {X : Cx} {pins : List (Addr × Obj)} {σ : St} {H : Hp} {s : Shared} {a : Addr} {xs ys : List V}
theorem SqL.of {K : PySem.W.Frag} (h : H a = some (.lst xs)) : SqL K H a xs := .inl (.inl h)
theorem SqT.of {K : PySem.W.Frag} (h : H a = some (.tup xs)) : SqT K H a xs := .inl (.inl h)
theorem Inv.list (I : Inv X pins σ H s) (h : SqL X.K H a xs) : ∃ its : List Value, Vals xs its /\ PlainL s.heap a its.toArray /\ xs.length <= sizeLine := by
 rcases h with h | ⟨o, its, n, hk, hc, hd, hs, hz, r⟩
 ·obtain ⟨z, its, n, r, e⟩ := h.ok I.hok
  exact ⟨its, r, ⟨_, n, e, rfl, rfl, rfl⟩, z⟩
 ·refine ⟨its.toList, r, ⟨o, n, I.kIn a o hk, hc, hd, by simpa using hs⟩, ?_⟩
  have e := r.length
  simp only [Array.length_toList] at e
  omega
theorem Inv.tuple (I : Inv X pins σ H s) (h : SqT X.K H a xs) : ∃ its : List Value, Vals xs its /\ IsTup s.heap a its.toArray /\ xs.length <= sizeLine := by
 rcases h with h | ⟨o, its, n, hk, hc, hs, hz, r⟩
 ·obtain ⟨z, its, r, p⟩ := h.ok I.hok
  exact ⟨its, r, p, z⟩
 ·refine ⟨its.toList, r, ⟨o, I.kIn a o hk, hc, n, by simpa using hs⟩, ?_⟩
  have e := r.length
  simp only [Array.length_toList] at e
  omega
theorem Inv.list_inj (I : Inv X pins σ H s) (h : SqL X.K H a xs) (h' : SqL X.K H a ys) : xs = ys := by
 obtain ⟨its, r, ⟨o, n, e, _, _, d⟩, _⟩ := I.list h
 obtain ⟨its', r', ⟨o', n', e', _, _, d'⟩, _⟩ := I.list h'
 rw [e] at e'; cases e'
 rw [d] at d'
 injection d' with d1 _
 have : its = its' := by simpa using congrArg Array.toList d1
 subst this
 exact r.inj r'
theorem Inv.tuple_inj (I : Inv X pins σ H s) (h : SqT X.K H a xs) (h' : SqT X.K H a ys) : xs = ys := by
 obtain ⟨its, r, ⟨o, e, _, n, d⟩, _⟩ := I.tuple h
 obtain ⟨its', r', ⟨o', e', _, n', d'⟩, _⟩ := I.tuple h'
 rw [e] at e'; cases e'
 rw [d] at d'
 injection d' with d1 _
 have : its = its' := by simpa using congrArg Array.toList d1
 subst this
 exact r.inj r'
end
abbrev Cx.wish (X : Cx) (E : Value -> Shared -> Prop) : Cx := { X with xe := E }
abbrev Cx.nox (X : Cx) : Cx := X.wish fun _ _ => False
theorem Cx.Ok.wish {X : Cx} (ok : X.Ok) (E : Value -> Shared -> Prop) : (X.wish E).Ok :=
 ⟨ok.mod, ok.kind, ok.glob, ok.blt, ok.above, ok.inj, ok.has, ok.cab, ok.hd, ok.frames, ok.stk, ok.exf, ok.bs, ok.bsz, ok.noex, ok.exfs, ok.funs, ok.frf⟩
theorem Cx.Ok.unwish {X : Cx} {E : Value -> Shared -> Prop} (ok : (X.wish E).Ok) : X.Ok :=
 ⟨ok.mod, ok.kind, ok.glob, ok.blt, ok.above, ok.inj, ok.has, ok.cab, ok.hd, ok.frames, ok.stk, ok.exf, ok.bs, ok.bsz, ok.noex, ok.exfs, ok.funs, ok.frf⟩
section
variable {X : Cx} {pins : List (Addr × Obj)} {σ : St} {H : Hp} {s : Shared} {E : Value -> Shared -> Prop}
theorem Inv.wish (I : Inv X pins σ H s) (E : Value -> Shared -> Prop) : Inv (X.wish E) pins σ H s := ⟨I.ok.wish E, I.os, I.bare, I.base, I.loc, I.cell, I.free, I.freeC, I.pin, I.hok, I.len⟩
theorem Inv.unwish (I : Inv (X.wish E) pins σ H s) : Inv X pins σ H s := ⟨I.ok.unwish, I.os, I.bare, I.base, I.loc, I.cell, I.free, I.freeC, I.pin, I.hok, I.len⟩
theorem SP.unwish {D : Ends} {f : Flow} {s' : Shared} (h : SP (X.wish E) pins D f s') : SP X pins D f s' := by
 cases f with
 | next => obtain ⟨σ', H', I, q⟩ := h; exact ⟨σ', H', I.unwish, q⟩
 | brk => obtain ⟨σ', H', I, q⟩ := h; exact ⟨σ', H', I.unwish, q⟩
 | cont => obtain ⟨σ', H', I, q⟩ := h; exact ⟨σ', H', I.unwish, q⟩
 | ret u => obtain ⟨v, σ', H', I, r, q⟩ := h; exact ⟨v, σ', H', I.unwish, r, q⟩
theorem PSs.nox {st : List Stmt} {t : TS} (h : PSs X.nox st t) : PSs X st t := fun pins s σ H D I hw =>
 wpAny_mono (h pins s σ H D (I.wish _) hw) (fun _ _ q => q.unwish) fun _ _ z => False.elim z
end
section
variable {X : Cx} {st : Stmt} {rest : List Stmt} {t u : TS} {e : Expr} {te : TE} {pos : Pos}
def tNext : TS := fun D σ H => D.nx σ H
def tSeq (t u : TS) : TS := fun D σ H => t { D with nx := u D } σ H
theorem pss_nil : PSs X [] tNext := fun _ _ σ H _ I h => wpAny_execs_nil ⟨σ, H, I, h⟩
theorem pss_cons (h1 : PS X st t) (h2 : PSs X rest u) : PSs X (st :: rest) (tSeq t u) := by
 intro pins s σ H D I h
 refine wpAny_execs_cons (thn (h1 pins s σ H { D with nx := u D } I h) fun f s1 q => ?_)
 cases f with
 | next =>
  obtain ⟨σ', H', I', q⟩ := q
  exact h2 pins s1 σ' H' D I' q
 | ret v => exact q
 | brk => exact q
 | cont => exact q
theorem pss_one (h1 : PS X st t) : PSs X [st] t := by
 intro pins s σ H D I h
 refine wpAny_execs_cons (thn (h1 pins s σ H D I h) fun f s1 q => ?_)
 cases f with
 | next => exact wpAny_execs_nil q
 | ret v => exact q
 | brk => exact q
 | cont => exact q
theorem Inv.quiet {pins : List (Addr × Obj)} {σ : St} {H : Hp} {s : Shared} (I : Inv X pins σ H s) : interactive X.env = false := by simp [interactive, I.ok.kind]
def tDrop (te : TE) : TS := fun D σ H => te σ H fun _ H1 => D.nx σ H1
theorem ps_expr (he : PE X e te) (hs : swapsWith e none pos.line X.env = pure false := by rfl) : PS X (.Expr e pos) (tDrop te) := by
 intro pins s σ H D I h
 exact wpAny_Expr_any (thn (he pins s σ H _ I h) fun v s1 ⟨x, H1, I1, r1, q1⟩ => ⟨σ, H1, I1, q1⟩) I.quiet hs
def tRet (te : TE) : TS := fun D σ H => te σ H D.rt
theorem ps_ret (he : PE X e te) : PS X (.Return (some e) pos) (tRet te) := by
 intro pins s σ H D I h
 exact wpAny_Return_some (thn (he pins s σ H _ I h) fun v s1 ⟨x, H1, I1, r1, q1⟩ => ⟨x, σ, H1, I1, r1, q1⟩)
def tIfS (c : TT) (t u : TS) : TS := fun D σ H => c σ H fun b H1 => if b = true then t D σ H1 else u D σ H1
theorem ps_if {c : Expr} {a b : List Stmt} {tc : TT} (hc : PT X c tc) (ha : PSs X a t) (hb : PSs X b u) : PS X (.If c a b pos) (tIfS tc t u) := by
 intro pins s σ H D I h
 refine wpAny_If (thn (hc pins s σ H _ I h) fun d s1 ⟨H1, I1, q1⟩ => ?_)
 cases d with
 | true => exact ha pins s1 σ H1 D I1 q1
 | false => exact hb pins s1 σ H1 D I1 q1
def tNever : TS := fun _ _ _ => False
theorem pss_never {sts : List Stmt} : PSs X sts tNever := fun _ _ _ _ _ _ h => h.elim
end
abbrev TG := V -> St -> Hp -> (St -> Hp -> Prop) -> Prop
abbrev TGs := List V -> St -> Hp -> (St -> Hp -> Prop) -> Prop
def PG (X : Cx) (target : Expr) (t : TG) : Prop :=
 ∀ (pins : List (Addr × Obj)) (s : Shared) (σ : St) (H : Hp) (v : V) (u : Value) (Q : St -> Hp -> Prop), Inv X pins σ H s -> RelV v u -> t v σ H Q ->
  wpAny (model X.prog X.w) X.A (assign target X.env u) (fun _ s' => ∃ σ' H', Inv X pins σ' H' s' /\ Q σ' H') X.xe s
def PGs (X : Cx) (ts : List Expr) (t : TGs) : Prop :=
 ∀ (pins : List (Addr × Obj)) (s : Shared) (σ : St) (H : Hp) (vs : List V) (us : List Value) (Q : St -> Hp -> Prop), Inv X pins σ H s -> Vals vs us -> t vs σ H Q ->
  wpAny (model X.prog X.w) X.A (assignInOrder ((assignEach ts X.env).map (·.2)) us) (fun _ s' => ∃ σ' H', Inv X pins σ' H' s' /\ Q σ' H') X.xe s
abbrev TSet := V -> V -> V -> Hp -> (Hp -> Prop) -> Prop
def PSet (X : Cx) (t : TSet) : Prop :=
 ∀ (pins : List (Addr × Obj)) (s : Shared) (σ : St) (H : Hp) (o i v : V) (ov iv u : Value) (Q : Hp -> Prop), Inv X pins σ H s -> RelV o ov -> RelV i iv -> RelV v u -> t o i v H Q ->
  wpAny (model X.prog X.w) X.A (setItem ov iv u) (fun _ s' => ∃ H', Inv X pins σ H' s' /\ Q H') X.xe s
section
variable {X : Cx} {pos : Pos}
def gName (i : Nat) : TG := fun v σ H Q => Q (σ.set i (some v)) H
theorem pg_name {i : Nat} {x : Str} (hN : X.N.Nodup) (hi : X.N[i]? = some x) (hx : Loc X.env.scope x) (hf : X.fn x = true \/ X.env.scope.names.lookup x = some .local := by first | exact .inl rfl | exact .inr rfl | assumption) : PG X (.Name x pos) (gName i) := by
 intro pins s σ H v u Q I r h
 exact wpAny_assign_Name (store_ok I hN hi hx r (fun s' I' => ⟨_, H, I', h⟩) hf)
def gNil : TGs := fun vs σ H Q => vs = [] /\ Q σ H
def gCons (t : TG) (u : TGs) : TGs := fun vs σ H Q => ∃ v r, vs = v :: r /\ t v σ H fun σ' H' => u r σ' H' Q
theorem pgs_nil : PGs X [] gNil := by
 intro pins s σ H vs us Q I r h
 obtain ⟨e, h⟩ := h
 subst e
 cases r
 exact assignInOrder_nil ⟨σ, H, I, h⟩
theorem pgs_cons {e : Expr} {es : List Expr} {t : TG} {u : TGs} (h1 : PG X e t) (h2 : PGs X es u)
  (hs : (assignEach (e :: es) X.env).map (·.2) = assign e X.env :: (assignEach es X.env).map (·.2) := by rfl) : PGs X (e :: es) (gCons t u) := by
 intro pins s σ H vs us Q I r h
 obtain ⟨v, vr, e1, h⟩ := h
 subst e1
 cases r with
 | cons r rr =>
  rw [hs]
  refine assignInOrder_cons (thn (h1 pins s σ H _ _ _ I r h) fun _ s1 ⟨σ1, H1, I1, q1⟩ => ?_)
  exact h2 pins s1 σ1 H1 _ _ Q I1 rr q1
def gTup (K : PySem.W.Frag) (n : Nat) (t : TGs) : TG := fun v σ H Q => ∃ a xs, v = .ref a /\ SqT K H a xs /\ xs.length = n /\ t xs σ H Q
theorem pg_tup {es : List Expr} {k : Nat} {t : TGs} {n : Nat} (hc : X.calm = true) (h : PGs X es t)
  (hn : (assignEach es X.env).length = n := by rfl) (hst : (assignEach es X.env).findIdx? (·.1) = none := by rfl) : PG X (.Tuple es k pos) (gTup X.K n t) := by
 intro pins s σ H v u Q I r hw
 obtain ⟨a, xs, e1, hq, hl, hw⟩ := hw
 subst e1
 cases r
 obtain ⟨its, rv, ht, hz⟩ := I.tuple hq
 refine assign_Tuple_tuple (I.ok.hd hc) ht (by simp [hn, <- hl, rv.length]) hst fun h' hx => ?_
 have I1 : Inv X pins σ H { s with heap := h' } := I.kept (t' := s.toks) fun b o e => hx b o (Nat.ne_of_lt (Heap.lt_size e)) e
 exact h pins _ σ H xs _ Q I1 (by simpa using rv) hw
def gSub (to ti : TE) (t : TSet) : TG := fun v σ H Q => to σ H fun o H1 => ti σ H1 fun i H2 => t o i v H2 fun H3 => Q σ H3
theorem pg_sub {o i : Expr} {to ti : TE} {t : TSet} (ho : PE X o to) (hi : PE X i ti) (hs : PSet X t)
  (ha : ∀ v, assign (.Subscript o i pos) X.env v = (do
   let ov <- holding [v] (eval o X.env)
   let iv <- holding [v, ov] (eval i X.env)
   standAt pos
   holding [v, ov, iv] (setItem ov iv v)
   release [v, ov, iv] []) := by intro _; rfl) : PG X (.Subscript o i pos) (gSub to ti t) := by
 intro pins s σ H v u Q I r h
 rw [ha]
 refine wpAny_bind (wpAny_holding (thn (ho pins s σ H _ I h) fun ov s1 ⟨x, H1, I1, r1, q1⟩ => ?_))
 refine wpAny_bind (wpAny_holding (thn (hi pins s1 σ H1 _ I1 q1) fun iv s2 ⟨y, H2, I2, r2, q2⟩ => ?_))
 refine wpAny_bind (wpAny_standAt (wpAny_bind (wpAny_holding (thn (hs pins s2 σ H2 x y v ov iv u _ I2 r1 r2 r q2) fun _ s3 ⟨H3, I3, q3⟩ => ?_))))
 exact wpAny_release ⟨σ, H3, I3, q3⟩
def tAsg (te : TE) (g : TG) : TS := fun D σ H => te σ H fun x H1 => g x σ H1 D.nx
theorem ps_asg {tg e : Expr} {te : TE} {g : TG} (he : PE X e te) (hg : PG X tg g) (hs : swapsWithSole [tg] e pos.line X.env = pure false := by rfl) (hw : swappedStores [tg] e X.env = pure none := by rfl)
  (h1 : (assignEach [tg] X.env).map (·.2) = [assign tg X.env] := by rfl) : PS X (.Assign [tg] e pos) (tAsg te g) := by
 intro pins s σ H D I h
 refine wpAny_Assign_stores (thn (he pins s σ H _ I h) fun v s1 ⟨x, H1, I1, r1, q1⟩ => ?_) hs hw
 rw [h1]
 exact thn (hg pins s1 σ H1 x v _ I1 r1 q1) fun _ s2 q => q
theorem ps_set {i : Nat} {x : Str} {e : Expr} {te : TE} {pos' : Pos} (hN : X.N.Nodup) (hi : X.N[i]? = some x) (hx : Loc X.env.scope x) (he : PE X e te) (hs : swapsWith e (some (.Name x pos')) pos.line X.env = pure false := by rfl) (hf : X.fn x = true \/ X.env.scope.names.lookup x = some .local := by first | exact .inl rfl | exact .inr rfl | assumption) :
  PS X (.Assign [.Name x pos'] e pos) (tAsg te (gName i)) := by
 intro pins s σ H D I h
 refine wpAny_Assign_Name (thn (he pins s σ H _ I h) fun v s1 ⟨y, H1, I1, r1, q1⟩ => ?_) hs
 exact store_ok I1 hN hi hx r1 (fun s2 I2 => ⟨_, H1, I2, q1⟩) hf
def tPar (i j : Nat) (ta : TA) : TS := fun D σ H => ta σ H fun vs H1 => ∃ v w, vs = [v, w] /\ D.nx ((σ.set i (some v)).set j (some w)) H1
theorem ps_par {i j : Nat} {x y : Str} {a b : Expr} {ta : TA} {px py pt : Pos} {kt k2 pt2} (hc : X.calm = true) (hN : X.N.Nodup) (hi : X.N[i]? = some x) (hj : X.N[j]? = some y) (hij : i ≠ j)
  (hx : X.env.scope.names.lookup x = some .local) (hy : X.env.scope.names.lookup y = some .local) (ha : PA X [a, b] ta)
  (hw : swappedStores [.Tuple [.Name x px, .Name y py] kt pt] (.Tuple [a, b] k2 pt2) X.env = pure (some [x, y]))
  (hs : swapsWithSole [.Tuple [.Name x px, .Name y py] kt pt] (.Tuple [a, b] k2 pt2) pos.line X.env = pure false := by rfl) :
  PS X (.Assign [.Tuple [.Name x px, .Name y py] kt pt] (.Tuple [a, b] k2 pt2) pos) (tPar i j ta) := by
 intro pins s σ H D I h
 rw [exec_Assign_arm]
 refine wpAny_bind (wpAny_standAt ?_)
 rw [hs]
 refine wpAny_bind (wpAny_pure ?_)
 rw [if_neg (by decide)]
 refine wpAny_bind (Tuple_ (thn (ha _ pins s σ H _ I h) fun us s1 ⟨vs, H1, I1, r1, q1⟩ => ?_))
 obtain ⟨v, w, e1, q1⟩ := q1
 subst e1
 obtain ⟨u1, u2, rfl, rv, rw'⟩ : ∃ u1 u2, us = [u1, u2] /\ RelV v u1 /\ RelV w u2 := by
  cases r1 with
  | cons p q =>
   cases q with
   | cons p' q' =>
    cases q'
    exact ⟨_, _, rfl, p, p'⟩
 refine wpAny_newObj_type ?_ (by show 2 <= sizeLine; decide)
 have I2 : Inv X pins σ H1 { s1 with heap := s1.heap.push { cls := .type "tuple", data := .seq [u1, u2].toArray } } := I1.kept (t' := s1.toks) fun b o e => Heap.get?_push_of_some _ e
 rw [hw]
 refine wpAny_bind (wpAny_pure ?_)
 show wpAny (model X.prog X.w) X.A (do rule "assign.swapped-stores"; let items <- unpackItems (.ref s1.heap.objs.size) 2 none; assignInOrder [fun v => bindName X.env y v, fun v => bindName X.env x v] items.reverse; pure Flow.next) _ _ _
 refine wpAny_bind (wpAny_rule (wpAny_bind (unpackItems_tuple (items := #[u1, u2]) (I.ok.hd hc) (IsTup.new s1.heap _) fun h' hx' => ?_)))
 have I3 := I2.kept (h' := h') (t' := s1.toks) fun b o e => hx' b o (Nat.ne_of_lt (Heap.lt_size e)) e
 show wpAny _ _ (assignInOrder [fun v => bindName X.env y v, fun v => bindName X.env x v] [u2, u1] >>= fun _ => pure Flow.next) _ _ _
 refine wpAny_bind (assignInOrder_cons (wpAny_bindName (store_ok I3 hN hj (.inl hy) rw' (fun s2 I4 => ?_) (.inr hy))))
 refine assignInOrder_cons (wpAny_bindName (store_ok I4 hN hi (.inl hx) rv (fun s3 I5 => assignInOrder_nil (wpAny_pure ?_)) (.inr hx)))
 rw [List.set_comm _ _ (Ne.symm hij)] at I5
 exact ⟨_, H1, I5, q1⟩
end
section
variable {X : Cx} {pos : Pos}
def tWhile (c : TT) (tb : TS) : TS := fun D σ H => ∃ W : Nat -> St -> Hp -> Prop, (∃ m, W m σ H) /\ ∀ m σ H, W m σ H ->
 c σ H fun b H1 => if b = true then ∃ N : St -> Hp -> Prop, (∀ σ' H', N σ' H' -> ∃ m', m' < m /\ W m' σ' H') /\ tb { D with nx := N, ct := N, bk := D.nx } σ H1 else D.nx σ H1
theorem ps_while {c : Expr} {body : List Stmt} {tc : TT} {tb : TS} (hp : PassesOwn (model X.prog X.w) X.A X.env X.xe) (hc : PT X c tc) (hb : PSs X body tb) : PS X (.While c body [] pos) (tWhile tc tb) := by
 intro pins s σ H D I h
 obtain ⟨W, ⟨m0, w0⟩, turn⟩ := h
 refine wpAny_While (codeAny_whileLoop (fun n s' => ∃ σ' H', Inv X pins σ' H' s' /\ W n σ' H') ?_ m0 ⟨σ, H, I, w0⟩)
 rintro n s1 ⟨σ1, H1, I1, w1⟩
 refine wpAny_passesOwn hp (thn (hc pins s1 σ1 H1 _ I1 (turn n σ1 H1 w1)) fun b s2 ⟨H2, I2, q2⟩ => ?_)
 cases b with
 | true =>
  obtain ⟨N, hN, q2⟩ := q2
  rw [if_pos rfl]
  refine wpAny_passesOwn hp (thn (hb pins s2 σ1 H2 _ I2 q2) fun f s3 q3 => ?_)
  cases f with
  | next =>
   obtain ⟨σ3, H3, I3, n3⟩ := q3
   obtain ⟨m', hm, w3⟩ := hN σ3 H3 n3
   exact ⟨m', hm, σ3, H3, I3, w3⟩
  | cont =>
   obtain ⟨σ3, H3, I3, n3⟩ := q3
   obtain ⟨m', hm, w3⟩ := hN σ3 H3 n3
   exact ⟨m', hm, σ3, H3, I3, w3⟩
  | brk => exact q3
  | ret v => exact q3
 | false =>
  rw [if_neg Bool.false_ne_true]
  exact wpAny_execs_nil ⟨σ1, H2, I2, q2⟩
end
structure It where
 go : Nat -> Hp -> Prop
 yld : Nat -> Hp -> V -> Hp -> Prop
 stop : Nat -> Hp -> Prop
def FpOk (X : Cx) (pins : List (Addr × Obj)) (H : Hp) (b : Addr) : Prop :=
 H b = none /\ b ≠ X.env.locals /\ b ∉ X.fs /\ (b ∈ X.ex \/ X.s₀.heap.objs.size <= b) /\ (∀ x c, X.env.cells.lookup x = some c -> c ≠ b) /\ ∀ p ∈ X.pn ++ pins, p.1 ≠ b
theorem Inv.fpOk {X : Cx} {pins : List (Addr × Obj)} {σ : St} {H H' : Hp} {s : Shared} {b : Addr} (I : Inv X pins σ H s) (hb : s.heap.objs.size <= b) (hn : H' b = none) : FpOk X pins H' b := by
 refine ⟨hn, Nat.ne_of_gt (Nat.lt_of_lt_of_le I.lt hb), I.nofs hb, .inr (Nat.le_trans I.sz hb), fun x c e z => ?_, fun p hp z => ?_⟩
 ·obtain ⟨v, q⟩ := I.cell x c e
  exact absurd (Nat.lt_of_lt_of_le q.lt (by rw [z]; exact hb)) (Nat.lt_irrefl _)
 ·exact absurd (Nat.lt_of_lt_of_le (Heap.lt_size (I.pin p hp).1) (by rw [z]; exact hb)) (Nat.lt_irrefl _)
structure Turn (P : Program) (w : World) (K : PySem.W.Frag) (tg : Expr) (J : It) (fp : List Addr) (it : Addr) (tn : Nat -> Heap -> Prop) : Prop where
 mem : it ∈ fp
 obj : ∀ i h, tn i h -> ∀ b ∈ fp, ∃ o, h.get? b = some o /\ ∀ v, o.data ≠ .cell v
 keep : ∀ i h h', tn i h -> (∀ b ∈ fp, ∀ o, h.get? b = some o -> h'.get? b = some o) -> tn i h'
 item : ∀ (X : Cx), X.prog = P -> X.w = w -> X.K = K -> X.calm = true -> ∀ (i : Nat) (pins : List (Addr × Obj)) (s : Shared) (σ : St) (H : Hp) (E : Value -> Shared -> Prop), Inv X pins σ H s -> (∀ b ∈ fp, FpOk X pins H b) -> tn i s.heap -> J.go i H ->
  wpAny (model P w) X.A (pyNext (.ref it)) (fun r s1 => ∃ u, r = some u /\
   wpAny (model P w) X.A (letOwnedTupleGo tg (.ref it) u) (fun _ s2 => ∃ x H', Inv X pins σ H' s2 /\ RelV x u /\ J.yld i H x H' /\ tn (i + 1) s2.heap /\ ∀ b ∈ fp, H' b = none) E s1) E s
 done : ∀ (X : Cx), X.prog = P -> X.w = w -> X.K = K -> X.calm = true -> ∀ (i : Nat) (pins : List (Addr × Obj)) (s : Shared) (σ : St) (H : Hp) (E : Value -> Shared -> Prop), Inv X pins σ H s -> (∀ b ∈ fp, FpOk X pins H b) -> tn i s.heap -> J.stop i H ->
  wpAny (model P w) X.A (pyNext (.ref it)) (fun r s1 => r = none /\ Inv X pins σ H s1) E s
 self : ∀ (A : Around) (i : Nat) (s : Shared) (Q : Value -> Shared -> Prop) (E : Value -> Shared -> Prop), tn i s.heap -> Q (.ref it) s -> wpAny (model P w) A (pyIter (.ref it)) Q E s
abbrev TI := St -> Hp -> (It -> Hp -> Prop) -> Prop
def PIE (X : Cx) (pins : List (Addr × Obj)) (σ : St) (tg : Expr) (R : It -> Hp -> Prop) (itv : Value) (s2 : Shared) : Prop :=
 ∃ (it : Addr) (fp : List Addr) (tn : Nat -> Heap -> Prop) (J : It) (H' : Hp), itv = .ref it /\ Inv X pins σ H' s2 /\ Turn X.prog X.w X.K tg J fp it tn /\ tn 0 s2.heap /\ (∀ b ∈ fp, FpOk X pins H' b) /\ R J H'
def PI (X : Cx) (tg iter : Expr) (wi : TI) : Prop :=
 ∀ (pins : List (Addr × Obj)) (s : Shared) (σ : St) (H : Hp) (R : It -> Hp -> Prop), Inv X pins σ H s -> wi σ H R ->
  wpAny (model X.prog X.w) X.A (eval iter X.env) (fun v s1 => wpAny (model X.prog X.w) X.A (pyIter v) (PIE X pins σ tg R) X.xe s1) X.xe s
theorem go_of {M : Model} {A : Around} {E : Value -> Shared -> Prop} {s : Shared} {tg : Expr} {it : Addr} {u : Value} {o : Obj} {n : String} {vs : Array Value} {Q : Unit -> Shared -> Prop} (ho : s.heap.get? it = some o) (hc : o.cls = .type n) (hd : o.data = .fields vs)
  (hn : ["enumerate", "zip", "dict_itemiterator", "dict_reverseitemiterator", "odict_iterator", "itertools.zip_longest", "itertools.pairwise"].contains n = false) (hQ : Q () s) : wpAny M A (letOwnedTupleGo tg (.ref it) u) Q E s := by
 unfold letOwnedTupleGo
 cases tg <;> first
  | exact wpAny_pure hQ
  | (cases u <;> first
    | exact wpAny_pure hQ
    | (refine wpAny_bind (wpAny_load ho ?_)
       rw [hc, hd]
       show wpAny M A (if (["enumerate", "zip", "dict_itemiterator", "dict_reverseitemiterator", "odict_iterator", "itertools.zip_longest", "itertools.pairwise"].contains n && vs[0]? == some (rawInt _)) = true then _ else _) Q E s
       rw [if_neg (by intro h; rw [hn, Bool.false_and] at h; cases h)]
       exact wpAny_pure hQ))
def Itl (K : PySem.W.Frag) (a : Addr) : It :=
 ⟨fun i H => ∃ xs x, SqL K H a xs /\ xs[i]? = some x, fun i H x H' => H' = H /\ ∀ xs, SqL K H a xs -> xs[i]? = some x, fun i H => ∃ xs, SqL K H a xs /\ xs.length <= i⟩
def Itt (K : PySem.W.Frag) (a : Addr) : It :=
 ⟨fun i H => ∃ xs x, SqT K H a xs /\ xs[i]? = some x, fun i H x H' => H' = H /\ ∀ xs, SqT K H a xs -> xs[i]? = some x, fun i H => ∃ xs, SqT K H a xs /\ xs.length <= i⟩
def Itr (lo : Int) (n : Nat) : It := ⟨fun i _ => i < n, fun i H x H' => H' = H /\ x = .int (lo + i), fun i _ => n <= i⟩
theorem turn_list {P : Program} {w : World} {K : PySem.W.Frag} {tg : Expr} (a it : Addr) : Turn P w K tg (Itl K a) [it] it (fun i h => h.IsListIter it a i) where
 mem := by simp
 obj := fun i h st b hb => by
  have e : b = it := by simpa using hb
  subst e
  obtain ⟨o, e, c, d⟩ := st
  exact ⟨o, e, fun v z => by rw [d] at z; cases z⟩
 keep := fun i h h' st k => st.at fun o e => k it (by simp) o e
 item := by
  intro X hP hw hK hc i pins s σ H E I hf st hg
  subst hP hw hK
  obtain ⟨xs, x, hq, hx⟩ := hg
  obtain ⟨its, rv, p, hz⟩ := I.list hq
  obtain ⟨u, hu, ru⟩ := rv.get hx
  obtain ⟨f0, f1, f2, f3, f4, f5⟩ := hf it (by simp)
  refine wpAny_pyNext_list_item st p.isList (x := u) (by simpa using hu) fun h' st' sb => ?_
  have I1 : Inv X pins σ H { s with heap := h' } := I.turned (t' := s.toks) (fun b o hb e => (sb.2 b hb).trans e) f0 f1 f3 f4 f5
  obtain ⟨o, e, c, d⟩ := id st'
  exact ⟨u, rfl, go_of (s := { s with heap := h' }) e c d (by decide) ⟨x, H, I1, ru, ⟨rfl, fun ys hy => by rw [I.list_inj hy hq]; exact hx⟩, st', fun b hb => (hf b hb).1⟩⟩
 done := by
  intro X hP hw hK hc i pins s σ H E I hf st hg
  subst hP hw hK
  obtain ⟨xs, hq, hx⟩ := hg
  obtain ⟨its, rv, p, hz⟩ := I.list hq
  obtain ⟨f0, f1, f2, f3, f4, f5⟩ := hf it (by simp)
  have hl := rv.length
  exact wpAny_pyNext_list_end (I.ok.hd hc) st p.isList (by simp; omega) fun h' eb => ⟨rfl, I.turned (t' := s.toks) (fun b o hb e => eb b o hb e) f0 f1 f3 f4 f5⟩
 self := fun _ _ _ _ _ st h => wpAny_pyIter_listiter st h
theorem turn_tuple {P : Program} {w : World} {K : PySem.W.Frag} {tg : Expr} (a it : Addr) : Turn P w K tg (Itt K a) [it] it (fun i h => h.IsTupleIter it a i) where
 mem := by simp
 obj := fun i h st b hb => by
  have e : b = it := by simpa using hb
  subst e
  obtain ⟨o, e, c, d⟩ := st
  exact ⟨o, e, fun v z => by rw [d] at z; cases z⟩
 keep := fun i h h' st k => st.at fun o e => k it (by simp) o e
 item := by
  intro X hP hw hK hc i pins s σ H E I hf st hg
  subst hP hw hK
  obtain ⟨xs, x, hq, hx⟩ := hg
  obtain ⟨its, rv, p, hz⟩ := I.tuple hq
  obtain ⟨u, hu, ru⟩ := rv.get hx
  obtain ⟨f0, f1, f2, f3, f4, f5⟩ := hf it (by simp)
  refine wpAny_pyNext_tuple_item st (show s.heap.IsTuple a its.toArray from p) (x := u) (by simpa using hu) fun h' st' sb => ?_
  have I1 : Inv X pins σ H { s with heap := h' } := I.turned (t' := s.toks) (fun b o hb e => (sb.2 b hb).trans e) f0 f1 f3 f4 f5
  obtain ⟨o, e, c, d⟩ := id st'
  exact ⟨u, rfl, go_of (s := { s with heap := h' }) e c d (by decide) ⟨x, H, I1, ru, ⟨rfl, fun ys hy => by rw [I.tuple_inj hy hq]; exact hx⟩, st', fun b hb => (hf b hb).1⟩⟩
 done := by
  intro X hP hw hK hc i pins s σ H E I hf st hg
  subst hP hw hK
  obtain ⟨xs, hq, hx⟩ := hg
  obtain ⟨its, rv, p, hz⟩ := I.tuple hq
  obtain ⟨f0, f1, f2, f3, f4, f5⟩ := hf it (by simp)
  have hl := rv.length
  exact wpAny_pyNext_tuple_end (I.ok.hd hc) st (show s.heap.IsTuple a its.toArray from p) (by simp; omega) fun h' eb => ⟨rfl, I.turned (t' := s.toks) (fun b o hb e => eb b o hb e) f0 f1 f3 f4 f5⟩
 self := fun _ _ _ _ _ st h => wpAny_pyIter_tupleiter st h
theorem turn_range {P : Program} {w : World} {K : PySem.W.Frag} {tg : Expr} (it : Addr) (lo : Int) (n : Nat) : Turn P w K tg (Itr lo n) [it] it (fun i h => IsRangeIter h it (lo + (i : Nat) * 1) ((n : Int) - (i : Nat)) 1) where
 mem := by simp
 obj := fun i h st b hb => by
  have e : b = it := by simpa using hb
  subst e
  exact ⟨_, st, fun v z => by
   have z' : Data.fields _ = Data.cell v := z
   cases z'⟩
 keep := fun i h h' st k => k it (by simp) _ st
 item := by
  intro X hP hw hK hc i pins s σ H E I hf st hg
  subst hP hw hK
  obtain ⟨f0, f1, f2, f3, f4, f5⟩ := hf it (by simp)
  have W := Walks.range (prog := X.prog) (w := X.w) (I.ok.hd hc) it lo 1 n
  refine W.item i s _ _ hg st fun v h' tk hv st' kk => ?_
  obtain ⟨t, rfl⟩ := hv
  have I1 : Inv X pins σ H { s with heap := h', toks := tk } := I.turned (fun b o hb e => kk b o (by simpa using hb) e) f0 f1 f3 f4 f5
  refine ⟨_, rfl, go_of (s := { s with heap := h', toks := tk }) (n := "range_iterator") st' rfl rfl (by decide) ⟨.int (lo + i), H, I1, ⟨t, ?_⟩, ⟨rfl, rfl⟩, st', fun b hb => (hf b hb).1⟩⟩
  rw [Int.mul_one]
 done := by
  intro X hP hw hK hc i pins s σ H E I hf st hg
  subst hP hw hK
  obtain ⟨f0, f1, f2, f3, f4, f5⟩ := hf it (by simp)
  exact wpAny_pyNext_range_end (I.ok.hd hc) st (by have : n <= i := hg; omega) fun h' eb => ⟨rfl, I.turned (t' := s.toks) (fun b o hb e => eb b o hb e) f0 f1 f3 f4 f5⟩
 self := fun _ _ _ _ _ st h => wpAny_pyIter_rangeiter st h
end L2
namespace L2
open PySem PySem.Spec PyProof.Rows
section
variable {X : Cx} {tg : Expr}
theorem range_it {pins : List (Addr × Obj)} {σ : St} {H : Hp} {s : Shared} {R : It -> Hp -> Prop} {E : Value -> Shared -> Prop} {lo hi : Int} {t u v : Tok} {tk : Nat} (I : Inv X pins σ H s) (h1 : -(2 ^ 62) <= lo) (h2 : lo < 2 ^ 62) (h3 : -(2 ^ 62) <= hi) (h4 : hi < 2 ^ 62)
  (q : R (Itr lo (hi - lo).toNat) H) : wpAny (model X.prog X.w) X.A (pyIter (.ref s.heap.objs.size)) (PIE X pins σ tg R) E { s with heap := s.heap.push { cls := .type "range", data := .fields #[.int lo t, .int hi u, .int 1 v] }, toks := tk } := by
 refine wpAny_pyIter_range (IsRange.new ..) (small_one h1 h2 h3 h4) ?_
 have I1 : Inv X pins σ H { s with heap := s.heap.push { cls := .type "range", data := .fields #[.int lo t, .int hi u, .int 1 v] }, toks := tk } := I.kept fun b o e => Heap.get?_push_of_some _ e
 refine ⟨(s.heap.push { cls := .type "range", data := .fields #[.int lo t, .int hi u, .int 1 v] }).objs.size, [(s.heap.push { cls := .type "range", data := .fields #[.int lo t, .int hi u, .int 1 v] }).objs.size], _, _, H, rfl,
  I1.kept (t' := tk) fun b o e => Heap.get?_push_of_some _ e, turn_range _ lo (hi - lo).toNat, ?_, fun b hb => ?_, q⟩
 ·have e1 : lo + ((0 : Nat) : Int) * 1 = lo := by simp
  have e2 : (((hi - lo).toNat : Nat) : Int) - ((0 : Nat) : Int) = Builtin.Range.rangeSize lo hi 1 := by rw [rangeSize_one]; split <;> omega
  show IsRangeIter _ _ (lo + ((0 : Nat) : Int) * 1) ((((hi - lo).toNat : Nat) : Int) - ((0 : Nat) : Int)) 1
  rw [e1, e2]
  exact Heap.get?_push_size _ rfl
 ·have e : b = (s.heap.push { cls := .type "range", data := .fields #[.int lo t, .int hi u, .int 1 v] }).objs.size := by simpa using hb
  subst e
  exact I1.fpOk (Nat.le_refl _) (I1.hok.fresh (Nat.le_refl _))
def iRng1 (ta : TA) : TI := fun σ H R => ta σ H fun vs H1 => ∃ j : Int, vs = [.int j] /\ -(2 ^ 62) <= j /\ j < 2 ^ 62 /\ R (Itr 0 j.toNat) H1
theorem pi_range1 {a : Expr} {ta : TA} {p pos : Pos} (hg : Gl X "range") (hm : X.mg "range" = none) (ha : PA X [a] ta) (hs : starEach [a] X.env = [(false, eval a X.env)] := by rfl) : PI X tg (.Call (.Name "range" p) [a] [] pos) (iRng1 ta) := by
 intro pins s σ H R I h
 refine Call_ (ld_blt I hg hm boot_range (PyProof.Rows.callWith_type1 (thn (ha pos pins s σ H _ I h) fun us s1 ⟨vs, H1, I1, r1, q1⟩ => ?_) hs rfl))
 obtain ⟨j, e, q1, q2, q⟩ := q1
 subst e
 cases r1 with
 | cons r rr =>
  cases rr
  obtain ⟨t, rfl⟩ := r
  exact call_range_1 (range_it I1 (by omega) (by omega) q1 q2 (by simpa using q))
def tFor (wi : TI) (g : TG) (tb : TS) : TS := fun D σ H => wi σ H fun J H1 => ∃ W : Nat -> Nat -> St -> Hp -> Prop, (∃ m, W 0 m σ H1) /\ ∀ i m σ H, W i m σ H ->
 (J.stop i H /\ D.nx σ H) \/ (J.go i H /\ ∃ N : St -> Hp -> Prop, (∀ σ' H', N σ' H' -> ∃ m', m' < m /\ W (i + 1) m' σ' H') /\ ∀ x H', J.yld i H x H' -> g x σ H' fun σ2 H2 => tb { D with nx := N, ct := N, bk := D.nx } σ2 H2)
def pinsAt (fp : List Addr) (h : Heap) : List (Addr × Obj) := fp.filterMap fun b => (h.get? b).map fun o => (b, o)
theorem mem_pinsAt {fp : List Addr} {h : Heap} {b : Addr} {o : Obj} (hb : b ∈ fp) (e : h.get? b = some o) : (b, o) ∈ pinsAt fp h := List.mem_filterMap.mpr ⟨b, hb, by rw [e]; rfl⟩
theorem of_pinsAt {fp : List Addr} {h : Heap} {p : Addr × Obj} (hp : p ∈ pinsAt fp h) : p.1 ∈ fp /\ h.get? p.1 = some p.2 := by
 obtain ⟨b, hb, e⟩ := List.mem_filterMap.mp hp
 cases q : h.get? b with
 | none => rw [q] at e; cases e
 | some o =>
  rw [q] at e
  have e' : (b, o) = p := Option.some.inj e
  subst e'
  exact ⟨hb, q⟩
theorem Inv.pinned {pins : List (Addr × Obj)} {σ : St} {H : Hp} {s : Shared} {fp : List Addr} (I : Inv X pins σ H s) (hf : ∀ b ∈ fp, FpOk X pins H b) (ho : ∀ b ∈ fp, ∃ o, s.heap.get? b = some o /\ ∀ v, o.data ≠ .cell v) : Inv X (pins ++ pinsAt fp s.heap) σ H s :=
 I.pins_of fun p hp => (List.mem_append.mp hp).elim (fun z => I.pin p (List.mem_append_right _ z)) fun z => by
  obtain ⟨hb, e⟩ := of_pinsAt z
  obtain ⟨f0, f1, f2, _⟩ := hf p.1 hb
  obtain ⟨o, e', d⟩ := ho p.1 hb
  rw [e] at e'; cases e'
  exact ⟨e, f0, f1, f2, d⟩
theorem Inv.unpinned {pins pl : List (Addr × Obj)} {σ : St} {H : Hp} {s : Shared} (I : Inv X (pins ++ pl) σ H s) : Inv X pins σ H s := I.pins_of fun p hp => I.pin p (List.mem_append_right _ (List.mem_append_left _ hp))
theorem ps_for {iter : Expr} {body : List Stmt} {wi : TI} {g : TG} {tb : TS} {pos : Pos} (hp : PassesOwn (model X.prog X.w) X.A X.env X.xe) (hc : X.calm = true) (hi : PI X tg iter wi) (hg : PG X tg g) (hb : PSs X body tb)
  (hs : ∀ x, foldedSetIterable iter X.env x = pure x := by intro _; rfl) : PS X (.For tg iter body [] pos) (tFor wi g tb) := by
 intro pins s σ H D I h
 refine wpAny_For (thn (hi pins s σ H _ I h) fun v s1 h1 => thn h1 fun itv s2 h2 => ?_) hs
 obtain ⟨it, fp, tn, J, H2, e, I2, T, st2, f2, W, ⟨m0, w0⟩, turn⟩ := h2
 subst e
 have stat : ∀ {H' : Hp}, (∀ b ∈ fp, H' b = none) -> ∀ b ∈ fp, FpOk X pins H' b := fun hn b hb => ⟨hn b hb, (f2 b hb).2⟩
 refine codeAny_forLoop_any (fun n s' => ∃ i σ' H', Inv X pins σ' H' s' /\ tn i s'.heap /\ (∀ b ∈ fp, H' b = none) /\ W i n σ' H') ?_ m0 ⟨0, σ, H2, I2, st2, fun b hb => (f2 b hb).1, w0⟩
 rintro n s3 ⟨i, σ3, H3, I3, st3, fr3, w3⟩
 rcases turn i n σ3 H3 w3 with ⟨stop, qn⟩ | ⟨go, N, hN, step⟩
 ·refine wpAny_passesOwn hp (thn (T.done X rfl rfl rfl hc i pins s3 σ3 H3 X.xe I3 (stat fr3) st3 stop) fun r s4 ⟨hr, I4⟩ => ?_)
  subst hr
  exact wpAny_execs_nil ⟨σ3, H3, I4, qn⟩
 ·refine wpAny_passesOwn hp (thn (T.item X rfl rfl rfl hc i pins s3 σ3 H3 X.xe I3 (stat fr3) st3 go) fun r s4 ⟨u, hr, h4⟩ => ?_)
  subst hr
  refine wpAny_passesOwn hp (thn h4 fun _ s5 ⟨x, H5, I5, r5, y5, st5, fr5⟩ => ?_)
  have I5' := I5.pinned (stat fr5) (T.obj _ _ st5)
  refine wpAny_passesOwn hp (thn (hg _ s5 σ3 H5 x u _ I5' r5 (step x H5 y5)) fun _ s6 ⟨σ6, H6, I6, q6⟩ => ?_)
  refine wpAny_passesOwn hp (thn (hb _ s6 σ6 H6 _ I6 q6) fun f s7 q7 => ?_)
  have again : ∀ {σ7 : St} {H7 : Hp}, Inv X (pins ++ pinsAt fp s5.heap) σ7 H7 s7 -> N σ7 H7 -> ∃ m, m < n /\ ∃ i σ' H', Inv X pins σ' H' s7 /\ tn i s7.heap /\ (∀ b ∈ fp, H' b = none) /\ W i m σ' H' := fun {σ7 H7} I7 n7 => by
   obtain ⟨m', hm, w7⟩ := hN σ7 H7 n7
   refine ⟨m', hm, i + 1, σ7, H7, I7.unpinned, T.keep _ _ _ st5 fun b hb o e => (I7.pin (b, o) (List.mem_append_right _ (List.mem_append_right _ (mem_pinsAt hb e)))).1, fun b hb => ?_, w7⟩
   obtain ⟨o, e, d⟩ := T.obj _ _ st5 b hb
   exact (I7.pin (b, o) (List.mem_append_right _ (List.mem_append_right _ (mem_pinsAt hb e)))).2.1
  cases f with
  | next => obtain ⟨σ7, H7, I7, n7⟩ := q7; exact again I7 n7
  | cont => obtain ⟨σ7, H7, I7, n7⟩ := q7; exact again I7 n7
  | brk => obtain ⟨σ7, H7, I7, q7⟩ := q7; exact ⟨σ7, H7, I7.unpinned, q7⟩
  | ret v => obtain ⟨x7, σ7, H7, I7, r7, q7⟩ := q7; exact ⟨x7, σ7, H7, I7.unpinned, r7, q7⟩
end
theorem for_range {lo : Int} {n : Nat} {g : TG} {tb : TS} {D : Ends} {σ : St} {H : Hp} (Pv : Nat -> St -> Hp -> Prop) (h0 : Pv 0 σ H)
  (hs : ∀ i σ H, i < n -> Pv i σ H -> g (.int (lo + i)) σ H fun σ2 H2 => tb { D with nx := Pv (i + 1), ct := Pv (i + 1), bk := D.nx } σ2 H2) (hd : ∀ σ H, Pv n σ H -> D.nx σ H) :
  ∃ W : Nat -> Nat -> St -> Hp -> Prop, (∃ m, W 0 m σ H) /\ ∀ i m σ H, W i m σ H ->
   ((Itr lo n).stop i H /\ D.nx σ H) \/ ((Itr lo n).go i H /\ ∃ N : St -> Hp -> Prop, (∀ σ' H', N σ' H' -> ∃ m', m' < m /\ W (i + 1) m' σ' H') /\ ∀ x H', (Itr lo n).yld i H x H' -> g x σ H' fun σ2 H2 => tb { D with nx := N, ct := N, bk := D.nx } σ2 H2) := by
 refine ⟨fun i m σ H => m = n - i /\ i <= n /\ Pv i σ H, ⟨n, by simp, Nat.zero_le _, h0⟩, ?_⟩
 rintro i m σ H ⟨rfl, hi, p⟩
 by_cases hlt : i < n
 ·refine .inr ⟨hlt, Pv (i + 1), fun σ' H' p' => ⟨n - (i + 1), by omega, rfl, hlt, p'⟩, fun x H' y => ?_⟩
  obtain ⟨e, y⟩ := y
  subst e y
  exact hs i σ _ hlt p
 ·have e : i = n := by omega
  subst e
  exact .inl ⟨Nat.le_refl _, hd σ H p⟩
end L2
namespace L2
open PySem PySem.Spec PyProof.Rows
abbrev R2 := V -> V -> Hp -> VK -> Prop
def OpR (X : Cx) (f : Value -> Value -> Sem Value) (r : R2) : Prop :=
 ∀ (pins : List (Addr × Obj)) (s : Shared) (σ : St) (H : Hp) (x y : V) (v u : Value) (Q : VK), Inv X pins σ H s -> RelV x v -> RelV y u -> r x y H Q ->
  wpAny (model X.prog X.w) X.A (f v u) (EP X pins σ Q) X.xe s
def UnR (X : Cx) (f : Value -> Sem Value) (r : V -> Hp -> VK -> Prop) : Prop :=
 ∀ (pins : List (Addr × Obj)) (s : Shared) (σ : St) (H : Hp) (x : V) (v : Value) (Q : VK), Inv X pins σ H s -> RelV x v -> r x H Q ->
  wpAny (model X.prog X.w) X.A (f v) (EP X pins σ Q) X.xe s
def CallR (X : Cx) (f : Value) (r : List V -> Hp -> VK -> Prop) : Prop :=
 ∀ (pins : List (Addr × Obj)) (s : Shared) (σ : St) (H : Hp) (xs : List V) (us : List Value) (Q : VK), Inv X pins σ H s -> Vals xs us -> r xs H Q ->
  wpAny (model X.prog X.w) X.A (call f us) (EP X pins σ Q) X.xe s
def tOp (r : R2) (ta tb : TE) : TE := fun σ H Q => ta σ H fun x H1 => tb σ H1 fun y H2 => r x y H2 Q
def tUn (r : V -> Hp -> VK -> Prop) (ta : TE) : TE := fun σ H Q => ta σ H fun x H1 => r x H1 Q
def rI (C : Int -> Int -> Prop) (g : Int -> Int -> V) : R2 := fun x y H Q => ∃ i j, x = .int i /\ y = .int j /\ C i j /\ Q (g i j) H
def rI0 (g : Int -> Int -> V) : R2 := fun x y H Q => ∃ i j, x = .int i /\ y = .int j /\ Q (g i j) H
def rU (g : Int -> V) : V -> Hp -> VK -> Prop := fun x H Q => ∃ i, x = .int i /\ Q (g i) H
section
variable {X : Cx} {a b c : Expr} {ta tb tc : TE} {pos : Pos}
theorem binT (ha : PE X a ta) (hb : PE X b tb) {pins : List (Addr × Obj)} {s : Shared} {σ : St} {H : Hp} {R : V -> V -> Hp -> Prop} (I : Inv X pins σ H s)
  (h : ta σ H fun x H1 => tb σ H1 fun y H2 => R x y H2) {Q : Value -> Shared -> Prop} {f : Value -> Value -> Sem Value}
  (hf : ∀ v u s2 x y H2, Inv X pins σ H2 s2 -> RelV x v -> RelV y u -> R x y H2 -> wpAny (model X.prog X.w) X.A (f v u) Q X.xe s2) :
  wpAny (model X.prog X.w) X.A (eval a X.env) (fun v s₁ => wpAny (model X.prog X.w) X.A (eval b X.env) (fun u s₂ => wpAny (model X.prog X.w) X.A (f v u) Q X.xe s₂) X.xe s₁) X.xe s := by
 refine thn (ha pins s σ H _ I h) fun v s1 ⟨x, H1, I1, r1, q1⟩ => ?_
 refine thn (hb pins s1 σ H1 _ I1 q1) fun u s2 ⟨y, H2, I2, r2, q2⟩ => ?_
 exact hf v u s2 x y H2 I2 r1 r2 q2
theorem pe_op {op : Operator} {r : R2} (ho : OpR X (binaryOp op) r) (ha : PE X a ta) (hb : PE X b tb) : PE X (.BinOp a op b pos) (tOp r ta tb) := by
 intro pins s σ H Q I h
 exact wpAny_BinOp (binT ha hb I h fun v u s2 x y H2 I2 rx ry q => ho pins s2 σ H2 x y v u Q I2 rx ry q)
theorem pe_un {op : UnaryOp} {r : V -> Hp -> VK -> Prop} (ho : UnR X (unaryOp op) r) (ha : PE X a ta) : PE X (.UnaryOp op a pos) (tUn r ta) := by
 intro pins s σ H Q I h
 exact UnaryOp_ (thn (ha pins s σ H _ I h) fun v s1 ⟨x, H1, I1, r1, q1⟩ => ho pins s1 σ H1 x v Q I1 r1 q1)
theorem opI {f : Value -> Value -> Sem Value} {C : Int -> Int -> Prop} {g : Int -> Int -> Int}
  (rule : ∀ (i j : Int) (t u : Tok) (s : Shared) (Q : Value -> Shared -> Prop) (E : Value -> Shared -> Prop), C i j -> Q (.int (g i j) s.toks) { s with toks := s.toks + 1 } -> wpAny (model X.prog X.w) X.A (f (.int i t) (.int j u)) Q E s) :
  OpR X f (rI C fun i j => .int (g i j)) := by
 intro pins s σ H x y v u Q I rx ry h
 obtain ⟨i, j, rfl, rfl, hc, q⟩ := h
 obtain ⟨t, rfl⟩ := rx
 obtain ⟨t', rfl⟩ := ry
 exact rule i j t t' s _ _ hc ⟨.int (g i j), H, I.tok _, ⟨_, rfl⟩, q⟩
theorem opI0 {f : Value -> Value -> Sem Value} {g : Int -> Int -> Int}
  (rule : ∀ (i j : Int) (t u : Tok) (s : Shared) (Q : Value -> Shared -> Prop) (E : Value -> Shared -> Prop), Q (.int (g i j) s.toks) { s with toks := s.toks + 1 } -> wpAny (model X.prog X.w) X.A (f (.int i t) (.int j u)) Q E s) :
  OpR X f (rI0 fun i j => .int (g i j)) := by
 intro pins s σ H x y v u Q I rx ry h
 obtain ⟨i, j, rfl, rfl, q⟩ := h
 obtain ⟨t, rfl⟩ := rx
 obtain ⟨t', rfl⟩ := ry
 exact rule i j t t' s _ _ ⟨.int (g i j), H, I.tok _, ⟨_, rfl⟩, q⟩
theorem opB0 {f : Value -> Value -> Sem Value} {g : Int -> Int -> Bool}
  (rule : ∀ (i j : Int) (t u : Tok) (s : Shared) (Q : Value -> Shared -> Prop) (E : Value -> Shared -> Prop), Q (.bool (g i j)) s -> wpAny (model X.prog X.w) X.A (f (.int i t) (.int j u)) Q E s) :
  OpR X f (rI0 fun i j => .bl (g i j)) := by
 intro pins s σ H x y v u Q I rx ry h
 obtain ⟨i, j, rfl, rfl, q⟩ := h
 obtain ⟨t, rfl⟩ := rx
 obtain ⟨t', rfl⟩ := ry
 exact rule i j t t' s _ _ ⟨.bl (g i j), H, I, rfl, q⟩
def CDiv (i j : Int) : Prop := 0 < j /\ j < 1073741824
def CPow (i j : Int) : Prop := 0 <= j /\ j <= 1000000 /\ i.natAbs < 2 ^ 64
def CMul (i j : Int) : Prop := (-(2 ^ 64) < i /\ i < 2 ^ 64) \/ (-(2 ^ 64) < j /\ j < 2 ^ 64)
theorem CMul.ok {i j : Int} (h : CMul i j) : IntMulOk i j := by
 rcases h with ⟨h1, h2⟩ | ⟨h1, h2⟩
 ·exact .of_left (intBits_le_64 h1 h2)
 ·exact .of_right (intBits_le_64 h1 h2)
theorem op_add : OpR X (binaryOp .Add) (rI0 fun i j => .int (i + j)) := opI0 fun _ _ _ _ _ _ _ q => add_int q
theorem op_sub : OpR X (binaryOp .Sub) (rI0 fun i j => .int (i - j)) := opI0 fun _ _ _ _ _ _ _ q => sub_int q
theorem op_mul : OpR X (binaryOp .Mult) (rI CMul fun i j => .int (i * j)) := opI fun _ _ _ _ _ _ _ hc q => mul_int q hc.ok
theorem op_fdiv : OpR X (binaryOp .FloorDiv) (rI CDiv fun i j => .int (i / j)) := opI fun i j _ _ _ _ _ hc q => by
 have h1 : (0 : Int) < j := hc.1
 have h2 : j < 1073741824 := hc.2
 exact floordiv_int (by omega) (by rw [Int.fdiv_eq_ediv_of_nonneg i (by omega)]; exact q) (.inl (PyProof.noPylong_small (by omega)))
theorem op_mod : OpR X (binaryOp .Mod) (rI (fun _ j => 0 < j) fun i j => .int (i % j)) := opI fun i j _ _ _ _ _ hc q => by
 have h1 : (0 : Int) < j := hc
 exact mod_int' (by omega) (by rw [Int.fmod_eq_emod_of_nonneg i (by omega)]; exact q)
theorem op_pow : OpR X (binaryOp .Pow) (rI CPow fun i j => .int (i ^ j.toNat)) := opI fun _ _ _ _ _ _ _ hc q => pow_int_small hc.1 hc.2.1 hc.2.2 q
theorem unI {f : Value -> Sem Value} {g : Int -> Int}
  (rule : ∀ (i : Int) (t : Tok) (s : Shared) (Q : Value -> Shared -> Prop) (E : Value -> Shared -> Prop), Q (.int (g i) s.toks) { s with toks := s.toks + 1 } -> wpAny (model X.prog X.w) X.A (f (.int i t)) Q E s) :
  UnR X f (rU fun i => .int (g i)) := by
 intro pins s σ H x v Q I rx h
 obtain ⟨i, rfl, q⟩ := h
 obtain ⟨t, rfl⟩ := rx
 exact rule i t s _ _ ⟨.int (g i), H, I.tok _, ⟨_, rfl⟩, q⟩
theorem un_neg : UnR X (unaryOp .USub) (rU fun i => .int (-i)) := unI fun _ _ _ _ _ q => neg_int q
end
def scal : V -> V -> Bool
 | .non, .non => true | .non, .int _ => true | .int _, .non => true | .non, .bl _ => true | .bl _, .non => true | .non, .str _ => true | .str _, .non => true
 | .int _, .int _ => true | .bl _, .bl _ => true | .str _, .str _ => true | .byt _, .byt _ => true
 | .int _, .str _ => true | .str _, .int _ => true | .bl _, .str _ => true | .str _, .bl _ => true
 | _, _ => false
def rEq : R2 := fun x y H Q => scal x y = true /\ Q (.bl (decide (x = y))) H
def rNe : R2 := fun x y H Q => scal x y = true /\ Q (.bl (!decide (x = y))) H
theorem dec_int {i j : Int} : decide (V.int i = V.int j) = (i == j) := by
 rw [Bool.eq_iff_iff]
 simp
theorem dec_bl {i j : Bool} : decide (V.bl i = V.bl j) = (i == j) := by
 rw [Bool.eq_iff_iff]
 simp
theorem dec_str {i j : Str} : decide (V.str i = V.str j) = (i == j) := by
 rw [Bool.eq_iff_iff]
 simp
theorem dec_byt {i j : Array UInt8} : decide (V.byt i = V.byt j) = (i.toList == j.toList) := by
 rw [Bool.eq_iff_iff]
 cases i
 cases j
 simp
section
variable {X : Cx} {a b c : Expr} {ta tb tc : TE} {pos : Pos}
theorem fin_bl {pins : List (Addr × Obj)} {σ : St} {H : Hp} {s : Shared} {Q : VK} {k k' : Bool} (I : Inv X pins σ H s) (q : Q (.bl k) H) (e : k = k') : EP X pins σ Q (.bool k') s := by
 subst e
 exact ⟨.bl k, H, I, rfl, q⟩
theorem op_eq : OpR X (compareOp .Eq) rEq := by
 intro pins s σ H x y v u Q I rx ry h
 obtain ⟨hs, q⟩ := h
 cases x with
 | non =>
  cases rx
  cases y with
  | non => cases ry; exact PySem.EqNone.eq_none_none (fin_bl I q (by simp))
  | bl j => cases ry; exact PySem.EqNone.eq_none_bool (fin_bl I q (by simp))
  | int j => obtain ⟨t', rfl⟩ := ry; exact PySem.EqNone.eq_none_int (fin_bl I q (by simp))
  | str j => obtain ⟨t', rfl⟩ := ry; exact PySem.EqNone.eq_none_str (fin_bl I q (by simp))
  | _ => exact absurd (show false = true from hs) Bool.false_ne_true
 | bl i =>
  cases rx
  cases y with
  | non => cases ry; exact PySem.EqNone.eq_bool_none (fin_bl I q (by simp))
  | bl j => cases ry; exact eq_bool (fin_bl I q dec_bl)
  | str j => obtain ⟨t', rfl⟩ := ry; exact PySem.EqMixed.eq_bool_str (fin_bl I q (by simp))
  | _ => exact absurd (show false = true from hs) Bool.false_ne_true
 | int i =>
  obtain ⟨t, rfl⟩ := rx
  cases y with
  | non => cases ry; exact PySem.EqNone.eq_int_none (fin_bl I q (by simp))
  | int j => obtain ⟨t', rfl⟩ := ry; exact eq_int (fin_bl I q dec_int)
  | str j => obtain ⟨t', rfl⟩ := ry; exact PySem.EqMixed.eq_int_str (fin_bl I q (by simp))
  | _ => exact absurd (show false = true from hs) Bool.false_ne_true
 | str i =>
  obtain ⟨t, rfl⟩ := rx
  cases y with
  | non => cases ry; exact PySem.EqNone.eq_str_none (fin_bl I q (by simp))
  | bl j => cases ry; exact PySem.EqMixed.eq_str_bool (fin_bl I q (by simp))
  | int j => obtain ⟨t', rfl⟩ := ry; exact PySem.EqMixed.eq_str_int (fin_bl I q (by simp))
  | str j => obtain ⟨t', rfl⟩ := ry; exact eq_str (fin_bl I q dec_str)
  | _ => exact absurd (show false = true from hs) Bool.false_ne_true
 | byt i =>
  obtain ⟨t, rfl⟩ := rx
  cases y with
  | byt j => obtain ⟨t', rfl⟩ := ry; exact PySem.W.eq_bytes (fin_bl I q dec_byt)
  | _ => exact absurd (show false = true from hs) Bool.false_ne_true
 | _ => cases y <;> exact absurd (show false = true from hs) Bool.false_ne_true
theorem op_ne : OpR X (compareOp .NotEq) rNe := by
 intro pins s σ H x y v u Q I rx ry h
 obtain ⟨hs, q⟩ := h
 cases x with
 | non =>
  cases rx
  cases y with
  | non => cases ry; exact PySem.EqNone.ne_none_none (fin_bl I q (by simp))
  | bl j => cases ry; exact PySem.EqNone.ne_none_bool (fin_bl I q (by simp))
  | int j => obtain ⟨t', rfl⟩ := ry; exact PySem.EqNone.ne_none_int (fin_bl I q (by simp))
  | str j => obtain ⟨t', rfl⟩ := ry; exact PySem.EqNone.ne_none_str (fin_bl I q (by simp))
  | _ => exact absurd (show false = true from hs) Bool.false_ne_true
 | bl i =>
  cases rx
  cases y with
  | non => cases ry; exact PySem.EqNone.ne_bool_none (fin_bl I q (by simp))
  | bl j => cases ry; exact ne_bool (fin_bl I q (congrArg not dec_bl))
  | str j => obtain ⟨t', rfl⟩ := ry; exact PySem.EqMixed.ne_bool_str (fin_bl I q (by simp))
  | _ => exact absurd (show false = true from hs) Bool.false_ne_true
 | int i =>
  obtain ⟨t, rfl⟩ := rx
  cases y with
  | non => cases ry; exact PySem.EqNone.ne_int_none (fin_bl I q (by simp))
  | int j => obtain ⟨t', rfl⟩ := ry; exact ne_int (fin_bl I q (congrArg not dec_int))
  | str j => obtain ⟨t', rfl⟩ := ry; exact PySem.EqMixed.ne_int_str (fin_bl I q (by simp))
  | _ => exact absurd (show false = true from hs) Bool.false_ne_true
 | str i =>
  obtain ⟨t, rfl⟩ := rx
  cases y with
  | non => cases ry; exact PySem.EqNone.ne_str_none (fin_bl I q (by simp))
  | bl j => cases ry; exact PySem.EqMixed.ne_str_bool (fin_bl I q (by simp))
  | int j => obtain ⟨t', rfl⟩ := ry; exact PySem.EqMixed.ne_str_int (fin_bl I q (by simp))
  | str j => obtain ⟨t', rfl⟩ := ry; exact ne_str (fin_bl I q (congrArg not dec_str))
  | _ => exact absurd (show false = true from hs) Bool.false_ne_true
 | byt i =>
  obtain ⟨t, rfl⟩ := rx
  cases y with
  | byt j => obtain ⟨t', rfl⟩ := ry; exact PySem.W.ne_bytes (fin_bl I q (congrArg not dec_byt))
  | _ => exact absurd (show false = true from hs) Bool.false_ne_true
 | _ => cases y <;> exact absurd (show false = true from hs) Bool.false_ne_true
theorem op_lt : OpR X (compareOp .Lt) (rI0 fun i j => .bl (decide (i < j))) := opB0 fun _ _ _ _ _ _ _ q => lt_int q
theorem op_gt : OpR X (compareOp .Gt) (rI0 fun i j => .bl (decide (j < i))) := opB0 fun _ _ _ _ _ _ _ q => gt_int q
theorem op_ge : OpR X (compareOp .GtE) (rI0 fun i j => .bl (decide (j <= i))) := opB0 fun _ _ _ _ _ _ _ q => ge_int q
theorem nomark (b : Expr) {op : CmpOp} (h : op ≠ .In := by decide) (h2 : op ≠ .NotIn := by decide) : behindInMarks op b = false := by
 have e1 : (op == CmpOp.In) = false := by cases op <;> first | rfl | exact absurd rfl h
 have e2 : (op == CmpOp.NotIn) = false := by cases op <;> first | rfl | exact absurd rfl h2
 cases b <;> simp [behindInMarks, e1, e2]
theorem pe_cmpR {op : CmpOp} {r : R2} (ho : OpR X (compareOp op) r) (ha : PE X a ta) (hb : PE X b tb) (hm : behindInMarks op b = false) : PE X (.Compare a [op] [b] pos) (tOp r ta tb) := by
 intro pins s σ H Q I h
 exact wpAny_Compare1 (binT ha hb I h fun v u s2 x y H2 I2 rx ry q => ho pins s2 σ H2 x y v u Q I2 rx ry q) hm
def tTest (t : TE) : TT := fun σ H Q => t σ H fun x H' => ∃ k, x = .bl k /\ Q k H'
theorem pt_cmpR {op : CmpOp} {r : R2} (ho : OpR X (compareOp op) r) (ha : PE X a ta) (hb : PE X b tb) (hm : behindInMarks op b = false) : PT X (.Compare a [op] [b] pos) (tTest (tOp r ta tb)) := by
 intro pins s σ H Q I h
 refine wpAny_isTrue_Compare1 (thn (ha pins s σ H _ I h) fun v s1 ⟨x, H1, I1, r1, q1⟩ => thn (hb pins s1 σ H1 _ I1 q1) fun u s2 ⟨y, H2, I2, r2, q2⟩ =>
  thn (ho pins s2 σ H2 x y v u _ I2 r1 r2 q2) fun c s3 ⟨z, H3, I3, r3, k, e, q3⟩ => ?_) hm
 subst e
 cases r3
 exact wpAny_truthy_bool ⟨H3, I3, q3⟩
theorem line63 : (sizeLine : Nat) < 2 ^ 63 := by rw [sizeLine_eq]; decide
theorem vals1 {x : V} {us : List Value} (r : Vals [x] us) : ∃ u, us = [u] /\ RelV x u := by
 cases r with
 | cons r1 r2 => cases r2; exact ⟨_, rfl, r1⟩
theorem vals2 {x y : V} {us : List Value} (r : Vals [x, y] us) : ∃ u w', us = [u, w'] /\ RelV x u /\ RelV y w' := by
 cases r with
 | cons r1 r2 =>
  cases r2 with
  | cons r3 r4 => cases r4; exact ⟨_, _, rfl, r1, r3⟩
theorem call_max2 (hc : X.calm = true) : CallR X (.builtin "max") (fun xs H Q => ∃ i j, xs = [.int i, .int j] /\ Q (.int (if j > i then j else i)) H) := by
 intro pins s σ H xs us Q I r h
 obtain ⟨i, j, rfl, q⟩ := h
 obtain ⟨u, w', rfl, ⟨t, rfl⟩, ⟨t', rfl⟩⟩ := vals2 r
 refine max_two_ints (I.ok.hd hc) fun h' tk k => ⟨_, H, I.kept k, ?_, q⟩
 by_cases hj : j > i
 ·rw [if_pos hj, if_pos hj]; exact ⟨_, rfl⟩
 ·rw [if_neg hj, if_neg hj]; exact ⟨_, rfl⟩
theorem call_min2 (hc : X.calm = true) : CallR X (.builtin "min") (fun xs H Q => ∃ i j, xs = [.int i, .int j] /\ Q (.int (if j < i then j else i)) H) := by
 intro pins s σ H xs us Q I r h
 obtain ⟨i, j, rfl, q⟩ := h
 obtain ⟨u, w', rfl, ⟨t, rfl⟩, ⟨t', rfl⟩⟩ := vals2 r
 refine min_two_ints (I.ok.hd hc) fun h' tk k => ⟨_, H, I.kept k, ?_, q⟩
 by_cases hj : j < i
 ·rw [if_pos hj, if_pos hj]; exact ⟨_, rfl⟩
 ·rw [if_neg hj, if_neg hj]; exact ⟨_, rfl⟩
end
end L2
namespace L2
open PySem PySem.Spec PyProof.Rows
structure ObjM (h : Heap) (x dx C : Addr) (mA : Str -> Option Value) : Prop where
 obj : h.get? x = some (PySem.W.instObj C dx)
 ns : h.Ns1 dx mA
 ne : dx ≠ x
theorem lookIn_ns {h : Heap} {dx : Addr} {mA : Str -> Option Value} (n : h.Ns1 dx mA) : ∃ od, h.get? dx = some od /\ ∀ name, PySem.W.lookIn name od = some (mA name) := by
 obtain ⟨o, es, ep, ho, hd, hk, _, hm⟩ := n
 refine ⟨o, ho, fun name => ?_⟩
 have e := hm name
 unfold nsFind findBy at e
 rw [<- Array.find?_toList] at e
 unfold PySem.W.lookIn
 rw [hd]
 dsimp only
 split
 ·rename_i y q
  rw [q] at e
  exact congrArg some e
 ·rename_i q
  rw [q] at e
  have a : es.toList.any (·.refKey) = false := by
   rw [List.any_eq_false]
   intro y hy
   obtain ⟨z, t, hkey⟩ := hk y (Array.mem_toList_iff.mp hy)
   simp [DictEntry.refKey, hkey]
  have a' : ¬ es.toList.any (·.refKey) = true := by rw [a]; exact Bool.false_ne_true
  rw [if_neg a']
  exact congrArg some e
theorem ObjM.look {h : Heap} {x dx C : Addr} {mA : Str -> Option Value} (I : ObjM h x dx C mA) : ∃ od, PySem.W.InstAt h x (PySem.W.instObj C dx) C (some od) /\ ∀ name, PySem.W.lookIn name od = some (mA name) :=
 let ⟨od, ho, hl⟩ := lookIn_ns I.ns
 ⟨od, ⟨I.obj, rfl, rfl, ho⟩, hl⟩
section
variable {prog : Program} {w : World} {A : Around} {E : Value -> Shared -> Prop} {s : Shared} {K : PySem.W.Frag} {x dx C f : Addr} {mA : Str -> Option Value} {name : Str} {v : Value}
end
theorem handed_of {v : V} {u : Value} (r : RelV v u) : PySem.W.handedIn u = true := by
 cases v with
 | non => cases (show u = Value.none from r); rfl
 | bl b => cases (show u = Value.bool b from r); rfl
 | int i => obtain ⟨t, e⟩ := (show ∃ t, u = Value.int i t from r); cases e; rfl
 | str x => obtain ⟨t, e⟩ := (show ∃ t, u = Value.str x t from r); cases e; rfl
 | byt b => obtain ⟨t, e⟩ := (show ∃ t, u = Value.bytes b t from r); cases e; rfl
 | flt b => obtain ⟨t, e⟩ := (show ∃ t, u = Value.float b t from r); cases e; rfl
 | ref a => cases (show u = Value.ref a from r); rfl
 | ty n => cases (show u = Value.type n from r); rfl
section
variable {P : Program} {w : World} {H H' : Hp} {h h' : Heap} {a C dx : Addr} {fs fs' : List (Str × V)}
theorem ins_get (hok : HOk P w H h) (e : H a = some (.ins C dx fs)) : ∃ mA, ObjM h a dx C mA /\ (∀ f, RelO (fs.lookup f) (mA f)) /\ PySem.Within mA (fs.map (·.1)) /\ fs.length <= 1000 /\ H dx = some (.own a) := by
 obtain ⟨d, z, ne, ob, mA, n, r, q⟩ := (show ObjOk P w H h a (.ins C dx fs) from hok a _ e)
 exact ⟨mA, ⟨ob, n, ne⟩, r, q, z, d⟩
end
structure Cls (K : PySem.W.Frag) (C : Addr) : Prop where
 pg : PySem.W.plainGet K C Str.empty = true
 hd : PySem.W.hasDictIn K C = true
 po : PySem.W.plainOver K C = true
 sa : PySem.W.findIn K (.ref C) "__setattr__" = some (some (.builtin "object.__setattr__"))
theorem Cls.get {K : PySem.W.Frag} {C : Addr} (c : Cls K C) (f : Str) : PySem.W.plainGet K C f = true := c.pg
structure Con (K : PySem.W.Frag) (C : Addr) (f : Str) (v : V) (u : Value) : Prop where
 at_ : PySem.W.findIn K (.ref C) f = some (some u)
 rel : RelV v u
 get : PySem.W.specialIn K u "__get__" = some none
 cp : PySem.W.copiedNames.contains f = false
structure Meth (K : PySem.W.Frag) (C : Addr) (m : Str) (f : Addr) : Prop where
 at_ : PySem.W.findIn K (.ref C) m = some (some (.ref f))
 fn : PySem.W.isFn K (.ref f) = true
 kp : PySem.W.keepIn K (.ref f) = true
section
variable {X : Cx} {pins : List (Addr × Obj)} {σ : St} {H : Hp} {s : Shared} {a C dx : Addr} {fs : List (Str × V)} {f : Str} {v : V} {A : Around} {E : Value -> Shared -> Prop}
theorem attr_of {prog : Program} {w : World} {env : Env} {e : Expr} {f : Str} {pos : Pos} {s : Shared} {Q : Value -> Shared -> Prop} (hb : attributeBase e f env (eval e env) = eval e env)
  (h : wpAny (model prog w) A (eval e env) (fun o s₁ => wpAny (model prog w) A (getAttr o f true) Q E s₁) E s) : wpAny (model prog w) A (eval (.Attribute e f pos) env) Q E s :=
 Attribute_any_ h (by rw [arm_eval_Attribute, hb])
end
section
variable {X : Cx} {o e value : Expr} {f : Str} {pos pos' tpos : Pos} {ta tv : TE}
end
section
variable {X : Cx} {pins : List (Addr × Obj)} {σ : St} {H : Hp} {s : Shared} {A : Around} {E : Value -> Shared -> Prop} {Q : Value -> Shared -> Prop} {c : Value} {b : Bool}
inductive TyOf (K : PySem.W.Frag) (H : Hp) : V -> Value -> Prop where
 | non : TyOf K H .non (.type "NoneType")
 | bl (x : Bool) : TyOf K H (.bl x) (.type "bool")
 | int (i : Int) : TyOf K H (.int i) (.type "int")
 | str (x : Str) : TyOf K H (.str x) (.type "str")
 | flt (x : UInt64) : TyOf K H (.flt x) (.type "float")
 | lst {a : Addr} {xs : List V} (e : H a = some (.lst xs)) : TyOf K H (.ref a) (.type "list")
 | frz {a : Addr} {o : Obj} {xs : List V} (e : H a = some (.frz o (.lst xs))) : TyOf K H (.ref a) (.type "list")
 | tup {a : Addr} {xs : List V} (e : H a = some (.tup xs)) : TyOf K H (.ref a) (.type "tuple")
 | dK {a : Addr} {kvs : List (Key × V)} (e : H a = some (.dK kvs)) : TyOf K H (.ref a) (.type "dict")
 | dT {a : Addr} {kvs : List (List Key × V)} (e : H a = some (.dT kvs)) : TyOf K H (.ref a) (.type "dict")
 | ins {a C dx : Addr} {fs : List (Str × V)} (e : H a = some (.ins C dx fs)) (cl : Cls K C) (ha : PySem.W.findIn K (.ref C) "__class__" = some (some (.builtin "object.__class__")))
   (hn : PySem.W.specialIn K (.builtin "object.__class__") "__get__" = some (some (.builtin "getset_descriptor.__get__"))) (htk : PySem.W.takesIn K (.builtin "object.__class__") = some true)
   (hm : PySem.W.mroIn K C (.type "object") = some true) : TyOf K H (.ref a) (.ref C)
theorem isinst_ok {x : V} {u t : Value} (I : Inv X pins σ H s) (rx : RelV x u) (ty : TyOf X.K H x t) (e : PySem.W.kitOne X.K t c = some b) (h : ∀ tk, Q (.bool b) { s with toks := tk }) :
  wpAny (model X.prog X.w) A (call (.builtin "isinstance") [u, c]) Q E s := by
 cases ty with
 | non => cases (show u = Value.none from rx); exact PySem.W.kia_one PySem.W.kitx_none I.kIn True.intro e (fun z => nomatch z) h
 | bl y => cases (show u = Value.bool y from rx); exact PySem.W.kia_one PySem.W.kitx_bool I.kIn True.intro e (fun z => nomatch z) h
 | int i => obtain ⟨t, q⟩ := (show ∃ t, u = Value.int i t from rx); cases q; exact PySem.W.kia_one PySem.W.kitx_int I.kIn True.intro e (fun z => nomatch z) h
 | str y => obtain ⟨t, q⟩ := (show ∃ t, u = Value.str y t from rx); cases q; exact PySem.W.kia_one PySem.W.kitx_str I.kIn True.intro e (fun z => nomatch z) h
 | flt y => obtain ⟨t, q⟩ := (show ∃ t, u = Value.float y t from rx); cases q; exact PySem.W.kia_one PySem.W.kitx_float I.kIn True.intro e (fun z => nomatch z) h
 | @lst a xs ea =>
  cases (show u = Value.ref a from rx)
  obtain ⟨_, _, n, _, h1⟩ := (show ObjOk X.prog X.w H s.heap a (.lst xs) from I.hok a _ ea)
  exact PySem.W.kia_one PySem.W.kitx_list I.kIn ⟨_, h1, rfl⟩ e (fun z => nomatch z) h
 | @frz a ob xs ea =>
  cases (show u = Value.ref a from rx)
  obtain ⟨_, _, _, n, _, h1⟩ := (show ObjOk X.prog X.w H s.heap a (.frz ob (.lst xs)) from I.hok a _ ea)
  exact PySem.W.kia_one PySem.W.kitx_list I.kIn ⟨_, h1, rfl⟩ e (fun z => nomatch z) h
 | @tup a xs ea =>
  cases (show u = Value.ref a from rx)
  obtain ⟨_, _, _, p⟩ := (show ObjOk X.prog X.w H s.heap a (.tup xs) from I.hok a _ ea)
  obtain ⟨o, h1, h2, _⟩ := p
  exact PySem.W.kia_one PySem.W.kitx_tuple I.kIn ⟨o, h1, h2⟩ e (fun z => nomatch z) h
 | @dK a kvs ea =>
  cases (show u = Value.ref a from rx)
  obtain ⟨_, _, vs, _, p⟩ := (show ObjOk X.prog X.w H s.heap a (.dK kvs) from I.hok a _ ea)
  obtain ⟨o, es, ep, h1, h2, _⟩ := p
  exact PySem.W.kia_one PySem.W.kitx_dict I.kIn ⟨o, h1, h2.1⟩ e (fun z => nomatch z) h
 | @dT a kvs ea =>
  cases (show u = Value.ref a from rx)
  obtain ⟨_, _, xs, _, o, es, ep, h1, h2, _⟩ := (show ObjOk X.prog X.w H s.heap a (.dT kvs) from I.hok a _ ea)
  exact PySem.W.kia_one PySem.W.kitx_dict I.kIn ⟨o, h1, h2.1⟩ e (fun z => nomatch z) h
 | @ins a C dx fs ea cl ha hn htk hm =>
  cases (show u = Value.ref a from rx)
  obtain ⟨mA, O, _⟩ := ins_get I.hok ea
  obtain ⟨od, J, _⟩ := O.look
  exact PySem.W.kia_one (PySem.W.kitx_own (cl.get _) cl.hd ha hn htk hm) I.kIn J e (fun z => nomatch z) h
end
end L2
namespace L2
open PySem PySem.Spec PyProof.Rows
structure Room (k : Nat) (A : Around) : Prop where
 hd : A.handled = none
 dp : A.depth + 3 * k + 5 < recursionLimit
 un : A.units + 16 * k + 200 < cLine
 gd : A.guards = some []
theorem Room.mono {j k : Nat} {A : Around} (r : Room k A) (h : j <= k) : Room j A := ⟨r.hd, by have := r.dp; omega, by have := r.un; omega, r.gd⟩
theorem Room.deeper {k : Nat} {A : Around} (r : Room (k + 1) A) (env : Env) : Room k (A.deeper env) :=
 ⟨r.hd, by have := r.dp; show A.depth + 1 + 3 * k + 5 < _; omega, by have := r.un; show A.units + 3 + 16 * k + 200 < _; omega, r.gd⟩
theorem make_depth {A : Around} {C : Addr} {us : List Value} {kw : List (Str × Value)} : (A.under (.builtin "type.__call__" ⟨.ref C :: us, kw⟩)).depth = A.depth + 1 := by
 first | rfl | simp [Around.under, Code.weight, Code.isCreation, Code.isGuard, Code.isCaller, Code.frames, Code.isFrame, guardIds]
theorem make_units {A : Around} {C : Addr} {us : List Value} {kw : List (Str × Value)} : (A.under (.builtin "type.__call__" ⟨.ref C :: us, kw⟩)).units = A.units + 1 := by
 first | rfl | simp [Around.under, Code.cUnits, Code.frames, Code.isFrame]
theorem make_guards {A : Around} {C : Addr} {us : List Value} {kw : List (Str × Value)} : (A.under (.builtin "type.__call__" ⟨.ref C :: us, kw⟩)).guards = A.guards := by
 first | rfl | simp [Around.under, Code.guards, Code.isGuard, guardIds, pushGuards]
theorem Room.make {k : Nat} {A : Around} (r : Room (k + 1) A) (C : Addr) (us : List Value) (kw : List (Str × Value)) : Room k (A.under (.builtin "type.__call__" ⟨.ref C :: us, kw⟩)) :=
 ⟨r.hd, by have := r.dp; rw [make_depth]; omega, by have := r.un; rw [make_units]; omega, make_guards.trans r.gd⟩
theorem Room.depth {k : Nat} {A : Around} (r : Room k A) : A.depth < recursionLimit := by have := r.dp; omega
def tNil : TA := fun _ H Q => Q [] H
def tCons (ta : TE) (tr : TA) : TA := fun σ H Q => ta σ H fun x H1 => tr σ H1 fun xs H2 => Q (x :: xs) H2
section
variable {X : Cx} {e : Expr} {es : List Expr} {te : TE} {t : TA} {pos : Pos}
theorem pa_nil : PA X [] tNil := fun _ _ _ _ H Q I h => Calls.spliced_nil ⟨[], H, I, .nil, h⟩
theorem pa_cons (ha : PE X e te) (hr : PA X es t) (hs : starEach (e :: es) X.env = (false, eval e X.env) :: starEach es X.env := by rfl) : PA X (e :: es) (tCons te t) := by
 intro pos pins s σ H Q I h
 rw [hs]
 show wpAny _ _ (spliced ((false, eval e X.env) :: backTo pos (starEach es X.env))) _ _ s
 refine Calls.spliced_cons (thn (ha pins s σ H _ I h) fun u s1 ⟨x, H1, I1, r1, q1⟩ => ?_)
 exact thn (hr pos pins s1 σ H1 _ I1 q1) fun us s2 ⟨xs, H2, I2, r2, q2⟩ => ⟨x :: xs, H2, I2, .cons r1 r2, q2⟩
def tTup (t : TA) : TE := fun σ H Q => t σ H fun xs H1 => xs.length <= sizeLine /\ ∀ p, H1 p = none -> Q (.ref p) (upd H1 p (.tup xs))
def tLst (t : TA) : TE := fun σ H Q => t σ H fun xs H1 => xs.length <= sizeLine /\ ∀ p, H1 p = none -> Q (.ref p) (upd H1 p (.lst xs))
theorem pe_tup {x1} (h : PA X es t) : PE X (.Tuple es x1 pos) (tTup t) := by
 intro pins s σ H Q I hq
 refine wpAny_Tuple_spliced (thn (h pos pins s σ H _ I hq) fun us s1 ⟨xs, H1, I1, r, z, q⟩ => ⟨by rw [<- r.length]; exact z, ?_⟩)
 have hf : H1 s1.heap.objs.size = none := I1.hok.fresh (Nat.le_refl _)
 refine ⟨.ref s1.heap.objs.size, upd H1 s1.heap.objs.size (.tup xs), I1.laid (t' := s1.toks) (fun b u e => Heap.get?_push_of_some _ e) (Nat.le_refl _) ?_, rfl, q _ hf⟩
 exact ⟨z, us, r, ⟨_, Heap.get?_push_size _ rfl, rfl, _, rfl⟩⟩
theorem pe_lst (h : PA X es t) : PE X (.List es pos) (tLst t) := by
 intro pins s σ H Q I hq
 refine wpAny_List_spliced (thn (h pos pins s σ H _ I hq) fun us s1 ⟨xs, H1, I1, r, z, q⟩ => ⟨by rw [<- r.length]; exact z, ?_⟩)
 have hf : H1 s1.heap.objs.size = none := I1.hok.fresh (Nat.le_refl _)
 refine ⟨.ref s1.heap.objs.size, upd H1 s1.heap.objs.size (.lst xs), I1.laid (t' := s1.toks) (fun b u e => Heap.get?_push_of_some _ e) (Nat.le_refl _) ?_, rfl, q _ hf⟩
 exact ⟨z, us, 0, r, Heap.get?_push_size _ rfl⟩
end
abbrev Sp := List V -> Hp -> VK -> XK -> Prop
abbrev CXT := List Env -> Hp -> Shared -> XK -> Value -> Shared -> Prop
structure Env0 (P : Program) (w : World) (K : PySem.W.Frag) (mg : Str -> Option Value) (base : Heap) (A : Around) (outer : List Env) (s : Shared) (H : Hp) : Prop where
 frames : A.frames = some outer
 mod : Mod K mg base
 bs : ∀ b o, base.get? b = some o -> s.heap.get? b = some o /\ H b = none
 bsz : base.objs.size <= s.heap.objs.size
 funs : s.heap.FunFrames base outer
 frf : ∀ b ∈ frs outer, H b = none
 hok : HOk P w H s.heap
 bare : AllBare s.gens
def CE (outer : List Env) (P : Program) (w : World) (H : Hp) (s : Shared) (Q : VK) (u : Value) (s' : Shared) : Prop :=
 ∃ v H', s'.os = s.os /\ AllBare s'.gens /\ Un (frs outer) [] H H' s.heap s'.heap /\ HOk P w H' s'.heap /\ RelV v u /\ Q v H'
def CR (CX : CXT) (outer : List Env) (P : Program) (w : World) (H : Hp) (s : Shared) (Q : VK) (E : XK) (r : Result) (s' : Shared) : Prop :=
 match r with
 | .ok (.ret u) => CE outer P w H s Q u s'
 | .ok _ => False
 | .error e => CX outer H s E e s'
structure FnOk (P : Program) (w : World) (K : PySem.W.Frag) (mg : Str -> Option Value) (base : Heap) (CX : CXT) (k : Nat) (f : Addr) (fd : FuncData) (ps : List Str) (sp : Sp) : Prop where
 len : ∀ vs H Q E, sp vs H Q E -> vs.length = ps.length
 run : ∀ (A : Around) (outer : List Env) (s : Shared) (H : Hp) (args : Args) (us : List Value) (vs : List V) (Q : VK) (E : XK), Room k A -> Env0 P w K mg base A outer s H -> BindsTo s fd args (ps.zip us) -> Vals vs us -> sp vs H Q E ->
  codeAny (model P w) A (.call (.ref f) args) (CR CX outer P w H s Q E) s
theorem Env0.make {P : Program} {w : World} {K : PySem.W.Frag} {mg : Str -> Option Value} {base : Heap} {A : Around} {outer : List Env} {s : Shared} {H : Hp} (e : Env0 P w K mg base A outer s H) (C : Addr) (us : List Value) (kw : List (Str × Value)) :
  Env0 P w K mg base (A.under (.builtin "type.__call__" ⟨.ref C :: us, kw⟩)) outer s H := ⟨by first | exact e.frames | (simpa [Around.under, Code.envs, Code.isFrame, pushEnvs] using e.frames), e.mod, e.bs, e.bsz, e.funs, e.frf, e.hok, e.bare⟩
section
variable {X : Cx} {pins : List (Addr × Obj)} {σ : St} {H : Hp} {s s' : Shared}
theorem Inv.env0 (I : Inv X pins σ H s) : Env0 X.prog X.w X.K X.mg X.base X.A X.stack s H :=
 ⟨I.ok.frames, I.ok.mod, I.bs, Nat.le_trans I.ok.bsz I.sz, I.stack, I.stkFree, I.hok, I.bare⟩
theorem Inv.after {Q : VK} {u : Value} (I : Inv X pins σ H s) (h : CE X.stack X.prog X.w H s Q u s') : EP X pins σ Q u s' := by
 obtain ⟨v, H', os, bare, un, hok, r, q⟩ := h
 obtain ⟨hh, g, d, t, os'⟩ := s'
 obtain rfl : os' = s.os := os
 exact ⟨v, H', I.call (h' := hh) (g' := g) (d' := d) (t' := t) (ch := []) un hok bare (fun b z => absurd z (by simp)), r, q⟩
end
def tCall (sp : Sp) (dvs : List V) (E : XK) (t : TA) : TE := fun σ H Q => t σ H fun vs H1 => sp (vs ++ dvs) H1 Q E
def Binds (K : PySem.W.Frag) (fd : FuncData) (ps : List Str) (ds : List Value) : Prop :=
 ∀ (s : Shared) (us : List Value), K.In s.heap -> (us ++ ds).length = ps.length -> BindsTo s fd ⟨us, []⟩ (ps.zip (us ++ ds))
theorem Binds.all {K : PySem.W.Frag} {fd : FuncData} {ps : List Str} (h : ∀ us : List Value, us.length = ps.length -> bindArgs fd ⟨us, []⟩ = pure (ps.zip us)) : Binds K fd ps [] := fun s us _ hl => by
 rw [List.append_nil] at hl ⊢
 exact .of_eq (h us hl)
def Passes (CX : CXT) (X : Cx) (E : XK) : Prop := ∀ (pins : List (Addr × Obj)) (σ : St) (H : Hp) (s : Shared) (e : Value) (s' : Shared), Inv X pins σ H s -> CX X.stack H s E e s' -> X.xe e s'
section
variable {X : Cx} {CX : CXT} {k : Nat} {f C : Addr} {fd : FuncData} {ps : List Str} {sp : Sp} {dvs : List V} {ds : List Value} {E : XK} {x m : Str} {p pos apos : Pos} {e o : Expr} {es : List Expr} {ta : TE} {t : TA}
theorem run_fn {pins : List (Addr × Obj)} {σ : St} {H : Hp} {s : Shared} {Q : VK} {us : List Value} {vs : List V} (F : FnOk X.prog X.w X.K X.mg X.base CX k f fd ps sp) (hr : Room k X.A) (hb : Binds X.K fd ps ds) (hd : Vals dvs ds) (hx : Passes CX X E)
  (I : Inv X pins σ H s) (r : Vals vs us) (h : sp (vs ++ dvs) H Q E) : wpAny (model X.prog X.w) X.A (call (.ref f) us) (EP X pins σ Q) X.xe s := by
 have r2 : Vals (vs ++ dvs) (us ++ ds) := r.append hd
 have hl : (us ++ ds).length = ps.length := by rw [<- r2.length]; exact F.len _ _ _ _ h
 refine wpAny_call (codeAny_mono (F.run X.A X.stack s H ⟨us, []⟩ (us ++ ds) (vs ++ dvs) Q E hr I.env0 (hb s us I.kIn hl) r2 h) fun r s' hq => ?_)
 cases r with
 | error e => exact hx pins σ H s e s' I hq
 | ok fl =>
  cases fl with
  | ret u => exact I.after hq
  | next => exact False.elim hq
  | brk => exact False.elim hq
  | cont => exact False.elim hq
theorem pe_call (F : FnOk X.prog X.w X.K X.mg X.base CX k f fd ps sp) (hr : Room k X.A) (hg : Gl X x) (hm : X.mg x = some (.ref f)) (hk : PySem.W.keepIn X.K (.ref f) = true) (hb : Binds X.K fd ps ds) (hd : Vals dvs ds) (hx : Passes CX X E)
  (ha : PA X (e :: es) t) (hdb : (x == ("__debug__" : Str)) = false := by decide) (he : starEach (e :: es) X.env = (false, eval e X.env) :: starEach es X.env := by rfl) (hpl : (backTo pos (starEach es X.env)).any (·.1) = false := by rfl) :
  PE X (.Call (.Name x p) (e :: es) [] pos) (tCall sp dvs E t) := by
 intro pins s σ H Q I h
 refine wpAny_Call_Name_kw (ld_glob I hg hm ?_ hdb)
 refine PySem.W.callWith_K (h₀ := X.base) I.ok.mod.kin hk (thn (ha pos pins s σ H _ I h) fun us s1 ⟨vs, H1, I1, r, q⟩ => ⟨I1.kIn, ?_⟩) he hpl
 exact run_fn F hr hb hd hx I1 r q
structure Mk (K : PySem.W.Frag) (C f : Addr) : Prop where
 makes : PySem.W.makesIn K C = true
 init : PySem.W.findIn K (.ref C) "__init__" = some (some (.ref f))
 fn : PySem.W.isFn K (.ref f) = true
 kp : PySem.W.keepIn K (.ref C) = true
end
section
variable {X : Cx} {CX : CXT} {k : Nat} {f C : Addr} {fd : FuncData} {ps ks : List Str} {sp : Sp} {E : XK} {x m : Str} {p pos apos kpos : Pos} {e o : Expr} {es : List Expr} {kws : List Keyword} {te ta : TE} {t tk : TA} {nm : Option Str}
structure KBinds (K : PySem.W.Frag) (fd : FuncData) (ps ks : List Str) (g : List Value -> List Value -> List Value) (gV : List V -> List V -> List V) : Prop where
 to : ∀ (s : Shared) (us ws : List Value), K.In s.heap -> (g us ws).length = ps.length -> BindsTo s fd ⟨us, ks.zip ws⟩ (ps.zip (g us ws))
 rel : ∀ {vs : List V} {us : List Value} {zs : List V} {ws : List Value}, Vals vs us -> Vals zs ws -> Vals (gV vs zs) (g us ws)
variable {g : List Value -> List Value -> List Value} {gV : List V -> List V -> List V}
end
structure FnScope (N P : List Str) (sc : Scope) : Prop where
 kind : sc.kind = .function
 co : sc.isCoroutine = false
 gen : sc.isGenerator = false
 nd : N.Nodup
 pre : N.take P.length = P
 par : ∀ x ∈ P, sc.names.lookup x = some .local \/ sc.names.lookup x = some .cell
 nofree : ∀ y ∈ sc.names, y.2 ≠ .free
theorem bindL_out {kindOf : Str -> Option NameKind} {x : Str} : ∀ {binds : List (Str × Value)} {m : Str -> Option Value}, (∀ v, (x, v) ∉ binds) -> bindL kindOf binds m x = m x
 | [], _, _ => rfl
 | (n, v) :: r, m, h => by
  unfold bindL
  rw [bindL_out fun w hw => h w (List.mem_cons_of_mem _ hw)]
  split
  ·have : x ≠ n := by rintro rfl; exact h v List.mem_cons_self
   simp [this]
  ·rfl
theorem bindC_out {kindOf : Str -> Option NameKind} {x : Str} : ∀ {binds : List (Str × Value)} {m : Str -> Option Value}, (∀ v, (x, v) ∉ binds) -> bindC kindOf binds m x = m x
 | [], _, _ => rfl
 | (n, v) :: r, m, h => by
  unfold bindC
  rw [bindC_out fun w hw => h w (List.mem_cons_of_mem _ hw)]
  split
  ·rfl
  ·have : x ≠ n := by rintro rfl; exact h v List.mem_cons_self
   simp [this]
theorem bindL_get {kindOf : Str -> Option NameKind} {x : Str} {v : Value} : ∀ {P : List Str} {vs : List Value} {i : Nat} {m : Str -> Option Value}, P.Nodup -> P[i]? = some x -> vs[i]? = some v -> kindOf x = some .local ->
  bindL kindOf (P.zip vs) m x = some v
 | [], _, _, _, _, h, _, _ => by simp at h
 | _ :: _, [], _, _, _, _, h, _ => by simp at h
 | p :: P, w :: vs, 0, m, nd, h1, h2, hk => by
  simp at h1 h2; subst h1; subst h2
  show bindL kindOf ((p, w) :: P.zip vs) m p = _
  unfold bindL
  rw [bindL_out fun v hv => (List.nodup_cons.mp nd).1 (List.of_mem_zip hv).1, if_pos hk]
  simp
 | p :: P, w :: vs, i + 1, m, nd, h1, h2, hk => by
  show bindL kindOf ((p, w) :: P.zip vs) m x = _
  unfold bindL
  exact bindL_get (i := i) (List.nodup_cons.mp nd).2 (by simpa using h1) (by simpa using h2) hk
theorem bindC_get {kindOf : Str -> Option NameKind} {x : Str} {v : Value} : ∀ {P : List Str} {vs : List Value} {i : Nat} {m : Str -> Option Value}, P.Nodup -> P[i]? = some x -> vs[i]? = some v -> kindOf x ≠ some .local ->
  bindC kindOf (P.zip vs) m x = some v
 | [], _, _, _, _, h, _, _ => by simp at h
 | _ :: _, [], _, _, _, _, h, _ => by simp at h
 | p :: P, w :: vs, 0, m, nd, h1, h2, hk => by
  simp at h1 h2; subst h1; subst h2
  show bindC kindOf ((p, w) :: P.zip vs) m p = _
  unfold bindC
  rw [bindC_out fun v hv => (List.nodup_cons.mp nd).1 (List.of_mem_zip hv).1, if_neg hk]
  simp
 | p :: P, w :: vs, i + 1, m, nd, h1, h2, hk => by
  show bindC kindOf ((p, w) :: P.zip vs) m x = _
  unfold bindC
  exact bindC_get (i := i) (List.nodup_cons.mp nd).2 (by simpa using h1) (by simpa using h2) hk
def start (N : List Str) (vs : List V) : St := vs.map some ++ List.replicate (N.length - vs.length) none
def cxOf (CX : CXT) (P : Program) (w : World) (K : PySem.W.Frag) (mg : Str -> Option Value) (base : Heap) (N : List Str) (qual : Str) (scope : Scope) (f : Addr) (cd : Value) (A : Around) (outer : List Env) (s : Shared) (H : Hp) (E : XK) : Cx where
 prog := P
 w := w
 K := K
 mg := mg
 base := base
 A := A.deeper (envOfC qual scope s.heap.objs.size f cd)
 N := N
 s₀ := s
 H₀ := H
 env := envOfC qual scope s.heap.objs.size f cd
 outer := outer
 stack := envOfC qual scope s.heap.objs.size f cd :: outer
 ex := []
 calm := true
 fn := fun _ => true
 pn := []
 xe := fun e s' => wpAny (model P w) (A.deeper (envOfC qual scope s.heap.objs.size f cd)) (leaving (envOfC qual scope s.heap.objs.size f cd) e) (fun _ s'' => CX outer H s E e s'') (fun e' s'' => CX outer H s E e' s'') s'
theorem cell_has {sc : Scope} {n : Nat} {x : Str} (h : sc.names.lookup x = some .cell) : ∃ c, (cellsFrom n sc.names []).lookup x = some c := by
 have q := PySem.W.cellsFrom_some sc.names n [] (.inl h)
 exact Option.isSome_iff_exists.mp q
theorem inv_start {CX : CXT} {P : Program} {w : World} {K : PySem.W.Frag} {mg : Str -> Option Value} {base : Heap} {N ps : List Str} {qual : Str} {scope : Scope} {f : Addr} {cd : Value} {A : Around} {outer : List Env} {s s1 : Shared} {H : Hp} {E : XK} {us : List Value} {vs : List V}
  (S : FnScope N ps scope) (hd : A.handled = none) (e0 : Env0 P w K mg base A outer s H) (hl : vs.length = ps.length) (r : Vals vs us)
  (x : InCallC s s.heap.objs.size (bindL (envOfC qual scope s.heap.objs.size f cd).kindOf (ps.zip us) fun _ => none) (cellsFrom (s.heap.objs.size + 1) scope.names []) (bindC (envOfC qual scope s.heap.objs.size f cd).kindOf (ps.zip us) fun _ => none) s1) :
  Inv (cxOf CX P w K mg base N qual scope f cd A outer s H E) [] (start N vs) H s1 := by
 have hpl : ps.length <= N.length := by have := congrArg List.length S.pre; rw [List.length_take] at this; omega
 obtain ⟨h1, tk, rfl, hk⟩ := x.done
 have noA : ∀ b : Addr, b ∉ (cxOf CX P w K mg base N qual scope f cd A outer s H E).ex := fun b z => absurd (show b ∈ ([] : List Addr) from z) (by simp)
 refine ⟨⟨e0.mod, S.kind, rfl, rfl, Nat.le_refl _, fun y z c h1 h2 => ?_, fun y hy => ?_, fun y c _ h => ?_, fun _ => hd, Around.frames_deeper e0.frames, .inr ⟨rfl, rfl⟩, fun b z => absurd z (noA b), e0.bs, e0.bsz, fun b _ _ => noA b, fun b z => absurd z (noA b), e0.funs, e0.frf⟩,
  rfl, e0.bare, Un.kept hk, ⟨_, x.toInCall.ns, fun i y v h1 h2 h3 => ?_⟩, fun y c h => ⟨_, x.cell y c h⟩, e0.hok.fresh (Nat.le_refl _), fun y c h => ?_, fun p hp => absurd (show p ∈ ([] : List (Addr × Obj)) from hp) (by simp), e0.hok.kept hk, ?_⟩
 ·exact name_of_addr x.apart (PySem.mem_of_lookup h1) (PySem.mem_of_lookup h2)
 ·have hy : scope.names.lookup y = some .cell \/ scope.names.lookup y = some .free := hy
  rcases hy with hy | hy
  ·exact cell_has hy
  ·exact absurd rfl (S.nofree _ (PySem.mem_of_lookup hy))
 ·exact Nat.le_of_lt (x.above y c (PySem.mem_of_lookup h))
 ·have hi : i < vs.length := by
   unfold start at h2
   by_cases hi : i < vs.length
   ·exact hi
   ·rw [List.getElem?_append_right (by simpa using hi)] at h2
    rw [List.getElem?_replicate] at h2
    split at h2 <;> cases h2
  have ha : vs[i]? = some v := by
   unfold start at h2
   rw [List.getElem?_append_left (by simpa using hi), List.getElem?_map] at h2
   cases e : vs[i]? with
   | none => rw [e] at h2; cases h2
   | some a => rw [e] at h2; cases h2; rfl
  obtain ⟨u, hu, rv⟩ := r.get ha
  have hp : ps[i]? = some y := by
   rw [<- S.pre, List.getElem?_take_of_lt (by omega)]; exact h1
  have ndP : ps.Nodup := by rw [<- S.pre]; exact S.nd.sublist (List.take_sublist _ _)
  refine ⟨u, rv, ?_⟩
  rcases S.par y (List.mem_of_getElem? hp) with k | k
  ·exact .inl ⟨k, bindL_get ndP hp hu k⟩
  ·obtain ⟨c, e⟩ := cell_has (n := s.heap.objs.size + 1) k
   refine .inr ⟨.inl k, c, e, ?_⟩
   have q := x.cell y c e
   rw [bindC_get ndP hp hu (by show scope.names.lookup y ≠ _; rw [k]; decide)] at q
   exact q
 ·exact e0.hok.fresh (Nat.le_of_lt (x.above y c (PySem.mem_of_lookup h)))
 ·unfold start
  show _ = N.length
  rw [List.length_append, List.length_map, List.length_replicate]
  omega
theorem fn_of {CX : CXT} {P : Program} {w : World} {K : PySem.W.Frag} {mg : Str -> Option Value} {base : Heap} {k : Nat} {f : Addr} {name qual : Str} {params : Arguments} {body : List Stmt} {scope : Scope} {dV kV doc pm cdv ct oc : Value} {an od : Option Addr}
  {osl : Array (Option Value)} {N ps : List Str} {sp : Sp} (lk : K.lookup f = some ⟨oc, od, .func (PySem.W.fnOf name qual params body scope dV kV doc pm an cdv ct), osl⟩) (hcd : PySem.W.codeIn K cdv qual = true) (S : FnScope N ps scope)
  (len : ∀ vs H Q E, sp vs H Q E -> vs.length = ps.length)
  (hbody : ∀ (A : Around) (outer : List Env) (s : Shared) (H : Hp) (vs : List V) (Q : VK) (E : XK), Room k (A.deeper (envOfC qual scope s.heap.objs.size f cdv)) -> sp vs H Q E ->
   ∃ t, PSs (cxOf CX P w K mg base N qual scope f cdv A outer s H E) body t /\ t { nx := fun _ H' => Q .non H', rt := Q } (start N vs) H) :
  FnOk P w K mg base CX (k + 1) f (PySem.W.fnOf name qual params body scope dV kV doc pm an cdv ct) ps sp := by
 refine ⟨len, fun A outer s H args us vs Q E hr e0 hb r hsp => ?_⟩
 have hl := len _ _ _ _ hsp
 have KX : K.In s.heap := e0.mod.kin.keeps fun b o e => (e0.bs b o e).1
 have lim : s.heap.NoLimit := e0.mod.nolimit.keeps fun b o e => (e0.bs b o e).1
 have hkind : ∀ y ∈ ps.zip us, scope.names.lookup y.1 = some .local \/ (scope.names.lookup y.1 = some .cell /\ ((cellsFrom (s.heap.objs.size + 1) scope.names []).lookup y.1).isSome = true) := fun ⟨n, v⟩ hy => by
  rcases S.par n (List.of_mem_zip hy).1 with q | q
  ·exact .inl q
  ·exact .inr ⟨q, PySem.W.cellsFrom_some _ _ _ (.inl q)⟩
 refine codeAny_call_function hr.depth (KX _ _ lk) rfl S.co S.gen rfl (PySem.W.codeRec_of KX hcd) (hb _ _ _ _ ?_)
 refine wpAny_newFunctionEnv_cells S.kind hkind fun env he s1 x => ?_
 subst he
 refine ⟨lim.keeps x.toInCall.keep, codeAny_func ?_⟩
 obtain ⟨t, ht, hq⟩ := hbody A outer s H vs Q E (hr.deeper _) hsp
 have I : Inv (cxOf CX P w K mg base N qual scope f cdv A outer s H E) [] (start N vs) H s1 := inv_start S hr.hd e0 hl r x
 refine wpAny_mono (ht [] s1 (start N vs) H _ I hq) (fun fl s' hs => ?_) fun e s' hs => hs
 have fin : ∀ {σ' : St} {H' : Hp} {v : V} {u : Value}, Inv (cxOf CX P w K mg base N qual scope f cdv A outer s H E) [] σ' H' s' -> RelV v u -> Q v H' -> CE outer P w H s Q u s' :=
  fun {σ' H' v u} J rv q => ⟨v, H', J.os, J.bare, J.base, J.hok, rv, q⟩
 cases fl with
 | ret u =>
  obtain ⟨v, σ', H', J, rv, q⟩ := hs
  exact fin J rv q
 | next =>
  obtain ⟨σ', H', J, q⟩ := hs
  exact fin (v := V.non) (u := Value.none) J rfl q
 | brk =>
  obtain ⟨_, _, _, q⟩ := hs
  exact False.elim q
 | cont =>
  obtain ⟨_, _, _, q⟩ := hs
  exact False.elim q
end L2
namespace L2
open PySem PySem.Spec PyProof.Rows
section
variable {X : Cx} {x : Str} {p pos : Pos} {e : Expr} {es : List Expr} {t : TA} {id T : String} {r : List V -> Hp -> VK -> Prop}
def tCB (r : List V -> Hp -> VK -> Prop) (t : TA) : TE := fun σ H Q => t σ H fun vs H1 => r vs H1 Q
theorem pe_callB (hc : CallR X (.builtin id) r) (hg : Gl X x) (hm : X.mg x = none) (hv : bootBuiltins x = some (.builtin id)) (ha : PA X (e :: es) t) (hn : x ≠ "__name__" := by decide) (hdb : (x == ("__debug__" : Str)) = false := by decide)
  (he : starEach (e :: es) X.env = (false, eval e X.env) :: starEach es X.env := by rfl) (hpl : (backTo pos (starEach es X.env)).any (·.1) = false := by rfl) : PE X (.Call (.Name x p) (e :: es) [] pos) (tCB r t) := by
 intro pins s σ H Q I h
 refine wpAny_Call_Name_kw (ld_blt I hg hm hv ?_ hn hdb)
 exact PyProof.Rows.callWith_builtin1 (thn (ha pos pins s σ H _ I h) fun us s1 ⟨vs, H1, I1, r1, q1⟩ => hc pins s1 σ H1 vs us Q I1 r1 q1) he hpl
theorem pe_callTy (hc : CallR X (.type T) r) (hg : Gl X x) (hm : X.mg x = none) (hv : bootBuiltins x = some (.type T)) (ha : PA X (e :: es) t) (hn : x ≠ "__name__" := by decide) (hdb : (x == ("__debug__" : Str)) = false := by decide)
  (he : starEach (e :: es) X.env = (false, eval e X.env) :: starEach es X.env := by rfl) (hpl : (backTo pos (starEach es X.env)).any (·.1) = false := by rfl) : PE X (.Call (.Name x p) (e :: es) [] pos) (tCB r t) := by
 intro pins s σ H Q I h
 refine wpAny_Call_Name_kw (ld_blt I hg hm hv ?_ hn hdb)
 exact PyProof.Rows.callWith_type1 (thn (ha pos pins s σ H _ I h) fun us s1 ⟨vs, H1, I1, r1, q1⟩ => hc pins s1 σ H1 vs us Q I1 r1 q1) he hpl
end
end L2
namespace HT
open PySem PyProof.Rows
def lexLt : List Int -> List Int -> Bool
 | [], [] => false
 | [], _ :: _ => true
 | _ :: _, [] => false
 | x :: xs, y :: ys => if x = y then lexLt xs ys else decide (x < y)
section
open PySem.SeqAt
open PySem.AutoSeq1 (wpAny_loadPart')
open PySem.MeetsSeq PySem.MeetsSeq2 PySem.MeetsSeq3
end
section
variable {prog : Program} {w : World} {A : Around} {E : Value -> Shared -> Prop} {s : Shared}
end
end HT
namespace L2
open PySem PySem.Spec PyProof.Rows
abbrev TO := St -> Hp -> (Option Int -> Hp -> Prop) -> Prop
def PO (X : Cx) (e : Option Expr) (t : TO) : Prop :=
 ∀ (pins : List (Addr × Obj)) (s : Shared) (σ : St) (H : Hp) (Q : Option Int -> Hp -> Prop), Inv X pins σ H s -> t σ H Q ->
  wpAny (model X.prog X.w) X.A (evalPart e X.env) (fun u s' => ∃ o H', Inv X pins σ H' s' /\ IsPart u o /\ Q o H') X.xe s
def tNoPart : TO := fun _ H Q => Q none H
def tPart (t : TE) : TO := fun σ H Q => t σ H fun x H1 => ∃ i, x = .int i /\ Q (some i) H1
section
variable {X : Cx} {e : Expr} {te : TE} {lo hi : Option Expr} {tl th : TO} {pos p2 : Pos}
theorem po_none : PO X none tNoPart := by
 intro pins s σ H Q I h
 rw [evalPart_none]
 exact wpAny_pure ⟨none, H, I, .none, h⟩
theorem po_some (h : PE X e te) : PO X (some e) (tPart te) := by
 intro pins s σ H Q I hw
 rw [evalPart_some]
 refine thn (h pins s σ H _ I hw) fun u s1 ⟨x, H1, I1, r1, q1⟩ => ?_
 obtain ⟨i, rfl, q⟩ := q1
 obtain ⟨t, rfl⟩ := r1
 exact ⟨some i, H1, I1, .int i t, q⟩
end
end L2
namespace L2
open PySem PySem.Spec PyProof.Rows
def ixN (n : Nat) (i : Int) : Option Nat := if 0 <= i then (if i < n then some i.toNat else none) else if -(n : Int) <= i then some (i + n).toNat else none
def atI {α : Type} (xs : List α) (i : Int) : Option α := (ixN xs.length i).bind fun j => xs[j]?
theorem ixN_seq {n : Nat} {i : Int} {j : Nat} (h : ixN n i = some j) : seqIndex? i n = some j /\ j < n /\ -(n : Int) <= i /\ i < n := by
 unfold ixN at h
 by_cases h0 : 0 <= i
 ·rw [if_pos h0] at h
  by_cases h1 : i < n
  ·rw [if_pos h1] at h
   have e : i.toNat = j := Option.some.inj h
   exact ⟨by rw [seqIndex_of h0 h1, e], by omega, by omega, h1⟩
  ·rw [if_neg h1] at h; cases h
 ·rw [if_neg h0] at h
  by_cases h1 : -(n : Int) <= i
  ·rw [if_pos h1] at h
   have e : (i + n).toNat = j := Option.some.inj h
   exact ⟨by rw [seqIndex_neg (by omega) h1, e], by omega, h1, by omega⟩
  ·rw [if_neg h1] at h; cases h
theorem atI_get {α : Type} {xs : List α} {i : Int} {v : α} (h : atI xs i = some v) : ∃ j, seqIndex? i xs.length = some j /\ xs[j]? = some v /\ j < xs.length /\ -(xs.length : Int) <= i /\ i < xs.length := by
 unfold atI at h
 cases e : ixN xs.length i with
 | none => rw [e] at h; cases h
 | some j =>
  rw [e] at h
  obtain ⟨h1, h2, h3, h4⟩ := ixN_seq e
  exact ⟨j, h1, h, h2, h3, h4⟩
theorem atI_nat {α : Type} {xs : List α} {j : Nat} {v : α} (h : xs[j]? = some v) : atI xs (j : Int) = some v := by
 have hj : j < xs.length := (List.getElem?_eq_some_iff.mp h).1
 have e : ixN xs.length (j : Int) = some j := by
  unfold ixN
  rw [if_pos (by omega), if_pos (by omega)]; simp
 unfold atI; rw [e]; exact h
def PlainIx (b : Expr) : Prop := ∀ o i, subscripted b false o i = operate [o, i] (getItem o i)
def IxR (X : Cx) (r : R2) : Prop :=
 ∀ (value slice : Expr) (pins : List (Addr × Obj)) (s : Shared) (σ : St) (H : Hp) (x y : V) (v u : Value) (Q : VK), Inv X pins σ H s -> RelV x v -> RelV y u -> r x y H Q ->
  subscripted slice false v u = operate [v, u] (getItem v u) -> wpAny (model X.prog X.w) X.A (subscriptTail value slice v u) (EP X pins σ Q) X.xe s
def MtR (X : Cx) (id : String) (r : V -> List V -> Hp -> VK -> Prop) : Prop :=
 ∀ (pins : List (Addr × Obj)) (s : Shared) (σ : St) (H : Hp) (x : V) (xs : List V) (v : Value) (us : List Value) (Q : VK), Inv X pins σ H s -> RelV x v -> Vals xs us -> r x xs H Q ->
  wpAny (model X.prog X.w) X.A (call (.builtin id) (v :: us)) (EP X pins σ Q) X.xe s
section
variable {X : Cx} {a b : Expr} {ta tb : TE} {pos : Pos}
theorem pe_ix {r : R2} (hr : IxR X r) (ha : PE X a ta) (hb : PE X b tb) (hs : PlainIx b) : PE X (.Subscript a b pos) (tOp r ta tb) := by
 intro pins s σ H Q I h
 exact Subscript_ (binT ha hb I h fun v u s2 x y H2 I2 rx ry q => hr a b pins s2 σ H2 x y v u Q I2 rx ry q (hs _ _))
def rIxL (K : PySem.W.Frag) : R2 := fun x y H Q => ∃ p xs i v, x = .ref p /\ y = .int i /\ SqL K H p xs /\ atI xs i = some v /\ Q v H
def rIxT (K : PySem.W.Frag) : R2 := fun x y H Q => ∃ p xs i v, x = .ref p /\ y = .int i /\ SqT K H p xs /\ atI xs i = some v /\ Q v H
theorem ix_list : IxR X (rIxL X.K) := by
 intro value slice pins s σ H x y v u Q I rx ry h hs
 obtain ⟨p, xs, i, z, rfl, rfl, hq, he, q⟩ := h
 cases rx
 obtain ⟨t, rfl⟩ := ry
 obtain ⟨its, r, pl, hz⟩ := I.list hq
 obtain ⟨j, h1, h2, h3, h4, h5⟩ := atI_get he
 obtain ⟨w, ew, rw'⟩ := r.get h2
 have hl := r.length
 have hn := line63
 have fin : EP X pins σ Q w s := ⟨z, H, I, rw', q⟩
 by_cases h0 : 0 <= i
 ·have hj : i.toNat = j := by
   rw [seqIndex_of h0 h5] at h1
   exact Option.some.inj h1
  exact item_listR pl.isList h0 (by omega) (by rw [hj]; simpa using ew) fin hs
 ·have hj : (i + (its.toArray.size : Int)).toNat = j := by
   rw [seqIndex_neg (by omega) h4] at h1
   rw [List.size_toArray, <- hl]
   exact Option.some.inj h1
  exact subscriptTail_builtinR (x := w) pl.isList.typeIs slot_list_getitem.lookup
   (wpAny_getItem_list_neg (Q := fun r s' => r = w /\ EP X pins σ Q r s') pl.isList (by omega) (by rw [List.size_toArray] <;> omega) (by omega) (by rw [hj]; simpa using ew) ⟨rfl, fin⟩) hs
theorem ix_tup : IxR X (rIxT X.K) := by
 intro value slice pins s σ H x y v u Q I rx ry h hs
 obtain ⟨p, xs, i, z, rfl, rfl, hq, he, q⟩ := h
 cases rx
 obtain ⟨t, rfl⟩ := ry
 obtain ⟨its, r, pl, hz⟩ := I.tuple hq
 obtain ⟨j, h1, h2, h3, h4, h5⟩ := atI_get he
 obtain ⟨w, ew, rw'⟩ := r.get h2
 have hl := r.length
 have hn := line63
 have fin : EP X pins σ Q w s := ⟨z, H, I, rw', q⟩
 exact subscriptTail_builtinR (x := w) pl.typeIs slot_tuple_getitem.lookup
  (getItem_tuple (j := j) (Q := fun r s' => r = w /\ EP X pins σ Q r s') pl (by omega) (by omega) (by rw [List.size_toArray, <- hl]; exact h1) (by simpa using ew) ⟨rfl, fin⟩) hs
theorem mapSeq_set (its : List Value) (n j : Nat) (u : Value) : Obj.mapSeq (·.setIfInBounds j u) { cls := .type "list", data := .seq its.toArray n } = { cls := .type "list", data := .seq (its.set j u).toArray n } := by
 simp [Obj.mapSeq]
theorem Inv.lst {pins : List (Addr × Obj)} {σ : St} {H : Hp} {s : Shared} {p : Addr} {xs : List V} (I : Inv X pins σ H s) (h : H p = some (.lst xs)) :
  ∃ (its : List Value) (n : Nat), Vals xs its /\ s.heap.get? p = some { cls := .type "list", data := .seq its.toArray n } /\ xs.length <= sizeLine := by
 obtain ⟨z, its, n, r, e⟩ := I.hok p _ h
 exact ⟨its, n, r, e, z⟩
theorem Inv.lstUpd {pins : List (Addr × Obj)} {σ : St} {H : Hp} {s : Shared} {p : Addr} {xs ys : List V} {its its' : List Value} {n n' : Nat} {f : Obj -> Obj} (I : Inv X pins σ H s) (h : H p = some (.lst xs))
  (ho : s.heap.get? p = some { cls := .type "list", data := .seq its.toArray n }) (hf : f { cls := .type "list", data := .seq its.toArray n } = { cls := .type "list", data := .seq its'.toArray n' }) (r : Vals ys its') (hz : ys.length <= sizeLine) (t : Nat) :
  Inv X pins σ (upd H p (.lst ys)) { s with heap := s.heap.update p f, toks := t } := by
 have e : (s.heap.update p f).get? p = some { cls := .type "list", data := .seq its'.toArray n' } := by
  rw [Heap.get?_update_self f ho (by rw [hf] <;> rfl), hf]
 refine I.write (x := p) (e := p) (by rw [h]; trivial) (.inl rfl) (fun b u hb q => (Heap.get?_update_other _ _ (Ne.symm hb)).trans q) ⟨_, e⟩ ?_
 exact ⟨hz, its', n', r, e⟩
def rSetL : V -> V -> V -> Hp -> (Hp -> Prop) -> Prop := fun o i v H Q => ∃ p xs k j, o = .ref p /\ i = .int k /\ H p = some (.lst xs) /\ ixN xs.length k = some j /\ Q (upd H p (.lst (xs.set j v)))
theorem set_list : PSet X rSetL := by
 intro pins s σ H o i v ov iv u Q I ro ri rv h
 obtain ⟨p, xs, k, j, rfl, rfl, hp, hj, q⟩ := h
 cases ro
 obtain ⟨t, rfl⟩ := ri
 obtain ⟨its, n, r, ho, hz⟩ := I.lst hp
 obtain ⟨h1, h2, h3, h4⟩ := ixN_seq hj
 have hl := r.length
 have hn := line63
 have I' : Inv X pins σ (upd H p (.lst (xs.set j v))) { s with heap := s.heap.update p (Obj.mapSeq (·.setIfInBounds j u)) } :=
  I.lstUpd hp ho (mapSeq_set its n j u) (r.set rv j) (by rw [List.length_set]; exact hz) s.toks
 by_cases h0 : 0 <= k
 ·have hk : k.toNat = j := by
   rw [seqIndex_of h0 h4] at h1
   exact Option.some.inj h1
  exact PySem.W.ki_setAt ho h0 (by omega) (by rw [List.size_toArray, <- hl]; exact h4) (by rw [hk]; exact ⟨_, I', q⟩)
 ·have hk : (k + (its.toArray.size : Int)).toNat = j := by
   rw [seqIndex_neg (by omega) h3] at h1
   rw [List.size_toArray, <- hl]
   exact Option.some.inj h1
  exact PySem.W.ki_setBack ho (by omega) (by rw [List.size_toArray, <- hl]; exact h3) (by omega) (by rw [hk]; exact ⟨_, I', q⟩)
theorem call_len_seq : CallR X (.builtin "len") (fun xs H Q => ∃ p ys, xs = [.ref p] /\ (SqL X.K H p ys \/ SqT X.K H p ys) /\ Q (.int ys.length) H) := by
 intro pins s σ H xs us Q I r h
 obtain ⟨p, ys, rfl, hq, q⟩ := h
 obtain ⟨u, rfl, rx⟩ := vals1 r
 cases rx
 have hn := line63
 rcases hq with hq | hq
 ·obtain ⟨its, r', pl, hz⟩ := I.list hq
  have hlen := r'.length
  exact Calls.call_len_list pl.isList (by simp only [List.size_toArray] <;> omega) ⟨.int ys.length, H, I.tok _, ⟨s.toks + 1, by rw [List.size_toArray, hlen]⟩, q⟩
 ·obtain ⟨its, r', pl, hz⟩ := I.tuple hq
  have hlen := r'.length
  exact len_tuple pl (by simp only [List.size_toArray] <;> omega) ⟨.int ys.length, H, I.tok _, ⟨s.toks + 1, by rw [List.size_toArray, hlen]⟩, q⟩
theorem call_list_of : CallR X (.type "list") (fun xs H Q => ∃ p ys, xs = [.ref p] /\ (SqL X.K H p ys \/ SqT X.K H p ys) /\ ∀ l, H l = none -> Q (.ref l) (upd H l (.lst ys))) := by
 intro pins s σ H xs us Q I r h
 obtain ⟨p, ys, rfl, hq, q⟩ := h
 obtain ⟨u, rfl, rx⟩ := vals1 r
 cases rx
 have fin : ∀ (its : List Value), Vals ys its -> ys.length <= sizeLine -> ∀ (h' : Heap) (c' : Nat), (∀ b o', s.heap.get? b = some o' -> h'.get? b = some o') ->
   h'.get? s.heap.objs.size = some { cls := .type "list", dict := none, data := .seq its.toArray c', slots := #[] } -> EP X pins σ Q (.ref s.heap.objs.size) { s with heap := h' } := fun its r' hz h' c' kp e =>
  ⟨.ref s.heap.objs.size, _, I.laid (t' := s.toks) kp (Nat.le_refl _) (show ObjOk X.prog X.w _ h' _ (.lst ys) from ⟨hz, its, c', r', e⟩), rfl, q _ (I.hok.fresh (Nat.le_refl _))⟩
 rcases hq with hq | hq
 ·obtain ⟨its, r', pl, hz⟩ := I.list hq
  have hlen := r'.length
  obtain ⟨o, ho, hc, n, hd⟩ := pl.isList
  exact call_list_seq p (.inl rfl) ho hc hd (fun h' c' kp e => fin its r' hz h' c' kp e) (by simp only [List.size_toArray] <;> omega)
 ·obtain ⟨its, r', pl, hz⟩ := I.tuple hq
  have hlen := r'.length
  obtain ⟨o, ho, hc, n, hd⟩ := pl
  exact call_list_seq p (.inr rfl) ho hc hd (fun h' c' kp e => fin its r' hz h' c' kp e) (by simp only [List.size_toArray] <;> omega)
theorem call_tuple_of : CallR X (.type "tuple") (fun xs H Q => ∃ p ys, xs = [.ref p] /\ ((SqL X.K H p ys /\ ∀ l, H l = none -> Q (.ref l) (upd H l (.tup ys))) \/ (SqT X.K H p ys /\ Q (.ref p) H))) := by
 intro pins s σ H xs us Q I r h
 obtain ⟨p, ys, rfl, h⟩ := h
 obtain ⟨u, rfl, rx⟩ := vals1 r
 cases rx
 rcases h with ⟨hq, q⟩ | ⟨hq, q⟩
 ·obtain ⟨its, r', pl, hz⟩ := I.list hq
  have hlen := r'.length
  refine call_tuple_list pl.isList (fun h' kp => ?_) (by simp only [List.size_toArray] <;> omega)
  have I1 : Inv X pins σ H { s with heap := h' } := I.kept (t' := s.toks) kp
  have I2 : Inv X pins σ (upd H h'.objs.size (.tup ys)) { s with heap := h'.push { cls := .type "tuple", data := .seq its.toArray } } :=
   I1.laid (t' := s.toks) (fun b o e => Heap.get?_push_of_some _ e) (Nat.le_refl _) (show ObjOk X.prog X.w _ _ _ (.tup ys) from ⟨hz, its, r', IsTup.new _ _⟩)
  exact ⟨.ref h'.objs.size, _, I2, rfl, q _ (I1.hok.fresh (Nat.le_refl _))⟩
 ·obtain ⟨its, r', pl, hz⟩ := I.tuple hq
  exact call_tuple_same pl ⟨.ref p, H, I, rfl, q⟩
def tyV (K : PySem.W.Frag) (T : String) (x : V) (H : Hp) : Prop := match x with
 | .str _ => T = "str"
 | .int _ => T = "int"
 | .ref p => (T = "list" /\ ∃ xs, SqL K H p xs) \/ (T = "tuple" /\ ∃ o, K.lookup p = some o /\ o.cls = .type "tuple" /\ o.dict = none) \/
   (T = "dict" /\ ((∃ kvs, H p = some (.dK kvs)) \/ ∃ kvs, H p = some (.dT kvs))) \/ (T = "set" /\ ∃ S n, H p = some (.set S n))
 | _ => False
theorem tyV_is {pins : List (Addr × Obj)} {σ : St} {H : Hp} {s : Shared} {T : String} {x : V} {v : Value} (I : Inv X pins σ H s) (r : RelV x v) (ty : tyV X.K T x H) :
  s.TypeIs v T /\ ∀ a, v = .ref a -> ∃ ob, s.heap.get? a = some ob /\ ob.dict = none := by
 cases x with
 | str z =>
  obtain ⟨t, rfl⟩ := r
  cases (show T = "str" from ty)
  exact ⟨typeIs_str s z t, fun _ e => nomatch e⟩
 | int i =>
  obtain ⟨t, rfl⟩ := r
  cases (show T = "int" from ty)
  exact ⟨typeIs_int s i t, fun _ e => nomatch e⟩
 | ref p =>
  cases r
  rcases ty with ⟨rfl, xs, hq⟩ | ⟨rfl, o, hk, hc, hd⟩ | ⟨rfl, hk⟩ | ⟨rfl, S, n, hk⟩
  ·obtain ⟨its, _, pl, _⟩ := I.list hq
   refine ⟨pl.isList.typeIs, fun a e => ?_⟩
   cases e
   obtain ⟨o, n, e, c, hd, _⟩ := pl
   exact ⟨o, e, hd⟩
  ·refine ⟨⟨o, I.kIn p o hk, hc⟩, fun a e => ?_⟩
   cases e
   exact ⟨o, I.kIn _ o hk, hd⟩
  ·have z : ∃ o, s.heap.get? p = some o /\ o.ExactDict := by
    rcases hk with ⟨kvs, hk⟩ | ⟨kvs, hk⟩
    ·obtain ⟨_, _, _, _, o, _, _, e, ex, _⟩ := I.hok p _ hk
     exact ⟨o, e, ex⟩
    ·obtain ⟨_, _, _, _, o, _, _, e, ex, _⟩ := I.hok p _ hk
     exact ⟨o, e, ex⟩
   obtain ⟨o, e, ex⟩ := z
   refine ⟨⟨o, e, ex.1⟩, fun a e2 => ?_⟩
   cases e2
   exact ⟨o, e, ex.2.1⟩
  ·obtain ⟨o, _, _, _, e, ex, _⟩ := I.hok p _ hk
   refine ⟨⟨o, e, ex.1⟩, fun a e2 => ?_⟩
   cases e2
   exact ⟨o, e, ex.2.1⟩
 | _ => exact False.elim ty
def tBM (K : PySem.W.Frag) (T : String) (r : V -> List V -> Hp -> VK -> Prop) (to : TE) (t : TA) : TE := fun σ H Q => to σ H fun x H1 => tyV K T x H1 /\ t σ H1 fun xs H2 => r x xs H2 Q
variable {o e : Expr} {es : List Expr} {to : TE} {t : TA} {name : Str} {apos cpos : Pos} {T id : String} {r : V -> List V -> Hp -> VK -> Prop}
theorem pe_bm (pa : PlainAttrs T) (slot : Slot T name id) (hty : typeOf (.builtin id) = pure (.type "method_descriptor")) (hm : MtR X id r) (ho : PE X o to) (ha : PA X (e :: es) t)
  (hbase : attributeBase o name X.env (eval o X.env) = eval o X.env := by rfl)
  (hfew : ((backTo cpos (starEach (e :: es) X.env)).all (fun x => !x.1) && (backToKw cpos (keywordEach [] X.env)).all (fun x => x.1.isSome)
   && decide ((e :: es).length + ([] : List Keyword).length + (if ([] : List Keyword).isEmpty then 0 else 1) < 30)) = true := by rfl)
  (hline : (apos.endLine == cpos.line) = true := by rfl) (hs : starEach (e :: es) X.env = (false, eval e X.env) :: starEach es X.env := by rfl) (hplain : (backTo cpos (starEach es X.env)).any (·.1) = false := by rfl) :
  PE X (.Call (.Attribute o name apos) (e :: es) [] cpos) (tBM X.K T r to t) := by
 intro pins s σ H Q I h
 refine wpAny_Call_method_late hbase hfew hline rfl (thn (ho pins s σ H _ I h) fun v s1 ⟨x, H1, I1, r1, ty, q1⟩ => ?_)
 obtain ⟨h1, h2⟩ := tyV_is I1 r1 ty
 refine ⟨T, id, pa, slot, hty, h1, h2, ?_⟩
 have hA := ha cpos pins s1 σ H1 _ I1 q1
 rw [hs] at hA ⊢
 refine Calls.callWith_builtin (by show (false || (backTo cpos (starEach es X.env)).any (·.1)) = false; rw [hplain] <;> rfl) (Calls.evalArgs_plain ?_)
 exact thn hA fun us s2 ⟨vs, H2, I2, r2, q2⟩ => hm pins s2 σ H2 x vs v us Q I2 r1 r2 q2
end
end L2
namespace L2
open PySem PySem.Spec PyProof.Rows
def MtM (X : Cx) (id : String) (r : V -> List V -> Hp -> VK -> Prop) : Prop :=
 ∀ (pins : List (Addr × Obj)) (s : Shared) (σ : St) (H : Hp) (x : V) (xs : List V) (v : Value) (us : List Value) (Q : VK), Inv X pins σ H s -> RelV x v -> Vals xs us -> r x xs H Q ->
  wpAny (model X.prog X.w) X.A (call (.builtin id) (v :: us)) (EP X pins σ Q) X.xe s
theorem Vals.one : ∀ {x : V} {us : List Value}, Vals [x] us -> ∃ u, us = [u] /\ RelV x u
 | _, _, .cons r .nil => ⟨_, rfl, r⟩
theorem Vals.reverse {xs : List V} {us : List Value} (h : Vals xs us) : Vals xs.reverse us.reverse := by
 induction h with
 | nil => exact .nil
 | cons r t ih => rw [List.reverse_cons, List.reverse_cons]; exact Vals.append ih (.cons r .nil)
section
variable {X : Cx} {pins : List (Addr × Obj)} {σ : St} {H : Hp} {s : Shared} {l b : Addr} {xs ys zs : List V}
theorem Inv.lset {its its' : List Value} {n : Nat} {f : Array Value -> Array Value} {t' : Nat} (I : Inv X pins σ H s) (hH : H l = some (.lst xs))
  (e : s.heap.get? l = some { cls := .type "list", data := .seq its.toArray n }) (hf : f its.toArray = its'.toArray) (hv : Vals ys its') (hz : ys.length <= sizeLine) :
  Inv X pins σ (upd H l (.lst ys)) { s with heap := s.heap.update l (Obj.mapSeq f), toks := t' } := by
 have q := PySem.IsL.update e f
 rw [hf] at q
 refine I.write (x := l) (e := l) (by rw [hH]; exact trivial) (.inl rfl) (fun b' u hb hu => (Heap.get?_update_other s.heap (Obj.mapSeq f) (Ne.symm hb)).trans hu) ⟨_, q⟩ ?_
 exact ⟨hz, its', _, hv, q⟩
theorem Inv.lnew {its : List Value} {t' : Nat} (I : Inv X pins σ H s) (hv : Vals ys its) (hz : ys.length <= sizeLine) :
  Inv X pins σ (upd H s.heap.objs.size (.lst ys)) { s with heap := s.heap.push { cls := .type "list", data := .seq its.toArray }, toks := t' } :=
 I.laid (fun _ _ q => Heap.get?_push_of_some _ q) (Nat.le_refl _) ⟨hz, its, 0, hv, Heap.get?_push_size _ rfl⟩
theorem Inv.fresh (I : Inv X pins σ H s) : H s.heap.objs.size = none := I.hok.fresh (Nat.le_refl _)
theorem Inv.lstM (I : Inv X pins σ H s) (hH : H l = some (.lst xs)) : xs.length <= sizeLine /\ ∃ (its : List Value) (n : Nat), Vals xs its /\ xs.length = its.length /\ s.heap.get? l = some { cls := .type "list", data := .seq its.toArray n } := by
 obtain ⟨z, its, n, r, e⟩ := I.hok l _ hH
 exact ⟨z, its, n, r, r.length, e⟩
end
section
variable {X : Cx}
def rAppend : V -> List V -> Hp -> VK -> Prop := fun x vs H Q => ∃ l xs y, x = .ref l /\ vs = [y] /\ H l = some (.lst xs) /\ xs.length < sizeLine /\ Q .non (upd H l (.lst (xs ++ [y])))
theorem mt_append : MtM X "list.append" rAppend := by
 intro pins s σ H x vs v us Q I rx rv h
 obtain ⟨l, xs, y, rfl, rfl, hH, hz, q⟩ := h
 cases rx
 obtain ⟨u, rfl, ru⟩ := rv.one
 obtain ⟨z, its, n, r, hl, e⟩ := I.lstM hH
 refine call_meets F.slot_list_append ⟨_, e, rfl⟩ F.entry_list_append (F.args_list_append_2 _ _) (PySem.list_append l its.toArray n u (by rw [List.size_toArray]; omega)) ⟨e, ?_⟩
 refine ⟨.non, _, I.lset (its' := its ++ [u]) hH e (by simp) (r.append (.cons ru .nil)) ?_, rfl, q⟩
 rw [List.length_append, List.length_singleton]
 omega
end
section
variable {prog : Program} {w : World} {A : Around} {E : Value -> Shared -> Prop} {s : Shared}
end
section
variable {X : Cx}
end
end L2
namespace Att
open PySem PySem.W PySem.Calls PyProof.Rows
theorem ints_of_wellAll {P : Params} {h : Heap} : ∀ (ns : List Int) (vs : List Value), WellAll P h vs (ns.map WData.int) -> IntsAre vs ns := by
 intro ns
 induction ns with
 | nil =>
  intro vs w
  rw [List.map_nil] at w
  cases w
  exact .nil
 | cons n ns ih =>
  intro vs w
  rw [List.map_cons] at w
  cases w with
  | cons a b =>
   cases a
   exact .cons _ _ (ih _ b)
theorem script_of {l : OpenLaw} {n : Nat} (hn : l.most = some n) {P : Params} {h : Heap} {args : List WData} {vals : List Value}
  (hpre : l.row.toRowW.claim.pre args = true) (hwl : WellAll P h vals args) :
  ∃ a vs ns, vals = [Value.ref a] /\ args = [WData.list (ns.map WData.int)] /\ h.get? a = some { cls := .type "list", data := .seq vs.toArray } /\ IntsAre vs ns /\ ns.length <= n := by
 have hsh : WShape.hasAll [] args [.list .int] = true := (pre_splitW hpre).1
 have hc : l.pre.holds [] { args := args } = true := (pre_splitW hpre).2
 obtain ⟨d, r, rfl, h1, h2⟩ := hasAllW_cons hsh
 obtain rfl := hasAllW_nil h2
 obtain ⟨xs, rfl, h3⟩ := hasW_list h1
 obtain ⟨ns, rfl⟩ := items_int h3
 have hlen : ns.length <= n := by
  unfold OpenLaw.pre at hc
  have h4 : (WTm.not (.lt (.lit (.int (n : Int))) (.len (.arg 0)))).holds [] { args := [.list (ns.map .int)] } = true := by
   have h4 := (holds_andW hc).1
   rw [hn] at h4
   exact h4
  have h5 := condW_of h4 (w_not (w_lt w_lit (w_len_list (w_arg rfl))))
  rw [List.length_map] at h5
  refine Nat.le_of_not_lt fun q => ?_
  have q' : (n : Int) < ((ns.length : Nat) : Int) := by omega
  first
   | (rw [decide_eq_true q'] at h5; exact absurd h5 (by decide))
   | (simp at h5; omega)
 cases hwl with
 | cons w1 w2 =>
  cases w2
  cases w1 with
  | list ho hall => exact ⟨_, _, ns, rfl, rfl, ho, ints_of_wellAll ns _ hall, hlen⟩
theorem post_true (l : OpenLaw) (args : List WData) : l.row.toRowW.claim.post args (.bool true) args = true :=
 postW_of (r := l.row.toRowW) (X := (true == true))
  (show WShape.has [] (.bool true) .bool = true by first | rfl | decide | simp [WShape.has, WShape.arms, WShape.armsAll])
  (show (WTm.eq .res (.lit (.bool true))).value [] { args := args, res := some (.bool true), after := args } = some (.bool (true == true)) from w_eq_bool (w_res rfl) w_lit) rfl
theorem attach_call {l : OpenLaw} {n : Nat} {q : Program} {loose : List Str} {XP : (Str -> Option Value) -> Heap -> Prop} {YP : World -> Heap -> Prop} {d : DefRec}
  (hn : l.most = some n) (hdf : d.params.defaults = [])
  (call : ∀ (w : World) (s₀ s₁ : Shared) (mg mb : Str -> Option Value) (fa : Addr) (o : Obj) (pm cd doc : Value) (a : Addr) (vs : List Value) (ns : List Int),
   Ground q loose [] XP w s₀ mg mb s₁.heap -> YP w s₁.heap ->
   s₁.heap.get? fa = some o -> o.data = .func (docDef d.name d.params d.body d.scope pm cd doc) -> s₁.heap.CodeRec cd d.name -> mg d.name = some (.ref fa) ->
   s₁.heap.get? a = some { cls := .type "list", data := .seq vs.toArray } -> IntsAre vs ns -> ns.length <= n -> s₁.gens = #[] ->
   codeAny (model l.prog w) callerA (.call (.ref fa) ⟨[.ref a], []⟩) (fun r s' => r = .ok (.ret (.bool true)) /\ OldK s₁.heap s'.heap /\ s'.os = s₁.os /\ AllBare s'.gens) s₁) :
  WalkO q loose XP YP l.row.toRowW d [] (fun f vs => PySem.call f vs) := by
 intro w s₀ s₁ mg mb G Y fa o pm cd doc dV kV ho hd hcd hD hmg hg args vals as hpre hlay hrd hwl hlo
 obtain rfl : dV = .none := Dflts.none hD hdf
 obtain rfl : kV = .none := Dflts.noKw hD
 obtain ⟨a, vs, ns, rfl, rfl, hobj, hints, hlen⟩ := script_of hn hpre hwl
 refine enter_call (codeAny_mono (call w s₀ s₁ mg mb fa o pm cd doc a vs ns G Y ho (fd_plain hd) hcd hmg hobj hints hlen hg) fun r s' hq => ?_)
 obtain ⟨rfl, h2, h3, h4⟩ := hq
 exact ⟨.inl ⟨.bool true, .bool true, [], rfl, fun _ => rfl, .bool true, post_true l _, fun _ => ⟨List.Pairwise.nil, fun _ hm => (nomatch hm)⟩⟩, h2, h3, h4⟩
section
variable {prog : Program} {w : World} {A : Around} {E : Value -> Shared -> Prop} {s : Shared} {K : Frag}
end
end Att
namespace L2
open PySem PySem.Spec PyProof.Rows
theorem vals_ints : ∀ {vs : List Value} {ns : List Int}, IntsAre vs ns -> Vals (ns.map V.int) vs
 | _, _, .nil => .nil
 | _, _, .cons n t h => .cons ⟨t, rfl⟩ (vals_ints h)
def Only (H : Hp) : Prop := ∀ b, H b = none \/ ∃ o xs, H b = some (.frz o (.lst xs))
theorem law_call {P : Program} {w : World} {K : PySem.W.Frag} {mg mb : Str -> Option Value} {CX : CXT} {k : Nat} {fa a : Addr} {fd : FuncData} {x : Str} {sp : Sp} {s₁ : Shared} {vs : List Value} {ns : List Int}
  (KX : K.In s₁.heap) (hns : s₁.heap.Ns mainGlobals mg) (hb : s₁.heap.Ns builtinsNs mb) (hbb : ∀ x : Str, x ≠ "__name__" -> mb x = bootBuiltins x) (hlim : s₁.heap.NoLimit) (hg : s₁.gens = #[])
  (ha : s₁.heap.get? a = some { cls := .type "list", data := .seq vs.toArray }) (hi : IntsAre vs ns) (hl : ns.length <= sizeLine) (hr : Room k callerA)
  (F : ∀ base : Heap, K.In base -> base.Ns mainGlobals mg -> FnOk P w K mg base CX k fa fd [x] sp) (hbind : ∀ (s : Shared) (u : Value), BindsTo s fd ⟨[u], []⟩ [(x, u)])
  (hsp : ∀ H : Hp, Only H -> SqL K H a (ns.map V.int) -> sp [.ref a] H (fun v _ => v = .bl true) fun _ _ _ => False)
  (hCX : ∀ H e s', CX [] H s₁ (fun _ _ _ => False) e s' -> False) :
  codeAny (model P w) callerA (.call (.ref fa) ⟨[.ref a], []⟩) (fun r s' => r = .ok (.ret (.bool true)) /\ OldK s₁.heap s'.heap /\ s'.os = s₁.os /\ AllBare s'.gens) s₁ := by
 have rv := vals_ints hi
 have lenV := hi.length
 have core : ∀ H : Hp, Only H -> SqL K H a (ns.map V.int) -> HOk P w H s₁.heap -> (∀ b, H b ≠ none -> b = a) -> (H a ≠ none -> K.lookup a = none) ->
   codeAny (model P w) callerA (.call (.ref fa) ⟨[.ref a], []⟩) (fun r s' => r = .ok (.ret (.bool true)) /\ OldK s₁.heap s'.heap /\ s'.os = s₁.os /\ AllBare s'.gens) s₁ := by
  intro H hO hS hok hA hK
  have base_of : ∀ {b : Addr} {o : Obj}, s₁.heap.get? b = some o -> H b = none -> (hidT s₁.heap H).get? b = some o := fun e n => hidT_get e n
  have noA : ∀ {b : Addr} {o : Obj} {es : Array DictEntry} {ep : Nat}, s₁.heap.get? b = some o -> o.data = .dict es ep -> H b = none := fun {b o es ep} e d => by
   cases q : H b with
   | none => rfl
   | some u =>
    have e' : b = a := hA b (by rw [q]; simp)
    subst e'
    rw [ha] at e; cases e
    have d' : Data.seq vs.toArray _ = Data.dict es ep := d
    cases d'
  have nsK : ∀ {b : Addr} {m : Str -> Option Value}, s₁.heap.Ns b m -> (hidT s₁.heap H).Ns b m := fun {b m} ⟨o, es, ep, e, d, r⟩ => ⟨o, es, ep, base_of e (noA e d), d, r⟩
  have hKb : K.In (hidT s₁.heap H) := fun b o e => base_of (KX b o e) (by
   cases q : H b with
   | none => rfl
   | some u =>
    have e' : b = a := hA b (by rw [q]; simp)
    subst e'
    rw [hK (by rw [q]; simp)] at e; cases e)
  have hM : Mod K mg (hidT s₁.heap H) := ⟨hKb, nsK hns, ⟨mb, nsK hb, hbb⟩, let ⟨mc, h1, h2⟩ := hlim; ⟨mc, nsK h1, h2⟩⟩
  have e0 : Env0 P w K mg (hidT s₁.heap H) callerA [] s₁ H := ⟨rfl, hM, fun b o e => of_hidT e, Nat.le_of_eq (hidT_size _ _), trivial, fun b hb => absurd (show b ∈ ([] : List Addr) from hb) (by simp), hok, .of_eq hg⟩
  refine codeAny_mono ((F _ hKb (nsK hns)).run callerA [] s₁ H ⟨[.ref a], []⟩ [.ref a] [.ref a] _ _ hr e0 (hbind s₁ (.ref a)) (.cons rfl .nil) (hsp H hO hS)) fun r s' h => ?_
  cases r with
  | error e => exact (hCX H e s' h).elim
  | ok fl =>
   cases fl with
   | next => exact False.elim h
   | brk => exact False.elim h
   | cont => exact False.elim h
   | ret u =>
    obtain ⟨v, H', os, bare, un, hok', r', q⟩ := h
    have q' : v = .bl true := q
    subst q'
    obtain rfl : u = Value.bool true := r'
    refine ⟨rfl, OldK.of_keep fun b o e => ?_, os, bare⟩
    cases q : H b with
    | none => exact un.keep b o e q (by intro z; exact absurd (show b ∈ ([] : List Addr) from z) (by simp)) (by simp)
    | some u =>
     rcases hO b with z | ⟨ob, xs, z⟩
     ·rw [q] at z; cases z
     ·have z2 := un.frzs b ob _ z
      obtain ⟨e1, _⟩ := hok b _ z
      obtain ⟨e2, _⟩ := hok' b _ z2
      rw [e] at e1; cases e1
      exact e2
 cases hk : K.lookup a with
 | some o =>
  have e := KX a o hk
  rw [ha] at e
  cases e
  refine core (fun _ => none) (fun _ => .inl rfl) (.inr ⟨_, vs.toArray, _, hk, rfl, rfl, rfl, by rw [List.size_toArray, lenV]; exact hl, by simpa using rv⟩) (fun b u z => by have z' : (none : Option HO) = some u := z; cases z') (fun b z => absurd rfl z) fun z => absurd rfl z
 | none =>
  refine core (fun b => if b = a then some (.frz { cls := .type "list", data := .seq vs.toArray } (.lst (ns.map V.int))) else none) (fun b => ?_) (.inl (.inr ⟨{ cls := .type "list", data := .seq vs.toArray }, if_pos rfl⟩)) (fun b u z => ?_) (fun b z => ?_) fun _ => hk
  ·by_cases hb : b = a
   ·exact .inr ⟨_, _, if_pos hb⟩
   ·exact .inl (if_neg hb)
  ·by_cases hb : b = a
   ·have z' := (if_pos hb).symm.trans z
    cases z'
    subst hb
    exact ⟨ha, by rw [List.length_map]; exact hl, vs, _, rv, ha⟩
   ·have z' := (if_neg hb).symm.trans z
    cases z'
  ·by_cases hb : b = a
   ·exact hb
   ·exact absurd (if_neg hb) z
end L2
namespace L2
open PySem PySem.Spec PyProof.Rows
theorem walk_of {l : PySem.W.OpenLaw} {n k : Nat} {q : Program} {loose : List Str} {XP : (Str -> Option Value) -> Heap -> Prop} {YP : World -> Heap -> Prop} {d : DefRec} {K : Params -> PySem.W.Frag} {CX : World -> CXT} {sp : World -> Sp} {x : Str}
  (hn : l.most = some n) (hn2 : n <= sizeLine) (hdf : d.params.defaults = []) (hr : Room k callerA)
  (hY : ∀ (w : World) (h : Heap), YP w h -> (K w.params).In h)
  (F : ∀ (w : World) (mg : Str -> Option Value) (fa : Addr) (h : Heap), (K w.params).In h -> h.Ns mainGlobals mg -> mg d.name = some (.ref fa) ->
   ∃ fd : FuncData, (∀ (s : Shared) (u : Value), BindsTo s fd ⟨[u], []⟩ [(x, u)]) /\
    ∀ base : Heap, (K w.params).In base -> base.Ns mainGlobals mg -> FnOk l.prog w (K w.params) mg base (CX w) k fa fd [x] (sp w))
  (hsp : ∀ (w : World) (H : Hp) (a : Addr) (ns : List Int), ns.length <= n -> Only H -> SqL (K w.params) H a (ns.map V.int) -> sp w [.ref a] H (fun v _ => v = .bl true) fun _ _ _ => False)
  (hCX : ∀ (w : World) (H : Hp) (s : Shared) (e : Value) (s' : Shared), CX w [] H s (fun _ _ _ => False) e s' -> False) :
  PySem.W.WalkO q loose XP YP l.row.toRowW d [] (fun f vs => PySem.call f vs) := by
 refine Att.attach_call hn hdf fun w s₀ s₁ mg mb fa o pm cd doc a vs ns G Y ho hd hcd hmg hobj hints hlen hg => ?_
 have KX := hY w _ Y
 obtain ⟨fd, hb, hF⟩ := F w mg fa _ KX G.T.g hmg
 exact law_call KX G.T.g G.T.b G.T.builtins G.T.nolimit hg hobj hints (Nat.le_trans hlen hn2) hr hF hb (fun H hO hS => hsp w H a ns hlen hO hS) fun H e s' => hCX w H s₁ e s'
end L2
namespace L2
open PySem PySem.Spec PyProof.Rows
def defArgs (s : Stmt) : Arguments := match s with
 | .FunctionDef _ a _ _ _ _ _ _ _ _ => a
 | _ => { posonlyargs := [], args := [], vararg := none, kwonlyargs := [], kw_defaults := [], kwarg := none, defaults := [] }
def defBody (s : Stmt) : List Stmt := match s with
 | .FunctionDef _ _ b _ _ _ _ _ _ _ => b
 | _ => []
def defScope (s : Stmt) : Scope := match s with
 | .FunctionDef _ _ _ _ _ _ sc _ _ _ => sc
 | _ => { kind := .function, names := [], isGenerator := false, isCoroutine := false }
abbrev CX0 : CXT := fun _ _ _ _ _ _ => False
abbrev E0 : XK := fun _ _ _ => False
theorem pass0 {X : Cx} : Passes CX0 X E0 := fun _ _ _ _ _ _ _ h => h.elim
structure Fun (K : PySem.W.Frag) (x qual : Str) (st : Stmt) (f : Addr) (fd : FuncData) : Prop where
 ex : ∃ (oc : Value) (od : Option Addr) (kV doc pm : Value) (an : Option Addr) (cdv ct : Value) (osl : Array (Option Value)),
  fd = PySem.W.fnOf x qual (defArgs st) (defBody st) (defScope st) .none kV doc pm an cdv ct /\ K.lookup f = some ⟨oc, od, .func fd, osl⟩ /\ PySem.W.codeIn K cdv qual = true
 kp : PySem.W.keepIn K (.ref f) = true
section
variable {P : Program} {w : World} {K : PySem.W.Frag} {mg : Str -> Option Value} {base : Heap}
theorem Fun.ok {x qual : Str} {st : Stmt} {f : Addr} {fd : FuncData} {N ps : List Str} {k : Nat} {sp : Sp} (F : Fun K x qual st f fd) (S : FnScope N ps (defScope st)) (len : ∀ vs H Q E, sp vs H Q E -> vs.length = ps.length)
  (hbody : ∀ (cdv : Value) (A : Around) (outer : List Env) (s : Shared) (H : Hp) (vs : List V) (Q : VK) (E : XK), Room k (A.deeper (envOfC qual (defScope st) s.heap.objs.size f cdv)) -> sp vs H Q E ->
   ∃ t, PSs (cxOf CX0 P w K mg base N qual (defScope st) f cdv A outer s H E).nox (defBody st) t /\ t { nx := fun _ H' => Q .non H', rt := Q } (start N vs) H) : FnOk P w K mg base CX0 (k + 1) f fd ps sp := by
 obtain ⟨oc, od, kV, doc, pm, an, cdv, ct, osl, rfl, lk, hcd⟩ := F.ex
 refine fn_of lk hcd S len fun A outer s H vs Q E hr hsp => ?_
 obtain ⟨t, h, q⟩ := hbody cdv A outer s H vs Q E hr hsp
 exact ⟨t, h.nox, q⟩
theorem Fun.binds {x qual : Str} {st : Stmt} {f : Addr} {fd : FuncData} {ps : List Str} (F : Fun K x qual st f fd)
  (h : ∀ (kV doc pm : Value) (an : Option Addr) (cdv ct : Value) (us : List Value), us.length = ps.length -> bindArgs (PySem.W.fnOf x qual (defArgs st) (defBody st) (defScope st) .none kV doc pm an cdv ct) ⟨us, []⟩ = pure (ps.zip us)) : Binds K fd ps [] := by
 obtain ⟨oc, od, kV, doc, pm, an, cdv, ct, osl, rfl, lk, hcd⟩ := F.ex
 exact .all (h kV doc pm an cdv ct)
theorem fun_mk {x qual : Str} {st : Stmt} {f : Addr} {oc : Value} {od an : Option Addr} {osl : Array (Option Value)} {kV doc pm cdv ct : Value} (l : K.lookup f = some ⟨oc, od, .func (PySem.W.fnOf x qual (defArgs st) (defBody st) (defScope st) .none kV doc pm an cdv ct), osl⟩)
  (c : PySem.W.codeIn K cdv qual = true) (k : PySem.W.keepIn K (.ref f) = true) : Fun K x qual st f (PySem.W.fnOf x qual (defArgs st) (defBody st) (defScope st) .none kV doc pm an cdv ct) := ⟨⟨oc, od, kV, doc, pm, an, cdv, ct, osl, rfl, l, c⟩, k⟩
end
section
variable {X : Cx}
theorem pv (i : Nat) {x : Str} {pos : Pos} (hN : X.N[i]? = some x := by rfl) (hv : Vis X.env.scope x := by first | exact Or.inl rfl | exact Or.inr (Or.inl rfl) | exact Or.inr (Or.inr rfl)) (hd : (x == ("__debug__" : Str)) = false := by decide)
  (hcd : (x == ("__classdict__" : Str)) = false := by decide) : PE X (.Name x pos) (tVar i) := pe_var hN hv hd hcd
end
theorem iteF {A B : Prop} (h : B) : if false = true then A else B := by
 rw [if_neg Bool.false_ne_true]
 exact h
theorem iteT {A B : Prop} (h : A) : if true = true then A else B := by
 rw [if_pos rfl]
 exact h
theorem ite2 {c A B : Prop} [Decidable c] (h1 : c -> A) (h2 : ¬ c -> B) : if c then A else B := by
 by_cases h : c
 ·rw [if_pos h]
  exact h1 h
 ·rw [if_neg h]
  exact h2 h
def Same (H H' : Hp) : Prop := ∀ b o, H b = some o -> H' b = some o
theorem Same.refl (H : Hp) : Same H H := fun _ _ h => h
theorem Same.trans {H H1 H2 : Hp} (a : Same H H1) (b : Same H1 H2) : Same H H2 := fun c o h => b c o (a c o h)
theorem Same.free {H H' : Hp} (e : Same H H') {l : Addr} (h : H' l = Option.none) : H l = Option.none := by
 cases q : H l with
 | none => rfl
 | some o =>
  rw [e l o q] at h
  cases h
theorem Same.seq {K : PySem.W.Frag} {H H' : Hp} {a : Addr} {xs : List V} (e : Same H H') (h : SqL K H a xs) : SqL K H' a xs := by
 rcases h with (h | ⟨o, h⟩) | h
 ·exact .inl (.inl (e _ _ h))
 ·exact .inl (.inr ⟨o, e _ _ h⟩)
 ·exact .inr h
end L2
set_option Elab.async false
set_option linter.all false
set_option maxRecDepth 100000
namespace L2
open PySem PySem.Spec PyProof.Rows
def clGo (env : Env) : List (Str × NameKind) -> List (Str × Addr) -> List (Str × Addr)
 | [], acc => acc
 | (n, k) :: r, acc => if k == .free then clGo env r ((n, (env.cells.lookup n).getD 0) :: acc) else clGo env r acc
def clOf (scope : Scope) (env : Env) : List (Str × Addr) := clGo env scope.names []
theorem clGo_mem {env : Env} {y : Str} {c : Addr} : ∀ {names : List (Str × NameKind)} {acc : List (Str × Addr)}, (y, c) ∈ clGo env names acc -> (y, c) ∈ acc \/ ((y, NameKind.free) ∈ names /\ c = (env.cells.lookup y).getD 0)
 | [], _, h => .inl h
 | (n, k) :: r, acc, h => by
  unfold clGo at h
  split at h
  ·rename_i hk
   have hk : k = .free := by simpa using hk
   rcases clGo_mem h with h1 | ⟨h1, h2⟩
   ·rcases List.mem_cons.mp h1 with h1 | h1
    ·cases h1
     exact .inr ⟨by rw [hk]; exact List.mem_cons_self, rfl⟩
    ·exact .inl h1
   ·exact .inr ⟨List.mem_cons_of_mem _ h1, h2⟩
  ·rcases clGo_mem h with h1 | ⟨h1, h2⟩
   ·exact .inl h1
   ·exact .inr ⟨List.mem_cons_of_mem _ h1, h2⟩
theorem clGo_keep {env : Env} {y : Str} : ∀ {names : List (Str × NameKind)} {acc : List (Str × Addr)}, (acc.lookup y).isSome = true -> ((clGo env names acc).lookup y).isSome = true
 | [], _, h => h
 | (n, k) :: r, acc, h => by
  unfold clGo
  split
  ·refine clGo_keep ?_
   rw [List.lookup_cons]
   split
   ·rfl
   ·exact h
  ·exact clGo_keep h
theorem clGo_has {env : Env} {y : Str} : ∀ {names : List (Str × NameKind)} {acc : List (Str × Addr)}, (y, NameKind.free) ∈ names -> ((clGo env names acc).lookup y).isSome = true
 | [], _, h => by simp at h
 | (n, k) :: r, acc, h => by
  unfold clGo
  rcases List.mem_cons.mp h with h1 | h1
  ·cases h1
   rw [if_pos (by rfl)]
   refine clGo_keep ?_
   rw [List.lookup_cons]
   simp
  ·split
   ·exact clGo_has h1
   ·exact clGo_has h1
theorem closure_go {env : Env} : ∀ (names : List (Str × NameKind)) (acc : List (Str × Addr)), (∀ p ∈ names, p.2 = .free -> (env.cells.lookup p.1).isSome = true) ->
  (forIn names acc (fun (x : Str × NameKind) cs => (if x.2 == .free then do let c <- cellOf env x.1; pure (ForInStep.yield ((x.1, c) :: cs)) else pure (ForInStep.yield cs) : Sem (ForInStep (List (Str × Addr)))))) = (pure (clGo env names acc) : Sem _)
 | [], acc, _ => by rw [List.forIn_nil]; rfl
 | (n, k) :: r, acc, h => by
  rw [List.forIn_cons]
  unfold clGo
  cases hk : (k == NameKind.free) with
  | false => exact closure_go r acc fun p hp => h p (List.mem_cons_of_mem _ hp)
  | true =>
   have hk' : k = .free := by simpa using hk
   have h1 := h (n, k) List.mem_cons_self hk'
   have e : cellOf env n = (pure ((env.cells.lookup n).getD 0) : Sem Addr) := by
    unfold cellOf
    cases e : env.cells.lookup n with
    | none => rw [e] at h1; cases h1
    | some c => rfl
   show ((do let c <- cellOf env n; pure (ForInStep.yield ((n, c) :: acc))) >>= _ : Sem _) = _
   rw [e]
   exact closure_go r ((n, (env.cells.lookup n).getD 0) :: acc) fun p hp => h p (List.mem_cons_of_mem _ hp)
theorem closure_eq {scope : Scope} {env : Env} (h : ∀ p ∈ scope.names, p.2 = .free -> (env.cells.lookup p.1).isSome = true) : closureFor scope env = pure (clOf scope env) := by
 have e := closure_go (env := env) scope.names [] h
 unfold closureFor clOf
 first
  | (simp only [bind_pure]; exact e)
  | exact e
  | (rw [<- e]; rfl)
theorem relabel_free {env : Env} : ∀ {names : List (Str × NameKind)} {x : Str}, names.lookup x = some .free ->
  (names.map fun (n, k) => if (k == NameKind.free && env.scope.kind == .function && env.kindOf n == some .cell) then (n, NameKind.cell) else (n, k)).lookup x = some .cell \/
  (names.map fun (n, k) => if (k == NameKind.free && env.scope.kind == .function && env.kindOf n == some .cell) then (n, NameKind.cell) else (n, k)).lookup x = some .free
 | [], _, h => by simp at h
 | (n, k) :: r, x, h => by
  have ih := @relabel_free env r x
  show List.lookup x ((if (k == NameKind.free && env.scope.kind == .function && env.kindOf n == some .cell) = true then (n, NameKind.cell) else (n, k)) :: _) = _ \/ List.lookup x ((if (k == NameKind.free && env.scope.kind == .function && env.kindOf n == some .cell) = true then (n, NameKind.cell) else (n, k)) :: _) = _
  cases hx : x == n with
  | true =>
   simp only [List.lookup_cons, hx] at h
   cases h
   by_cases hc : (NameKind.free == NameKind.free && env.scope.kind == .function && env.kindOf n == some .cell) = true
   ·rw [if_pos hc]; exact .inl (by simp only [List.lookup_cons, hx])
   ·rw [if_neg hc]; exact .inr (by simp only [List.lookup_cons, hx])
  | false =>
   simp only [List.lookup_cons, hx] at h
   by_cases hc : (k == NameKind.free && env.scope.kind == .function && env.kindOf n == some .cell) = true
   ·rw [if_pos hc]; simp only [List.lookup_cons, hx]; exact ih h
   ·rw [if_neg hc]; simp only [List.lookup_cons, hx]; exact ih h
theorem relabel_mem {env : Env} {names : List (Str × NameKind)} {x : Str} {k : NameKind} (h : (x, k) ∈ (names.map fun (n, k) => if (k == NameKind.free && env.scope.kind == .function && env.kindOf n == some .cell) then (n, NameKind.cell) else (n, k))) :
  (x, k) ∈ names \/ (x, NameKind.free) ∈ names := by
 obtain ⟨⟨n, k'⟩, h1, h2⟩ := List.mem_map.mp h
 dsimp only at h2
 split at h2
 ·rename_i hc
  cases h2
  have : k' = .free := by
   cases k' <;> first | rfl | (exfalso; revert hc; simp)
  subst this
  exact .inr h1
 ·cases h2
  exact .inl h1
def FvOk (X : Cx) (scope : Scope) : List (Str × Nat) -> Prop
 | [] => True
 | p :: r => (X.N[p.2]? = some p.1 /\ (X.env.scope.names.lookup p.1 = some .cell \/ X.env.scope.names.lookup p.1 = some .free) /\ scope.names.lookup p.1 = some .free) /\ FvOk X scope r
theorem FvOk.get {X : Cx} {scope : Scope} : ∀ {fv : List (Str × Nat)} {j : Nat} {p : Str × Nat}, FvOk X scope fv -> fv[j]? = some p -> X.N[p.2]? = some p.1 /\ (X.env.scope.names.lookup p.1 = some .cell \/ X.env.scope.names.lookup p.1 = some .free) /\ scope.names.lookup p.1 = some .free
 | [], _, _, _, e => by simp at e
 | _ :: _, 0, _, h, e => by simp at e; subst e; exact h.1
 | _ :: _, j + 1, _, h, e => h.2.get (j := j) (by simpa using e)
structure CompOk (scope : Scope) (x : Str) (fv : List (Str × Nat)) : Prop where
 kind : scope.kind = .function
 nocell : ∀ y ∈ scope.names, y.2 ≠ .cell
 names : ∀ y ∈ scope.names, y.2 = .local -> scope.names.lookup y.1 = some .local
 hx : scope.names.lookup x = some .local
 fr : ∀ y ∈ scope.names, y.2 = .free -> y.1 ∈ fv.map (·.1)
 nd : (x :: fv.map (·.1)).Nodup
def PTl (X : Cx) (ifs : List Expr) (t : TT) : Prop :=
 ∀ (pins : List (Addr × Obj)) (s : Shared) (σ : St) (H : Hp) (Q : Bool -> Hp -> Prop), Inv X pins σ H s -> t σ H Q ->
  wpAny (model X.prog X.w) X.A (forIn ifs true fun c r => if r = true then do let ok <- isTrue c X.env (eval c X.env); pure (ForInStep.yield ok) else pure (ForInStep.yield r)) (TP X pins σ Q) X.xe s
def tYes : TT := fun _ H Q => Q true H
theorem ptl_nil {X : Cx} : PTl X [] tYes := fun _ _ _ H _ I h => wpAny_tests_nil ⟨H, I, h⟩
section
variable {X : Cx} {pins : List (Addr × Obj)} {σ : St} {scope : Scope} {x : Str} {fv : List (Str × Nat)} {elt iter : Expr} {ifs : List Expr} {px pos : Pos} {tt : TT} {te : TE}
end
end L2
set_option Elab.async false
set_option linter.all false
set_option maxRecDepth 100000
namespace L2
open PySem PySem.Spec PyProof.Rows
section
variable {κ : Type} [DecidableEq κ]
end
section
variable {P : Program} {w : World} {H : Hp} {h : Heap} {a : Addr}
end
section
variable {X : Cx} {pins : List (Addr × Obj)} {σ : St} {H : Hp} {s : Shared} {a : Addr} {y v : V} {u r : Value} {o : Option V} {A : Around} {E : Value -> Shared -> Prop}
end
section
variable {X : Cx} {pins : List (Addr × Obj)} {σ : St} {H : Hp} {s : Shared} {a : Addr} {kvs : List (Key × V)} {k : Key} {u : Value} {A : Around} {E : Value -> Shared -> Prop}
end
section
variable {X : Cx} {o i e value : Expr} {pos pos' tpos : Pos} {td ty tv : TE}
end
section
variable {X : Cx} {pos : Pos}
end
structure M1 (X : Cx) (o : Expr) (m : Str) (apos : Pos) (e : Expr) (cpos : Pos) : Prop where
 base : attributeBase o m X.env (eval o X.env) = eval o X.env
 few : ((backTo cpos (starEach [e] X.env)).all (fun x => !x.1) && (backToKw cpos (keywordEach [] X.env)).all (fun x => x.1.isSome)
  && decide (([e] : List Expr).length + ([] : List Keyword).length + (if ([] : List Keyword).isEmpty then 0 else 1) < 30)) = true
 line : (apos.endLine == cpos.line) = true
 trees : backTo cpos (starEach [e] X.env) = [(false, eval e X.env)]
structure M2 (X : Cx) (o : Expr) (m : Str) (apos : Pos) (e f : Expr) (cpos : Pos) : Prop where
 base : attributeBase o m X.env (eval o X.env) = eval o X.env
 few : ((backTo cpos (starEach [e, f] X.env)).all (fun x => !x.1) && (backToKw cpos (keywordEach [] X.env)).all (fun x => x.1.isSome)
  && decide (([e, f] : List Expr).length + ([] : List Keyword).length + (if ([] : List Keyword).isEmpty then 0 else 1) < 30)) = true
 line : (apos.endLine == cpos.line) = true
 trees : backTo cpos (starEach [e, f] X.env) = [(false, eval e X.env), (false, eval f X.env)]
section
variable {X : Cx} {pins : List (Addr × Obj)} {σ : St} {H : Hp} {s : Shared} {a : Addr} {y d : V} {u r : Value} {o : Option V} {A : Around} {E : Value -> Shared -> Prop}
end
section
variable {X : Cx} {o e f : Expr} {apos cpos : Pos} {td ty tx : TE}
end
section
variable {X : Cx} {pins : List (Addr × Obj)} {σ : St} {H : Hp} {s : Shared} {a : Addr} {kvs : List (Key × V)} {A : Around} {E : Value -> Shared -> Prop}
end
section
variable {X : Cx} {pins : List (Addr × Obj)} {σ : St} {H : Hp} {s : Shared} {a : Addr} {y : V} {u : Value} {A : Around} {E : Value -> Shared -> Prop}
end
end L2
set_option Elab.async false
set_option linter.all false
set_option maxRecDepth 100000
namespace L2
open PySem PySem.Spec PyProof.Rows
def compOkT (scope : Scope) (xs : List Str) (fv : List (Str × Nat)) : Bool :=
 (scope.kind == .function) && (scope.names.all fun y => y.2 != .cell) && (scope.names.all fun y => y.2 != .local || scope.names.lookup y.1 == some .local) && (xs.all fun x => scope.names.lookup x == some .local) &&
 (scope.names.all fun y => y.2 != .free || (fv.map (·.1)).contains y.1) && decide ((xs ++ fv.map (·.1)).Nodup)
structure CompOkT (scope : Scope) (xs : List Str) (fv : List (Str × Nat)) : Prop where
 kind : scope.kind = .function
 nocell : ∀ y ∈ scope.names, y.2 ≠ .cell
 names : ∀ y ∈ scope.names, y.2 = .local -> scope.names.lookup y.1 = some .local
 hx : ∀ x ∈ xs, scope.names.lookup x = some .local
 fr : ∀ y ∈ scope.names, y.2 = .free -> y.1 ∈ fv.map (·.1)
 nd : (xs ++ fv.map (·.1)).Nodup
theorem compOkT_of {scope : Scope} {xs : List Str} {fv : List (Str × Nat)} (h : compOkT scope xs fv = true) : CompOkT scope xs fv := by
 unfold compOkT at h
 simp only [Bool.and_eq_true, List.all_eq_true, Bool.or_eq_true, decide_eq_true_eq, bne_iff_ne, beq_iff_eq, List.contains_iff_mem, ne_eq] at h
 obtain ⟨⟨⟨⟨⟨h1, h2⟩, h3⟩, h4⟩, h5⟩, h6⟩ := h
 exact ⟨h1, h2, fun y hy hl => (h3 y hy).resolve_left fun z => z hl, h4, fun y hy hl => (h5 y hy).resolve_left fun z => z hl, h6⟩
def cxT (X : Cx) (scope : Scope) (xs : List Str) (fv : List (Str × Nat)) (C : Addr) (s₀ : Shared) (H₀ : Hp) (ex : List Addr) (pn : List (Addr × Obj)) : Cx :=
 { X with N := xs ++ fv.map (·.1), s₀ := s₀, H₀ := H₀, env := compEnvC scope (clOf scope X.env) C X.env, outer := X.stack, stack := X.stack, ex := ex, fn := fun _ => false, pn := pn, xe := fun _ _ => False }
def ρT (xs : List Str) (fv : List (Str × Nat)) (σ : St) : St := xs.map (fun _ => none) ++ fv.map fun p => (σ[p.2]?).join
def KeepT (xs : List Str) (a b : St) : Prop := b.drop xs.length = a.drop xs.length
theorem keepT_of {xs : List Str} {fv : List (Str × Nat)} {σ b : St} (h : KeepT xs (ρT xs fv σ) b) {j : Nat} {v : V} (e : (ρT xs fv σ)[j]? = some (some v)) : b[j]? = some (some v) := by
 unfold KeepT at h
 by_cases hj : j < xs.length
 ·unfold ρT at e
  rw [List.getElem?_append_left (by simpa using hj), List.getElem?_map] at e
  cases q : xs[j]? with
  | none => rw [q] at e; cases e
  | some y => rw [q] at e; cases e
 ·have ej : j = xs.length + (j - xs.length) := by omega
  have e1 : (ρT xs fv σ).drop xs.length = b.drop xs.length := h.symm
  rw [ej, <- List.getElem?_drop] at e
  rw [ej, <- List.getElem?_drop, <- e1]
  exact e
abbrev TB := Addr -> St -> Hp -> (Hp -> Prop) -> Prop
def PB (X : Cx) (body : Addr -> Env -> Sem Unit) (tb : TB) : Prop :=
 ∀ (pins : List (Addr × Obj)) (s : Shared) (σ : St) (H : Hp) (D : Addr) (N : Hp -> Prop), Inv X pins σ H s -> tb D σ H N -> wpAny (model X.prog X.w) X.A (body D X.env) (fun _ s' => ∃ H', Inv X pins σ H' s' /\ N H') X.xe s
def wCompT (o0 : HO) (xs : List Str) (fv : List (Str × Nat)) (g : TG) (tt : TT) (tb : TB) (σ : St) (J : It) (H1 : Hp) (Q : VK) : Prop :=
 ∀ D, H1 D = none -> ∃ W : Nat -> Nat -> Hp -> Prop, (∃ m, W 0 m (upd H1 D o0)) /\ ∀ i m H, W i m H ->
  (J.stop i H /\ Q (.ref D) H) \/ (J.go i H /\ ∃ N : Hp -> Prop, (∀ H', N H' -> ∃ m', m' < m /\ W (i + 1) m' H') /\ ∀ x H', J.yld i H x H' -> g x (ρT xs fv σ) H' fun σ2 H2 => KeepT xs (ρT xs fv σ) σ2 /\ tt σ2 H2 fun b H3 =>
   if b = true then tb D σ2 H3 N else N H3)
def tCompT (o0 : HO) (wi : TI) (xs : List Str) (fv : List (Str × Nat)) (g : TG) (tt : TT) (tb : TB) : TE := fun σ H Q => wi σ H fun J H1 => wCompT o0 xs fv g tt tb σ J H1 Q
def NewAcc (X : Cx) (newAcc : Sem Value) (o0 : HO) : Prop :=
 ∀ (pins : List (Addr × Obj)) (σ : St) (H : Hp) (s : Shared) (E : Value -> Shared -> Prop) (Q : Value -> Shared -> Prop), Inv X pins σ H s ->
  (∀ s', Inv X pins σ (upd H s.heap.objs.size o0) s' -> s'.heap.objs.size = s.heap.objs.size + 1 -> (∀ b o, s.heap.get? b = some o -> s'.heap.get? b = some o) -> Q (.ref s.heap.objs.size) s') -> wpAny (model X.prog X.w) X.A newAcc Q E s
section
variable {X : Cx} {pins : List (Addr × Obj)} {σ : St} {scope : Scope} {xs : List Str} {fv : List (Str × Nat)} {e tg iter : Expr} {ifs : List Expr} {pos : Pos} {tt : TT} {tb : TB} {g : TG} {o0 : HO} {body : Addr -> Env -> Sem Unit} {newAcc : Sem Value}
theorem comp_blockT {s₂ : Shared} {H2 : Hp} {it : Addr} {fp : List Addr} {tn : Nat -> Heap -> Prop} {J : It} {Q : VK} {E : Value -> Shared -> Prop} {RR : Value -> Addr -> Result -> Shared -> Prop}
  (hc : X.calm = true) (S : CompOkT scope xs fv) (hv : FvOk X scope fv)
  (ht : ∀ C s₀ H₀ ex pn, PTl (cxT X scope xs fv C s₀ H₀ ex pn) ifs tt) (hg : ∀ C s₀ H₀ ex pn, PG (cxT X scope xs fv C s₀ H₀ ex pn) tg g) (he : ∀ C s₀ H₀ ex pn, PB (cxT X scope xs fv C s₀ H₀ ex pn) body tb) (hnew : NewAcc X newAcc o0)
  (hund : ∀ (it acc : Value) (env : Env), X.A.under (.compLoop e 0 it acc env) = X.A) (hden : ∀ (it acc : Value) (env : Env), (model X.prog X.w).den (.compLoop e 0 it acc env) = (compTurn e 0 it acc env).onRaise (fun z => do noteFrame z env; theTreesLotGoes z))
  (hturn : ∀ (it : Value) (D : Addr) (env : Env), compTurn e 0 it (.ref D) env = (do
   standAt iter.pos
   match <- pyNext it with
   | none => pure (.done .next)
   | some v =>
    letOwnedTupleGo tg it v
    assign tg env v
    let mut ok := true
    for c in ifs do
     if ok then ok <- isTrue c env (eval c env)
    if ok then
     body D env
    again (.compLoop e 0 it (.ref D) env)))
  (hstart : ∀ (it acc : Value) (env : Env) (R : Result -> Shared -> Prop) (s : Shared), codeAny (model X.prog X.w) X.A (.compLoop e 0 it acc env) R s -> wpAny (model X.prog X.w) X.A (pyIter it) (fun it' s' => codeAny (model X.prog X.w) X.A (.compLoop e 0 it' acc env) R s') (notedBy (model X.prog X.w) X.A env fun x s' => R (.error x) s') s ->
   codeAny (model X.prog X.w) X.A (.compStart e 0 it acc env) R s)
  (I2 : Inv X pins σ H2 s₂) (T : Turn X.prog X.w X.K tg J fp it tn) (st2 : tn 0 s₂.heap) (f2 : ∀ b ∈ fp, FpOk X pins H2 b) (hw : wCompT o0 xs fv g tt tb σ J H2 Q)
  (hRR : ∀ D C s' H' m, Inv X pins σ H' s' -> Q (.ref D) H' -> s'.heap.Ns C m -> FpOk X pins H' C -> RR (.ref D) C (.ok .next) s') :
  wpAny (model X.prog X.w) X.A newAcc (fun acc s₃ => wpAny (model X.prog X.w) X.A (newFunctionEnv scope X.env.globals (clOf scope X.env) [] X.env.qual none .none (some X.env)) (fun cenv s₄ =>
   codeAny (model X.prog X.w) X.A (.compStart e 0 (.ref it) acc { cenv with scope := relabel scope X.env }) (RR acc cenv.locals) s₄) E s₃) E s₂ := by
 have kap : ∀ y : Str, (y, NameKind.free) ∈ scope.names -> (X.env.kindOf y = some .cell \/ X.env.kindOf y = some .free) := fun y hy => by
  obtain ⟨p, hp, e⟩ := List.mem_map.mp (S.fr _ hy rfl)
  obtain ⟨j, hj⟩ := List.getElem?_of_mem hp
  have q := (hv.get hj).2.1
  dsimp only at e
  rw [e] at q
  exact q
 have clk : ∀ y c, (clOf scope X.env).lookup y = some c -> X.env.cells.lookup y = some c := fun y c e => by
  rcases clGo_mem (PySem.mem_of_lookup e) with z | ⟨z, w⟩
  ·simp at z
  ·obtain ⟨c', e'⟩ := I2.ok.has y (kap y z)
   rw [e'] at w ⊢
   rw [w]; rfl
 have hD0 : H2 s₂.heap.objs.size = none := I2.fresh
 refine hnew pins σ H2 s₂ E _ I2 fun s₃ I3 hsz3 old3 => ?_
 generalize hH3 : upd H2 s₂.heap.objs.size o0 = H3 at I3
 refine wpAny_newFunctionEnv S.nocell (by intro y hy; simp at hy) (fun h₁ hns₁ hsb₁ => ?_) S.kind
 have old4 : ∀ b o, s₃.heap.get? b = some o -> h₁.get? b = some o := fun b o e => hsb₁.extBut b o (Nat.ne_of_lt (Heap.lt_size e)) (Heap.get?_push_of_some _ e)
 have lt2 : ∀ b ∈ fp, b < s₂.heap.objs.size := fun b hb => by
  obtain ⟨o, e, _⟩ := T.obj _ _ st2 b hb
  exact Heap.lt_size e
 have okX : (cxT X scope xs fv s₃.heap.objs.size s₃ H3 fp (X.pn ++ pins)).Ok := by
  refine ⟨I2.ok.mod, ?_, I2.ok.glob, I2.ok.blt, Nat.le_refl _, fun y z c e1 e2 => ?_, fun y hy => ?_, fun y c z => ?_, I2.ok.hd, I2.ok.frames, .inl rfl, fun b hb => ?_, fun b o e => I3.bs b o e, Nat.le_trans I3.ok.bsz I3.sz, fun b o e hb => ?_, fun b hb z => ?_, I3.stack, fun b hb => I3.stkFree b hb⟩
  ·exact S.kind
  ·exact I2.ok.inj y z c (clk y c e1) (clk z c e2)
  ·have hy' : (y, NameKind.free) ∈ scope.names := by
    rcases hy with hy | hy
    ·rcases relabel_mem (PySem.mem_of_lookup hy) with z | z
     ·exact absurd rfl (S.nocell _ z)
     ·exact z
    ·rcases relabel_mem (PySem.mem_of_lookup hy) with z | z <;> exact z
   exact Option.isSome_iff_exists.mp (clGo_has (env := X.env) (acc := []) hy')
  ·cases z
  ·refine ⟨Nat.ne_of_lt (by rw [hsz3]; exact Nat.lt_succ_of_lt (lt2 b hb)), fun y c e => (f2 b hb).2.2.2.2.1 y c (clk y c e)⟩
  ·rcases (f2 b hb).2.2.2.1 with z | z
   ·exact I2.ok.noex b o e z
   ·exact absurd (Nat.lt_of_lt_of_le (Heap.lt_size e) (Nat.le_trans I2.ok.bsz z)) (Nat.lt_irrefl _)
  ·rcases List.mem_cons.mp (I2.stkSub b z) with w | w
   ·exact (f2 b hb).2.1 w
   ·exact (f2 b hb).2.2.1 w
 have C0 : H3 s₃.heap.objs.size = none := I3.fresh
 have I4 : Inv (cxT X scope xs fv s₃.heap.objs.size s₃ H3 fp (X.pn ++ pins)) [] (ρT xs fv σ) H3 { s₃ with heap := h₁, toks := s₃.toks + ([] : List (Str × Value)).length } := by
  refine ⟨okX, rfl, I3.bare, Un.kept old4, ⟨_, hns₁, fun i y v e1 e2 e3 => ?_⟩, fun y c e => ?_, C0, fun y c e => I3.freeC y c (clk y c e), fun p hp => ?_, I3.hok.kept old4, ?_⟩
  ·have hi : ¬ i < xs.length := fun hi => by
    have e2' := e2
    unfold ρT at e2'
    rw [List.getElem?_append_left (by simpa using hi), List.getElem?_map] at e2'
    cases q : xs[i]? with
    | none => rw [q] at e2'; cases e2'
    | some y => rw [q] at e2'; cases e2'
   obtain ⟨j, rfl⟩ : ∃ j, i = xs.length + j := ⟨i - xs.length, by omega⟩
   have e1' : (fv.map (·.1))[j]? = some y := by
    have q : (xs ++ fv.map (·.1))[xs.length + j]? = some y := e1
    rw [List.getElem?_append_right (by omega)] at q
    simpa using q
   have e2' : (fv.map fun p => (σ[p.2]?).join)[j]? = some (some v) := by
    have q : (xs.map (fun _ => (none : Option V)) ++ fv.map fun p => (σ[p.2]?).join)[xs.length + j]? = some (some v) := e2
    rw [List.getElem?_append_right (by simp)] at q
    simpa using q
   rw [List.getElem?_map] at e1' e2'
   cases ep : fv[j]? with
   | none => rw [ep] at e1'; cases e1'
   | some p =>
    rw [ep] at e1' e2'
    have ey : p.1 = y := by simpa using e1'
    have ev : (σ[p.2]?).join = some v := by simpa using e2'
    obtain ⟨q1, q2, q3⟩ := hv.get ep
    rw [ey] at q1 q2 q3
    have ev' : σ[p.2]? = some (some v) := by
     cases es : σ[p.2]? with
     | none => rw [es] at ev; cases ev
     | some w => rw [es] at ev; cases w with
      | none => cases ev
      | some w' => cases ev; rfl
    obtain ⟨m, hn, hl⟩ := I3.loc
    obtain ⟨u, r, lk⟩ := hl p.2 y v q1 ev' (by rcases q2 with z | z; exact .inr (.inl z); exact .inr (.inr z))
    refine ⟨u, r, .inr ⟨relabel_free q3, ?_⟩⟩
    obtain ⟨c, e⟩ := Option.isSome_iff_exists.mp (clGo_has (env := X.env) (acc := []) (PySem.mem_of_lookup q3))
    refine ⟨c, e, ?_⟩
    rcases lk with ⟨k, _⟩ | ⟨_, c', e', z⟩
    ·rcases q2 with w | w
     ·rw [show X.env.kindOf y = _ from w] at k; cases k
     ·rw [show X.env.kindOf y = _ from w] at k; cases k
    ·rw [clk y c e] at e'
     cases e'
     obtain ⟨o, ho, hd⟩ := z
     exact ⟨o, old4 _ _ ho, hd⟩
  ·obtain ⟨v, o, ho, hd⟩ := I3.cell y c (clk y c e)
   exact ⟨v, o, old4 _ _ ho, hd⟩
  ·have hp' : p ∈ X.pn ++ pins := by simpa [cxT] using hp
   obtain ⟨e, n, ne, nf, d⟩ := I3.pin p hp'
   exact ⟨old4 _ _ e, n, Nat.ne_of_lt (Heap.lt_size e), fun z => (List.mem_cons.mp (I3.stkSub p.1 z)).elim ne nf, d⟩
  ·simp [ρT, cxT]
 have fpX : ∀ {H' : Hp}, (∀ b ∈ fp, H' b = none) -> ∀ b ∈ fp, FpOk (cxT X scope xs fv s₃.heap.objs.size s₃ H3 fp (X.pn ++ pins)) [] H' b := fun hn b hb =>
  ⟨hn b hb, Nat.ne_of_lt (by show b < s₃.heap.objs.size; rw [hsz3]; exact Nat.lt_succ_of_lt (lt2 b hb)), okX.exfs b hb, .inl hb, (okX.exf b hb).2, fun p hp => by
   have hp' : p ∈ X.pn ++ pins := by simpa [cxT] using hp
   exact (f2 b hb).2.2.2.2.2 p hp'⟩
 have tn4 : tn 0 h₁ := T.keep _ _ _ st2 fun b _ o e => old4 b o (old3 b o e)
 have fr4 : ∀ b ∈ fp, H3 b = none := fun b hb => by
  rw [<- hH3, upd_ne (Nat.ne_of_lt (lt2 b hb))]
  exact (f2 b hb).1
 have back : ∀ {H' : Hp} {σ' : St} {pl : List (Addr × Obj)} {s' : Shared}, Inv (cxT X scope xs fv s₃.heap.objs.size s₃ H3 fp (X.pn ++ pins)) pl σ' H' s' -> Inv X pins σ H' s' /\ (∃ m, s'.heap.Ns s₃.heap.objs.size m) /\ FpOk X pins H' s₃.heap.objs.size := fun {H' σ' pl s'} I' => by
  refine ⟨I3.call' I'.os I'.base I'.hok I'.bare fun b hb => ⟨(f2 b hb).2.2.2.1, (f2 b hb).2.1, (f2 b hb).2.2.2.2.1, (f2 b hb).2.2.2.2.2⟩, ?_, I3.fpOk (Nat.le_refl _) I'.free⟩
  obtain ⟨m, hn, _⟩ := I'.loc
  exact ⟨m, hn⟩
 obtain ⟨W, ⟨m0, w0⟩, turn⟩ := hw s₂.heap.objs.size hD0
 rw [hH3] at w0
 have loop : codeAny (model X.prog X.w) X.A (.compLoop e 0 (.ref it) (.ref s₂.heap.objs.size) (cxT X scope xs fv s₃.heap.objs.size s₃ H3 fp (X.pn ++ pins)).env)
   (RR (.ref s₂.heap.objs.size) s₃.heap.objs.size) { s₃ with heap := h₁, toks := s₃.toks + ([] : List (Str × Value)).length } := by
  refine codeAny_loop rfl (fun n s' => ∃ i H', Inv (cxT X scope xs fv s₃.heap.objs.size s₃ H3 fp (X.pn ++ pins)) [] (ρT xs fv σ) H' s' /\ tn i s'.heap /\ (∀ b ∈ fp, H' b = none) /\ W i n H') (fun n s5 hI => ?_) m0 ⟨0, H3, I4, tn4, fr4, w0⟩
  obtain ⟨i, H5, I5, st5, fr5, w5⟩ := hI
  rw [hund, hden]
  refine wpAny_noted ?_
  rw [hturn]
  refine wpAny_bind (wpAny_standAt (wpAny_bind ?_))
  rcases turn i n H5 w5 with ⟨stop, qn⟩ | ⟨go, N, hN, step⟩
  ·refine wpAny_mono (T.done (cxT X scope xs fv s₃.heap.objs.size s₃ H3 fp (X.pn ++ pins)) rfl rfl rfl hc i [] s5 _ H5 (fun _ _ => False) I5 (fpX fr5) st5 stop) (fun r s6 ⟨hr, I6⟩ => ?_) fun _ _ z => z.elim
   subst hr
   obtain ⟨b1, ⟨m, b2⟩, b3⟩ := back I6
   exact wpAny_pure (hRR _ _ _ _ _ b1 qn b2 b3)
  ·refine wpAny_mono (T.item (cxT X scope xs fv s₃.heap.objs.size s₃ H3 fp (X.pn ++ pins)) rfl rfl rfl hc i [] s5 _ H5 (fun _ _ => False) I5 (fpX fr5) st5 go) (fun r s6 ⟨u, hr, h6⟩ => ?_) fun _ _ z => z.elim
   subst hr
   refine wpAny_bind (wpAny_mono h6 (fun _ s7 ⟨y, H7, I7, r7, y7, st7, fr7⟩ => ?_) fun _ _ z => z.elim)
   have I7' := I7.pinned (fpX fr7) (T.obj _ _ st7)
   refine wpAny_bind (wpAny_mono (hg _ _ _ _ _ _ s7 _ H7 y u _ I7' r7 (step y H7 y7)) (fun _ s8 ⟨σ8, H8, I8, keep8, q8⟩ => ?_) fun _ _ z => z.elim)
   have again : ∀ {H9 : Hp} {s9 : Shared}, Inv (cxT X scope xs fv s₃.heap.objs.size s₃ H3 fp (X.pn ++ pins)) ([] ++ pinsAt fp s7.heap) σ8 H9 s9 -> (∃ m', m' < n /\ W (i + 1) m' H9) ->
     ∃ m, m < n /\ ∃ i H', Inv (cxT X scope xs fv s₃.heap.objs.size s₃ H3 fp (X.pn ++ pins)) [] (ρT xs fv σ) H' s9 /\ tn i s9.heap /\ (∀ b ∈ fp, H' b = none) /\ W i m H' := fun {H9 s9} I9 ⟨m', hm, w9⟩ => by
    refine ⟨m', hm, i + 1, H9, (I9.unpinned).weak (by rw [I9.len]; simp [ρT, cxT]) (fun j v e => keepT_of keep8 e), T.keep _ _ _ st7 fun b hb o e => (I9.pin (b, o) (List.mem_append_right _ (List.mem_append_right _ (mem_pinsAt hb e)))).1, fun b hb => ?_, w9⟩
    obtain ⟨o, e, d⟩ := T.obj _ _ st7 b hb
    exact (I9.pin (b, o) (List.mem_append_right _ (List.mem_append_right _ (mem_pinsAt hb e)))).2.1
   refine wpAny_bind (wpAny_mono (ht _ _ _ _ _ _ s8 _ H8 _ I8 q8) (fun ok s9 ⟨H9, I9, q9⟩ => ?_) fun _ _ z => z.elim)
   cases ok with
   | false =>
    rw [if_neg (by simp)] at q9
    exact wpAny_pure ⟨rfl, again I9 (hN _ q9)⟩
   | true =>
    rw [if_pos rfl] at q9
    refine wpAny_bind (wpAny_mono (he _ _ _ _ _ _ s9 _ H9 _ _ I9 q9) (fun _ s11 ⟨H11, I11, q11⟩ => ?_) fun _ _ z => z.elim)
    exact wpAny_pure ⟨rfl, again I11 (hN _ q11)⟩
 exact hstart _ _ _ _ _ loop (T.self X.A 0 _ _ _ tn4 loop)
end
end L2
namespace L2
open PySem PySem.Spec PyProof.Rows
section
variable {X : Cx} {pins : List (Addr × Obj)} {σ : St} {H : Hp} {s : Shared} {scope : Scope} {xs : List Str} {fv : List (Str × Nat)} {elt kx vx tg iter : Expr} {ifs : List Expr} {pos : Pos} {tt : TT} {te tk tv : TE} {g : TG}
def tbL (te : TE) : TB := fun D σ H N => te σ H fun y H3 => ∃ ys, H3 D = some (.lst ys) /\ ys.length < sizeLine /\ N (upd H3 D (.lst (ys ++ [y])))
abbrev bodyL (elt : Expr) : Addr -> Env -> Sem Unit := fun D env => do let _ <- call (.builtin "list.append") [.ref D, <- eval elt env]
theorem pb_list (he : PE X elt te) : PB X (bodyL elt) (tbL te) := by
 intro pins s σ H D N I h
 refine wpAny_bind (thn (he pins s σ H _ I h) fun v s1 ⟨y, H1, I1, r1, ys, hD, hz, q⟩ => ?_)
 refine wpAny_bind (wpAny_mono (mt_append pins s1 σ H1 (.ref D) [y] (.ref D) [v] (fun _ H2 => H2 = upd H1 D (.lst (ys ++ [y]))) I1 rfl (.cons r1 .nil) ⟨_, ys, y, rfl, rfl, hD, hz, rfl⟩) (fun _ s2 ⟨_, H2, I2, _, e2⟩ => ?_) fun _ _ z => z)
 subst e2
 exact wpAny_pure ⟨_, I2, q⟩
theorem new_list : NewAcc X (newList []) (.lst []) := by
 intro pins σ H s E Q I h
 refine wpAny_newObj_type (h _ (I.lnew (t' := s.toks) (its := []) .nil (Nat.zero_le _)) (Heap.size_push ..) fun b o e => Heap.get?_push_of_some _ e)
theorem hclT (I : Inv X pins σ H s) (S : CompOkT scope xs fv) (hv : FvOk X scope fv) : closureFor scope X.env = pure (clOf scope X.env) := closure_eq fun p hp hk => by
 obtain ⟨q, hq, e⟩ := List.mem_map.mp (S.fr _ hp hk)
 obtain ⟨j, hj⟩ := List.getElem?_of_mem hq
 have z := (hv.get hj).2.1
 rw [e] at z
 exact Option.isSome_iff_exists.mpr (I.ok.has _ z)
theorem pe_compL {wi : TI} (hc : X.calm = true) (hs : compOkT scope xs fv = true) (hv : FvOk X scope fv) (hi : PI X tg iter wi) (hg : ∀ C s₀ H₀ ex pn, PG (cxT X scope xs fv C s₀ H₀ ex pn) tg g)
  (ht : ∀ C s₀ H₀ ex pn, PTl (cxT X scope xs fv C s₀ H₀ ex pn) ifs tt) (he : ∀ C s₀ H₀ ex pn, PE (cxT X scope xs fv C s₀ H₀ ex pn) elt te)
  (hf : ∀ x, foldedSetIterable iter X.env x = pure x := by intro _; rfl) : PE X (.ListComp elt [⟨tg, iter, ifs, 0⟩] scope pos) (tCompT (.lst []) wi xs fv g tt (tbL te)) := by
 intro pins s σ H Q I h
 have S := compOkT_of hs
 rw [eval_ListComp]
 refine wpAny_comprehension_free (use := none) rfl hf (hclT I S hv) S.kind S.names (thn (hi pins s σ H _ I h) fun v s1 h1 => thn h1 fun itv s2 h2 => ?_)
 obtain ⟨it, fp, tn, J, H2, e, I2, T, st2, f2, hw⟩ := h2
 subst e
 refine comp_blockT (e := .ListComp elt [⟨tg, iter, ifs, 0⟩] scope pos) (iter := iter) (RR := fun acc C => compPost (model X.prog X.w) X.A X.xe none (EP X pins σ Q) acc C) hc S hv ht hg (fun C s₀ H₀ ex pn => pb_list (he C s₀ H₀ ex pn)) new_list (fun _ _ _ => rfl) (fun _ _ _ => rfl) (fun it D env => compTurn_list ..) (fun _ _ _ _ _ a b => codeAny_compStart_list a b) I2 T st2 f2 hw ?_
 intro D C s' H' m I' q hn fC
 exact ⟨m, hn, fun h' hs' => ⟨.ref D, H', I'.turned (t' := s'.toks) (fun b o hb e => (hs'.2 b hb).trans e) fC.1 fC.2.1 fC.2.2.2.1 fC.2.2.2.2.1 fC.2.2.2.2.2, rfl, q⟩⟩
end
end L2
set_option Elab.async false
set_option linter.all false
set_option maxRecDepth 100000
namespace L2
open PySem PySem.Spec PyProof.Rows
end L2
set_option Elab.async false
set_option linter.all false
set_option maxRecDepth 100000
namespace L2
open PySem PySem.Spec PyProof.Rows
section
variable {P : Program} {w : World} {A : Around} {R : Result -> Shared -> Prop} {J S : Addr} {fp wr : List Addr} {n : Nat} {Pv : Nat -> Value -> Prop} {St : Nat -> Heap -> Prop}
end
end L2
set_option Elab.async false
set_option linter.all false
set_option maxRecDepth 100000
namespace L2
open PySem PySem.Spec PyProof.Rows
end L2
set_option Elab.async false
set_option linter.all false
set_option maxRecDepth 100000
namespace L2
open PySem PySem.Spec PyProof.Rows
open AutoSeq1 (wpAny_loadPart')
section
variable {prog : Program} {w : World} {A : Around} {E : Value -> Shared -> Prop} {s : Shared}
end
def iSeq (K : PySem.W.Frag) (tl : TE) : TI := fun σ H R => tl σ H fun x H1 => ∃ a, x = .ref a /\ ((∃ xs, SqL K H1 a xs) /\ R (Itl K a) H1 \/ (∃ xs, SqT K H1 a xs) /\ R (Itt K a) H1)
theorem pi_seq {X : Cx} {tg l : Expr} {tl : TE} (hl : PE X l tl) : PI X tg l (iSeq X.K tl) := by
 intro pins s σ H R I h
 refine thn (hl pins s σ H _ I h) fun v s1 ⟨x, H1, I1, r1, a, e, q⟩ => ?_
 subst e
 cases r1
 have fp : ∀ b ∈ [s1.heap.objs.size], FpOk X pins H1 b := fun b hb => by rw [List.mem_singleton.mp hb]; exact I1.fpOk (Nat.le_refl _) (I1.hok.fresh (Nat.le_refl _))
 rcases q with ⟨⟨xs, hq⟩, q⟩ | ⟨⟨xs, hq⟩, q⟩
 ·obtain ⟨its, rv, pl, hz⟩ := I1.list hq
  exact wpAny_pyIter_list pl.isList ⟨s1.heap.objs.size, [s1.heap.objs.size], _, _, H1, rfl, I1.kept (t' := s1.toks) fun b o e => Heap.get?_push_of_some _ e, turn_list a _, ⟨_, Heap.get?_push_size _ rfl, rfl, rfl⟩, fp, q⟩
 ·obtain ⟨its, rv, pl, hz⟩ := I1.tuple hq
  exact wpAny_pyIter_tuple (show s1.heap.IsTuple a its.toArray from pl) ⟨s1.heap.objs.size, [s1.heap.objs.size], _, _, H1, rfl, I1.kept (t' := s1.toks) fun b o e => Heap.get?_push_of_some _ e, turn_tuple a _, ⟨_, Heap.get?_push_size _ rfl, rfl, rfl⟩, fp, q⟩
end L2
set_option Elab.async false
set_option linter.all false
set_option maxRecDepth 100000
namespace L2
open PySem PySem.Spec PyProof.Rows
section
variable {X : Cx} {pins : List (Addr × Obj)} {σ : St} {H : Hp} {s : Shared}
theorem ty_kitx {x : V} {u t : Value} (I : Inv X pins σ H s) (rx : RelV x u) (ty : TyOf X.K H x t) : ∃ HH : Heap -> Prop, PySem.W.KitX X.K u t HH /\ HH s.heap /\ u ≠ .builtin "__main__.__loader__#opaque" := by
 cases ty with
 | non => cases (show u = Value.none from rx); exact ⟨_, PySem.W.kitx_none, True.intro, fun z => nomatch z⟩
 | bl y => cases (show u = Value.bool y from rx); exact ⟨_, PySem.W.kitx_bool, True.intro, fun z => nomatch z⟩
 | int i => obtain ⟨t, q⟩ := (show ∃ t, u = Value.int i t from rx); cases q; exact ⟨_, PySem.W.kitx_int, True.intro, fun z => nomatch z⟩
 | str y => obtain ⟨t, q⟩ := (show ∃ t, u = Value.str y t from rx); cases q; exact ⟨_, PySem.W.kitx_str, True.intro, fun z => nomatch z⟩
 | flt y => obtain ⟨t, q⟩ := (show ∃ t, u = Value.float y t from rx); cases q; exact ⟨_, PySem.W.kitx_float, True.intro, fun z => nomatch z⟩
 | @lst a xs ea =>
  cases (show u = Value.ref a from rx)
  obtain ⟨_, _, n, _, h1⟩ := (show ObjOk X.prog X.w H s.heap a (.lst xs) from I.hok a _ ea)
  exact ⟨_, PySem.W.kitx_list, ⟨_, h1, rfl⟩, fun z => nomatch z⟩
 | @frz a ob xs ea =>
  cases (show u = Value.ref a from rx)
  obtain ⟨_, _, _, n, _, h1⟩ := (show ObjOk X.prog X.w H s.heap a (.frz ob (.lst xs)) from I.hok a _ ea)
  exact ⟨_, PySem.W.kitx_list, ⟨_, h1, rfl⟩, fun z => nomatch z⟩
 | @tup a xs ea =>
  cases (show u = Value.ref a from rx)
  obtain ⟨_, _, _, p⟩ := (show ObjOk X.prog X.w H s.heap a (.tup xs) from I.hok a _ ea)
  obtain ⟨o, h1, h2, _⟩ := p
  exact ⟨_, PySem.W.kitx_tuple, ⟨o, h1, h2⟩, fun z => nomatch z⟩
 | @dK a kvs ea =>
  cases (show u = Value.ref a from rx)
  obtain ⟨_, _, vs, _, p⟩ := (show ObjOk X.prog X.w H s.heap a (.dK kvs) from I.hok a _ ea)
  obtain ⟨o, es, ep, h1, h2, _⟩ := p
  exact ⟨_, PySem.W.kitx_dict, ⟨o, h1, h2.1⟩, fun z => nomatch z⟩
 | @dT a kvs ea =>
  cases (show u = Value.ref a from rx)
  obtain ⟨_, _, xs, _, o, es, ep, h1, h2, _⟩ := (show ObjOk X.prog X.w H s.heap a (.dT kvs) from I.hok a _ ea)
  exact ⟨_, PySem.W.kitx_dict, ⟨o, h1, h2.1⟩, fun z => nomatch z⟩
 | @ins a C dx fs ea cl ha hn htk hm =>
  cases (show u = Value.ref a from rx)
  obtain ⟨mA, O, _⟩ := ins_get I.hok ea
  obtain ⟨od, J, _⟩ := O.look
  exact ⟨_, PySem.W.kitx_own (cl.get _) cl.hd ha hn htk hm, J, fun z => nomatch z⟩
theorem vals_ty : ∀ {cs : List String} {us : List Value}, Vals (cs.map V.ty) us -> us = cs.map Value.type
 | [], _, .nil => rfl
 | c :: cs, _, .cons r t => by rw [vals_ty t, show _ = Value.type c from r]; rfl
def rInstT (K : PySem.W.Frag) : List V -> Hp -> VK -> Prop := fun xs H Q => ∃ (x : V) (t : Value) (p : Addr) (cs : List String) (b : Bool), xs = [x, .ref p] /\ TyOf K H x t /\ H p = some (.tup (cs.map V.ty)) /\ PySem.W.kitAny K t (cs.map Value.type) = some b /\ Q (.bl b) H
theorem call_instT : CallR X (.builtin "isinstance") (rInstT X.K) := by
 intro pins s σ H xs us Q I r h
 obtain ⟨x, t, p, cs, b, rfl, ty, hp, e, q⟩ := h
 obtain ⟨u, w', rfl, r1, r2⟩ := vals2 r
 cases r2
 obtain ⟨HH, kx, hh, ne⟩ := ty_kitx I r1 ty
 obtain ⟨_, its, rv, ⟨oc, od, odt, osl⟩, h1, h2, n, h3⟩ := (show ObjOk X.prog X.w H s.heap p (.tup (cs.map V.ty)) from I.hok p _ hp)
 obtain rfl : oc = .type "tuple" := h2
 obtain rfl : odt = .seq its.toArray n := h3
 rw [<- vals_ty rv] at e
 exact PySem.W.kia_tup kx I.kIn hh h1 e ne fun tk => ⟨.bl b, H, I.tok _, rfl, q⟩
end
theorem compT_of {o0 : HO} {xs : List Str} {fv : List (Str × Nat)} {g : TG} {tt : TT} {tb : TB} {σ : St} {J : It} {H1 : Hp} {Q : VK} (n : Nat) (Pv : Nat -> Addr -> Hp -> Prop) (h0 : ∀ D, H1 D = none -> Pv 0 D (upd H1 D o0))
  (hgo : ∀ i D H, H1 D = none -> i < n -> Pv i D H -> J.go i H) (hst : ∀ D H, H1 D = none -> Pv n D H -> J.stop n H)
  (hs : ∀ i D H x H', H1 D = none -> i < n -> Pv i D H -> J.yld i H x H' -> g x (ρT xs fv σ) H' fun σ2 H2 => KeepT xs (ρT xs fv σ) σ2 /\ tt σ2 H2 fun b H3 => if b = true then tb D σ2 H3 (Pv (i + 1) D) else Pv (i + 1) D H3)
  (hd : ∀ D H, H1 D = none -> Pv n D H -> Q (.ref D) H) : wCompT o0 xs fv g tt tb σ J H1 Q := by
 intro D hD
 refine ⟨fun i m H => m = n - i /\ i <= n /\ Pv i D H, ⟨n, by simp, Nat.zero_le _, h0 D hD⟩, ?_⟩
 rintro i m H ⟨rfl, hi, p⟩
 by_cases hlt : i < n
 ·exact .inr ⟨hgo i D H hD hlt p, Pv (i + 1) D, fun H' p' => ⟨n - (i + 1), by omega, rfl, hlt, p'⟩, fun x H' y => hs i D H x H' hD hlt p y⟩
 ·obtain rfl : i = n := by omega
  exact .inl ⟨hst D H hD p, hd D H hD p⟩
theorem for_of {J : It} {g : TG} {tb : TS} {D : Ends} {σ : St} {H : Hp} (n : Nat) (Pv : Nat -> St -> Hp -> Prop) (h0 : Pv 0 σ H) (hgo : ∀ i σ H, i < n -> Pv i σ H -> J.go i H) (hst : ∀ σ H, Pv n σ H -> J.stop n H)
  (hs : ∀ i σ H x H', i < n -> Pv i σ H -> J.yld i H x H' -> g x σ H' fun σ2 H2 => tb { D with nx := Pv (i + 1), ct := Pv (i + 1), bk := D.nx } σ2 H2) (hd : ∀ σ H, Pv n σ H -> D.nx σ H) :
  ∃ W : Nat -> Nat -> St -> Hp -> Prop, (∃ m, W 0 m σ H) /\ ∀ i m σ H, W i m σ H ->
   (J.stop i H /\ D.nx σ H) \/ (J.go i H /\ ∃ N : St -> Hp -> Prop, (∀ σ' H', N σ' H' -> ∃ m', m' < m /\ W (i + 1) m' σ' H') /\ ∀ x H', J.yld i H x H' -> g x σ H' fun σ2 H2 => tb { D with nx := N, ct := N, bk := D.nx } σ2 H2) := by
 refine ⟨fun i m σ H => m = n - i /\ i <= n /\ Pv i σ H, ⟨n, by simp, Nat.zero_le _, h0⟩, ?_⟩
 rintro i m σ H ⟨rfl, hi, p⟩
 by_cases hlt : i < n
 ·exact .inr ⟨hgo i σ H hlt p, Pv (i + 1), fun σ' H' p' => ⟨n - (i + 1), by omega, rfl, hlt, p'⟩, fun x H' y => hs i σ H x H' hlt p y⟩
 ·obtain rfl : i = n := by omega
  exact .inl ⟨hst σ H p, hd σ H p⟩
theorem ndT {X : Cx} {scope : Scope} {xs : List Str} {fv : List (Str × Nat)} {C : Addr} {s₀ : Shared} {H₀ : Hp} {ex : List Addr} {pn : List (Addr × Obj)} (h : compOkT scope xs fv = true) : (cxT X scope xs fv C s₀ H₀ ex pn).N.Nodup := (compOkT_of h).nd
end L2
set_option Elab.async false
set_option linter.all false
set_option maxRecDepth 100000
namespace L2
open PySem PySem.Spec PyProof.Rows PySem.W
structure Lin (α : Type) where
 lt : α -> α -> Bool
 asym : ∀ a b, lt a b = true -> lt b a = false
 trans : ∀ a b c, lt b a = false -> lt c b = false -> lt c a = false
 anti : ∀ a b, lt a b = false -> lt b a = false -> a = b
section
variable {n : Nat} {r : Nat -> Nat -> Bool}
end
section
variable {κ : Type} (O : Lin κ) (g : Nat -> κ) {n : Nat}
def Lin.le (a b : κ) : Prop := O.lt b a = false
structure Pm (n : Nat) (p : Array Nat) : Prop where
 perm : p.Perm (List.toArray (List.range n))
end
end L2
set_option Elab.async false
set_option linter.all false
set_option maxRecDepth 100000
namespace L2
open PySem PySem.Spec PyProof.Rows
mutual
inductive DV (K : PySem.W.Frag) (H : Hp) : V -> PyData -> Prop
 | non : DV K H .non .none
 | bl (b : Bool) : DV K H (.bl b) (.bool b)
 | int (i : Int) : DV K H (.int i) (.int i)
 | str (x : Str) : DV K H (.str x) (.str x)
 | lst {a : Addr} {xs : List V} {ds : List PyData} : SqL K H a xs -> DVs K H xs ds -> DV K H (.ref a) (.list ds)
 | tup {a : Addr} {xs : List V} {ds : List PyData} : SqT K H a xs -> DVs K H xs ds -> DV K H (.ref a) (.tuple ds)
inductive DVs (K : PySem.W.Frag) (H : Hp) : List V -> List PyData -> Prop
 | nil : DVs K H [] []
 | cons {x : V} {xs : List V} {d : PyData} {ds : List PyData} : DV K H x d -> DVs K H xs ds -> DVs K H (x :: xs) (d :: ds)
end
theorem DVs.ints {K : PySem.W.Frag} {H : Hp} : ∀ ns : List Int, DVs K H (ns.map V.int) (ns.map PyData.int)
 | [] => .nil
 | n :: r => .cons (.int n) (DVs.ints r)
section
variable {X : Cx} {pins : List (Addr × Obj)} {σ : St} {H : Hp} {s : Shared}
mutual
theorem DV.reads (I : Inv X pins σ H s) : ∀ {v : V} {d : PyData} {u : Value}, DV X.K H v d -> RelV v u -> ∃ as, Reads s.heap u d as
 | _, _, _, .non, r => by cases r; exact ⟨_, .none⟩
 | _, _, _, .bl b, r => by cases r; exact ⟨_, .bool b⟩
 | _, _, _, .int i, r => by obtain ⟨t, rfl⟩ := r; exact ⟨_, .int i t⟩
 | _, _, _, .str x, r => by obtain ⟨t, rfl⟩ := r; exact ⟨_, .str x t⟩
 | _, _, _, .lst hq hs, r => by
  cases r
  obtain ⟨its, rv, ⟨o, n, e, c, _, d⟩, _⟩ := I.list hq
  obtain ⟨as, q⟩ := DVs.reads I hs rv
  exact ⟨_, .list e c d (by simpa using q)⟩
 | _, _, _, .tup hq hs, r => by
  cases r
  obtain ⟨its, rv, p, _⟩ := I.tuple hq
  obtain ⟨as, q⟩ := DVs.reads I hs rv
  obtain ⟨o, e, c, n, d⟩ := p
  exact ⟨_, .tuple e c d (by simpa using q)⟩
theorem DVs.reads (I : Inv X pins σ H s) : ∀ {vs : List V} {ds : List PyData} {us : List Value}, DVs X.K H vs ds -> Vals vs us -> ∃ as, ReadsAll s.heap us ds as
 | _, _, _, .nil, .nil => ⟨_, .nil⟩
 | _, _, _, .cons h t, .cons r rs => by
  obtain ⟨as, q⟩ := DV.reads I h r
  obtain ⟨bs, q'⟩ := DVs.reads I t rs
  exact ⟨_, .cons q q'⟩
end
end
section
variable {X : Cx} {k : Nat}
def rRepr (K : PySem.W.Frag) : List V -> Hp -> VK -> Prop := fun xs H Q => ∃ x d, xs = [x] /\ DV K H x d /\ d.showable = true /\ d.hasDict = false /\ d.depth <= 100 /\ d.shown.length <= sizeLine /\ Q (.str d.shown) H
theorem call_repr (hr : Room k X.A) : CallR X (.builtin "repr") (rRepr X.K) := by
 intro pins s σ H xs us Q I r h
 obtain ⟨x, d, rfl, hd, h1, h2, h3, h4, q⟩ := h
 obtain ⟨u, rfl, ru⟩ := vals1 r
 obtain ⟨as, rd⟩ := hd.reads I ru
 have fin : ∀ t : Tok, ∀ tk, EP X pins σ Q (.str d.shown t) { s with toks := tk } := fun t tk => ⟨.str d.shown, H, I.tok _, ⟨_, rfl⟩, q⟩
 cases hd with
 | non => cases ru; exact PySem.P.repr_of_none (fin _ _)
 | bl b =>
  cases ru
  refine PySem.P.repr_of_bool ?_
  have e : (PyData.bool b).shown = (if b then "True" else "False" : Str) := PyData.shown_bool b
  rw [e] at fin
  cases b <;> exact fin _ _
 | int i => obtain ⟨t, rfl⟩ := ru; exact PySem.P.repr_of_int (by simpa [PyData.showable] using h1) (by have := fin s.toks (s.toks + 1); rw [PyData.shown_int] at this; exact this)
 | str y => obtain ⟨t, rfl⟩ := ru; exact PySem.P.repr_of_str (by have := fin s.toks (s.toks + 1); rw [PyData.shown_str] at this; exact this) (by rw [PyData.shown_str] at h4; exact h4)
 | @lst a xs ds hq hs =>
  cases ru
  exact repr_of_reads' rd h1 (fun z => by rw [h2] at z; cases z) hr.gd (by have := hr.un; omega) (fun _ _ e => e) (fun h' u tk hk => ⟨.str _, H, I.kept (t' := tk) hk, ⟨_, rfl⟩, q⟩) h4
 | @tup a xs ds hq hs =>
  cases ru
  exact repr_of_reads' rd h1 (fun z => by rw [h2] at z; cases z) hr.gd (by have := hr.un; omega) (fun _ _ e => e) (fun h' u tk hk => ⟨.str _, H, I.kept (t' := tk) hk, ⟨_, rfl⟩, q⟩) h4
def rEqD (K : PySem.W.Frag) (neg : Bool) : R2 := fun x y H Q => ∃ d e, DV K H x d /\ DV K H y e /\ d.canLay0 = true /\ e.canLay0 = true /\ d.depth <= 100 /\ Q (.bl (if neg then !PyData.eqv d e else PyData.eqv d e)) H
theorem op_neD (hr : Room k X.A) : OpR X (compareOp .NotEq) (rEqD X.K true) := by
 intro pins s σ H x y v u Q I rx ry h
 obtain ⟨d, e, hd, he, h1, h2, h3, q⟩ := h
 obtain ⟨as, r1⟩ := hd.reads I rx
 obtain ⟨bs, r2⟩ := he.reads I ry
 refine SeqAt.compareNe_reads r1 r2 h1 h2 (by have := hr.un; have := Nat.min_le_left d.depth e.depth; omega) ?_
 exact ⟨.bl _, H, I, rfl, q⟩
def rInst (K : PySem.W.Frag) : List V -> Hp -> VK -> Prop := fun xs H Q => ∃ x t n b, xs = [x, .ty n] /\ TyOf K H x t /\ PySem.W.kitOne K t (.type n) = some b /\ Q (.bl b) H
theorem call_inst : CallR X (.builtin "isinstance") (rInst X.K) := by
 intro pins s σ H xs us Q I r h
 obtain ⟨x, t, n, b, rfl, ty, e, q⟩ := h
 obtain ⟨u, w', rfl, r1, r2⟩ := vals2 r
 cases r2
 exact isinst_ok I r1 ty e fun tk => ⟨.bl b, H, I.tok _, rfl, q⟩
def tRev (K : PySem.W.Frag) (te : TE) : TE := fun σ H Q => te σ H fun x H1 => ∃ a xs, x = .ref a /\ SqL K H1 a xs /\ ∀ p, H1 p = none -> Q (.ref p) (upd H1 p (.lst xs.reverse))
theorem pe_rev {e : Expr} {te : TE} {p1 p2 p3 p4 pos : Pos} {c : Nat} (he : PE X e te) : PE X (.Subscript e (.Slice none none (some (.UnaryOp .USub (.Constant (.int 1) c p1) p2)) p3) pos) (tRev X.K te) := by
 intro pins s σ H Q I h
 refine Subscript_ (thn (he pins s σ H _ I h) fun v s1 ⟨x, H1, I1, r1, q1⟩ => ?_)
 obtain ⟨a, xs, rfl, hx, q⟩ := q1
 cases r1
 refine wpAny_Slice (thn (po_none pins s1 σ H1 (fun o H2 => o = none /\ H2 = H1) I1 ⟨rfl, rfl⟩) fun vl s2 ⟨l, H2, I2, pl, q2⟩ => thn (po_none pins s2 σ H2 (fun o H3 => o = none /\ H3 = H1) I2 ⟨rfl, q2.2⟩) fun vu s3 ⟨u, H3, I3, pu, q3⟩ =>
  thn (po_some (pe_un un_neg pe_int) pins s3 σ H3 (fun o H4 => o = some (-1) /\ H4 = H1) I3 ⟨1, rfl, -1, rfl, rfl, q3.2⟩) fun vk s4 ⟨w, H4, I4, pk, q4⟩ => ?_)
 obtain ⟨rfl, rfl⟩ := q4
 obtain ⟨rfl, _⟩ := q2
 obtain ⟨rfl, _⟩ := q3
 obtain ⟨its, r, ht, hz⟩ := I4.list hx
 have hlen := r.length
 have I5 : Inv X pins σ H4 { s4 with heap := s4.heap.push { cls := .type "slice", data := .fields #[vl, vu, vk] } } := I4.kept (t' := s4.toks) fun b ob q => Heap.get?_push_of_some _ q
 have hl5 : (s4.heap.push { cls := .type "slice", data := .fields #[vl, vu, vk] }).IsList a its.toArray := ht.isList.push _
 refine tail_any (ops := [.ref a, .ref s4.heap.objs.size]) (s := { s4 with heap := s4.heap.push { cls := .type "slice", data := .fields #[vl, vu, vk] } }) (Heap.IsList.typeIs (s := { s4 with heap := s4.heap.push { cls := .type "slice", data := .fields #[vl, vu, vk] } }) hl5) slot_list_getitem.lookup
  (wpAny_getItem_list_slice hl5 (Heap.IsSliceOf.new ..) pl pu pk (by simp) ?_ (by rw [List.size_toArray]; omega)) (by with_unfolding_all rfl)
 rw [show slicePick its.toArray none none (some (-1)) = its.reverse.toArray from by rw [PySem.W.krv_pick]]
 refine ⟨.ref _, _, I5.lnew (t' := s4.toks) (ys := xs.reverse) r.reverse (by simpa using hz), rfl, q _ I5.fresh⟩
end
end L2
set_option Elab.async false
set_option linter.all false
set_option maxRecDepth 100000
namespace L2
open PySem PySem.Spec PyProof.Rows PySem.W
def keyLt (a b : Int × List Int) : Bool := if a.1 = b.1 then HT.lexLt a.2 b.2 else decide (a.1 < b.1)
section
variable {X : Cx} {pins : List (Addr × Obj)} {σ : St} {H : Hp} {s : Shared}
theorem Inv.take {D : Addr} {o : HO} (I : Inv X pins σ H s) (f : FpOk X pins H D) (hs : X.s₀.heap.objs.size <= D) (new : ObjOk X.prog X.w (upd H D o) s.heap D o) : Inv X pins σ (upd H D o) s := by
 obtain ⟨f0, f1, f2, _, f4, f5⟩ := f
 have ne : ∀ b ob, X.s₀.heap.get? b = some ob -> b ≠ D := fun b ob e => Nat.ne_of_lt (Nat.lt_of_lt_of_le (Heap.lt_size e) hs)
 have nH : ∀ b u, H b = some u -> b ≠ D := fun b u e z => by rw [z, f0] at e; cases e
 refine ⟨I.ok, I.os, I.bare, ⟨fun b ob e n hb hx => I.base.keep b ob e n hb hx, fun b ob e n hb hx => I.base.slot b ob e n hb hx, fun b ob e n hx => ?_, I.base.there, fun b xs e => ?_, fun b ob xs e => ?_, fun b ps e => ?_⟩, I.loc, I.cell, ?_, fun y c e => ?_, fun p hp => ?_, fun b u e => ?_, I.len⟩
 ·rw [upd_ne (ne b ob e)]; exact I.base.free b ob e n hx
 ·rw [upd_ne (nH b _ (I.base.tups b xs e))]; exact I.base.tups b xs e
 ·rw [upd_ne (nH b _ (I.base.frzs b ob xs e))]; exact I.base.frzs b ob xs e
 ·obtain ⟨m, q⟩ := I.base.tbls b ps e
  exact ⟨m, by rw [upd_ne (nH b _ q)]; exact q⟩
 ·rw [upd_ne f1.symm]; exact I.free
 ·rw [upd_ne (f4 y c e)]; exact I.freeC y c e
 ·obtain ⟨z1, z2, z3⟩ := I.pin p hp
  exact ⟨z1, by rw [upd_ne (f5 p hp)]; exact z2, z3⟩
 ·by_cases hb : b = D
  ·subst hb; rw [upd_same] at e; cases e; exact new
  ·rw [upd_ne hb] at e
   exact (I.hok b u e).stay (fun _ _ _ q => q) (fun c q => by rw [upd_ne (ne_of_none q f0)]; exact q) fun c xs q => by rw [upd_ne (ne_of_none q f0)]; exact q
theorem canLay_ints : ∀ ms : List Int, PyData.canLayAll0 (ms.map PyData.int) = true
 | [] => rfl
 | _ :: r => by show (true && PyData.canLayAll0 (r.map PyData.int)) = true; rw [canLay_ints r]; rfl
theorem depthAll_ints : ∀ ms : List Int, PyData.depthAll (ms.map PyData.int) <= 1
 | [] => by simp [PyData.depthAll]
 | m :: r => by
  have := depthAll_ints r
  simp only [List.map_cons, PyData.depthAll, PyData.depth]
  omega
structure KeyAt (X : Cx) (H : Hp) (s : Shared) (v : Value) (n : Int) (ms : List Int) : Prop where
 ex : ∃ (a b : Addr) (t : Tok) (o : Obj) (k : Nat) (its : List Value) (bs : List Addr), v = .ref a /\ s.heap.get? a = some o /\ o.cls = .type "tuple" /\ o.data = .seq [.int n t, .ref b].toArray k /\ IsTup s.heap b its.toArray /\ IntsAre its ms /\ Reads s.heap (.ref b) (.tuple (ms.map PyData.int)) bs
end
end L2
set_option Elab.async false
set_option linter.all false
set_option maxRecDepth 100000
namespace L2
open PySem PySem.Spec PyProof.Rows PySem.W
section
variable {X : Cx} {pins : List (Addr × Obj)} {σ : St} {H : Hp} {s : Shared} {k : Nat} {f D : Addr} {fd : FuncData} {pn : Str} {sp : Sp} {kf : V -> Int × List Int} {xs : List V} {its : List Value} {kd : Int × List Int -> PyData} {okk : Int × List Int -> Prop} {KA : Hp -> Shared -> Value -> Int -> List Int -> Prop}
structure KForm (X : Cx) (kd : Int × List Int -> PyData) (okk : Int × List Int -> Prop) (KA : Hp -> Shared -> Value -> Int -> List Int -> Prop) : Prop where
 tup : ∀ a, ∃ ds, kd a = .tuple ds
 at_ : ∀ {pins : List (Addr × Obj)} {σ : St} {H : Hp} {s : Shared} {v : V} {u : Value} {n : Int} {ms : List Int}, Inv X pins σ H s -> DV X.K H v (kd (n, ms)) -> RelV v u -> okk (n, ms) -> KA H s u n ms
 ex : ∀ {H : Hp} {s : Shared} {v : Value} {n : Int} {ms : List Int}, KA H s v n ms -> ∃ (a b : Addr) (t : Tok) (o : Obj) (k : Nat), v = .ref a /\ s.heap.get? a = some o /\ o.cls = .type "tuple" /\ o.data = .seq [.int n t, .ref b].toArray k
 cmp : ∀ {H : Hp} {s : Shared} {A : Around} {E : Value -> Shared -> Prop} {u v : Value} {n m : Int} {ms ks : List Int} {C : Bool -> Shared -> Prop}, A.units + 10 < cLine -> KA H s u n ms -> KA H s v m ks -> C (keyLt (n, ms) (m, ks)) s -> wpAny (model X.prog X.w) A (keyLt' (tuples' true) u v) C E s
structure KeysTo (kd : Int × List Int -> PyData) (K : PySem.W.Frag) (H : Hp) (kf : V -> Int × List Int) (xs : List V) (ks : List Value) (i : Nat) : Prop where
 len : ks.length = i
 at' : ∀ j, j < i -> ∃ a, ks[j]? = some (.ref a) /\ DV K H (.ref a) (kd (kf (xs.getD j .non)))
end
end L2
set_option Elab.async false
set_option linter.all false
set_option maxRecDepth 100000
namespace L2
open PySem PySem.Spec PyProof.Rows
section
variable {X : Cx}
theorem fit_of {n : Nat} (h : n <= 16000000) : Builtin.Str.tooLong n = false := by
 unfold Builtin.Str.tooLong
 exact decide_eq_false (Nat.not_lt.mpr (Nat.le_trans h (by decide)))
theorem call_intS : CallR X (.type "int") (fun xs H Q => ∃ z n, xs = [.str z] /\ intText? z = some n /\ z.length <= 640 /\ Q (.int n) H) := by
 intro pins s σ H xs us Q I r h
 obtain ⟨z, n, rfl, hn, hl, q⟩ := h
 obtain ⟨u, rfl, ⟨t, rfl⟩⟩ := vals1 r
 exact PySem.W.KIN.call_text hn hl ⟨.int n, H, I.tok _, ⟨_, rfl⟩, q⟩
end
end L2
set_option Elab.async false
set_option linter.all false
set_option maxRecDepth 100000
namespace S
open PySem L2
def top (i : Nat) : Stmt := PySem.Challenge.pw_alwaysmeet_k04_shares_reckoned.main.body.getD i (.Pass ⟨0, 0, 0, 0⟩)
def meth (c i : Nat) : Stmt := match top c with
 | .ClassDef _ _ _ b .. => b.getD i (.Pass ⟨0, 0, 0, 0⟩)
 | _ => .Pass ⟨0, 0, 0, 0⟩
abbrev sWhole : Stmt := top 4
abbrev sCommon : Stmt := top 6
abbrev sMakeA : Stmt := top 7
abbrev sIsShare : Stmt := top 8
abbrev sLowest : Stmt := top 9
abbrev sShareOf : Stmt := top 10
abbrev sCheckS : Stmt := top 11
abbrev sAdded : Stmt := top 12
abbrev sPlus : Stmt := top 13
abbrev sMinus : Stmt := top 14
abbrev sTimes : Stmt := top 15
abbrev sLess : Stmt := top 16
abbrev sSumS : Stmt := top 17
abbrev sBox : Stmt := top 19
abbrev sTake : Stmt := top 20
abbrev sLaw : Stmt := top 29
abbrev sMeetErrorInit : Stmt := meth 1 0
abbrev sNoShareInit : Stmt := meth 2 0
abbrev s_law_common : Stmt := top 21
abbrev s_law_part : Stmt := top 22
abbrev s_law_share : Stmt := top 23
abbrev s_law_is : Stmt := top 24
abbrev s_law_less_told : Stmt := top 25
abbrev s_law_two_right : Stmt := top 26
abbrev s_law_sum_right : Stmt := top 27
abbrev s_law_case : Stmt := top 28
end S
set_option Elab.async false
set_option linter.all false
set_option maxRecDepth 100000
namespace L2
open PySem PySem.Spec PyProof.Rows
end L2
set_option Elab.async false
set_option linter.all false
set_option maxRecDepth 100000
namespace L2
open PySem PySem.Spec PyProof.Rows
def At1 (a : Addr) (H H' : Hp) : Prop := ∀ o, H a = some o -> H' a = some o
theorem SqL.at1 {K : PySem.W.Frag} {H H' : Hp} {a : Addr} {xs : List V} (e : At1 a H H') (h : SqL K H a xs) : SqL K H' a xs := by
 rcases h with (h | ⟨o, h⟩) | h
 ·exact .inl (.inl (e _ h))
 ·exact .inl (.inr ⟨o, e _ h⟩)
 ·exact .inr h
theorem SqT.at1 {K : PySem.W.Frag} {H H' : Hp} {a : Addr} {xs : List V} (e : At1 a H H') (h : SqT K H a xs) : SqT K H' a xs := by
 rcases h with (h | ⟨o, h⟩) | h
 ·exact .inl (.inl (e _ h))
 ·exact .inl (.inr ⟨o, e _ h⟩)
 ·exact .inr h
abbrev Sq (K : PySem.W.Frag) (H : Hp) (a : Addr) (xs : List V) : Prop := SqL K H a xs \/ SqT K H a xs
theorem seq_for {K : PySem.W.Frag} {g : TG} {tb : TS} {D : Ends} {σ : St} {H1 : Hp} {a : Addr} {ys : List V} (sq : Sq K H1 a ys) (Pv : Nat -> St -> Hp -> Prop) (h0 : Pv 0 σ H1) (hk : ∀ i σ H', Pv i σ H' -> At1 a H1 H')
  (hs : ∀ i σ H' x, i < ys.length -> ys[i]? = some x -> Pv i σ H' -> g x σ H' fun σ2 H2 => tb { D with nx := Pv (i + 1), ct := Pv (i + 1), bk := D.nx } σ2 H2) (hd : ∀ σ H', Pv ys.length σ H' -> D.nx σ H') :
  (∃ xs, SqL K H1 a xs) /\ (∃ W : Nat -> Nat -> St -> Hp -> Prop, (∃ m, W 0 m σ H1) /\ ∀ i m σ H, W i m σ H ->
   ((Itl K a).stop i H /\ D.nx σ H) \/ ((Itl K a).go i H /\ ∃ N : St -> Hp -> Prop, (∀ σ' H', N σ' H' -> ∃ m', m' < m /\ W (i + 1) m' σ' H') /\ ∀ x H', (Itl K a).yld i H x H' -> g x σ H' fun σ2 H2 => tb { D with nx := N, ct := N, bk := D.nx } σ2 H2)) \/
  (∃ xs, SqT K H1 a xs) /\ (∃ W : Nat -> Nat -> St -> Hp -> Prop, (∃ m, W 0 m σ H1) /\ ∀ i m σ H, W i m σ H ->
   ((Itt K a).stop i H /\ D.nx σ H) \/ ((Itt K a).go i H /\ ∃ N : St -> Hp -> Prop, (∀ σ' H', N σ' H' -> ∃ m', m' < m /\ W (i + 1) m' σ' H') /\ ∀ x H', (Itt K a).yld i H x H' -> g x σ H' fun σ2 H2 => tb { D with nx := N, ct := N, bk := D.nx } σ2 H2)) := by
 rcases sq with sq | sq
 ·refine .inl ⟨⟨_, sq⟩, for_of ys.length Pv h0 (fun i σ H' hi hP => ⟨ys, ys[i], SqL.at1 (hk _ _ _ hP) sq, by simp [hi]⟩) (fun σ H' hP => ⟨ys, SqL.at1 (hk _ _ _ hP) sq, Nat.le_refl _⟩) (fun i σ H' x H2 hi hP y => ?_) hd⟩
  obtain ⟨rfl, hx⟩ := y
  exact hs i σ _ x hi (hx ys (SqL.at1 (hk _ _ _ hP) sq)) hP
 ·refine .inr ⟨⟨_, sq⟩, for_of ys.length Pv h0 (fun i σ H' hi hP => ⟨ys, ys[i], SqT.at1 (hk _ _ _ hP) sq, by simp [hi]⟩) (fun σ H' hP => ⟨ys, SqT.at1 (hk _ _ _ hP) sq, Nat.le_refl _⟩) (fun i σ H' x H2 hi hP y => ?_) hd⟩
  obtain ⟨rfl, hx⟩ := y
  exact hs i σ _ x hi (hx ys (SqT.at1 (hk _ _ _ hP) sq)) hP
theorem range_comp {o0 : HO} {xs : List Str} {fv : List (Str × Nat)} {g : TG} {tt : TT} {tb : TB} {σ : St} {H1 : Hp} {Q : VK} {lo : Int} {n : Nat} (Pv : Nat -> Addr -> Hp -> Prop) (h0 : ∀ D, H1 D = none -> Pv 0 D (upd H1 D o0))
  (hs : ∀ i D H', H1 D = none -> i < n -> Pv i D H' -> g (.int (lo + i)) (ρT xs fv σ) H' fun σ2 H2 => KeepT xs (ρT xs fv σ) σ2 /\ tt σ2 H2 fun b H3 => if b = true then tb D σ2 H3 (Pv (i + 1) D) else Pv (i + 1) D H3)
  (hd : ∀ D H', H1 D = none -> Pv n D H' -> Q (.ref D) H') : wCompT o0 xs fv g tt tb σ (Itr lo n) H1 Q := by
 refine compT_of n Pv h0 (fun i D H' hD hi hP => hi) (fun D H' hD hP => Nat.le_refl _) (fun i D H' x H2 hD hi hP y => ?_) hd
 obtain ⟨rfl, rfl⟩ := y
 exact hs i D _ hD hi hP
end L2
set_option Elab.async false
set_option linter.all false
set_option maxRecDepth 100000
namespace L2E
open PySem
section
variable {h : Heap} {g : Array GenState} {d : Drawn} {t : Nat} {os : OsState} {prog : Program} {w : World} {A : Around} {E : Value -> Shared -> Prop}
variable {nm q : Str} {C N : Addr} {bs bm bmN : List Value} {hdct : Bool} {sn : List Str} {sub : List Value} {ab : Bool} {col : Option Bool} {dd : Option Addr} {k0 k1 k2 k3 k5 : Option Value} {Bn newId inN : String}
structure Tail (bm : List Value) (Bn : String) : Prop where
 base : bm.contains (.type Bn) = true
 attr : bm.contains (.type "AttributeError") = false
 name : bm.contains (.type "NameError") = false
theorem Tail.has {bm : List Value} {Bn : String} (T : Tail bm Bn) (C : Addr) : (Value.ref C :: bm).contains (.type Bn) = true := by rw [List.contains_cons, T.base, Bool.or_true]
theorem Tail.noA {bm : List Value} {Bn : String} (T : Tail bm Bn) (C : Addr) : (Value.ref C :: bm).contains (.type "AttributeError") = false := by rw [List.contains_cons, T.attr]; rfl
theorem Tail.noN {bm : List Value} {Bn : String} (T : Tail bm Bn) (C : Addr) : (Value.ref C :: bm).contains (.type "NameError") = false := by rw [List.contains_cons, T.name]; rfl
theorem newChecked (Fn : ExcBaseFacts Bn newId inN bmN) (T : Tail bm Bn) {M : Model} {us : List Value} {Q : Unit -> Shared -> Prop} (at_ : h.get? C = some (excClassObj nm q C N bs bm hdct sn sub ab col dd k0 k1 k2 k3 k5 newId))
  (z : Q () ⟨h, g, d, t, os⟩) : wpAny M A (checkBuiltinCall newId ⟨.ref C :: us, []⟩) Q E ⟨h, g, d, t, os⟩ := by
 have c1 := T.has C
 have c2 := Fn.noStar
 simp only [Fn.newKind, Fn.newSplit, Fn.newRow, checkBuiltinCall]
 repeat (first | refine wpAny_loadPart_at at_ ?_ | (refine wpAny_isSubtype_exc at_ ?_; rw [c1]) | refine wpAny_staticBase_exc at_ ?_ | refine wpAny_madeBy_exc at_ ?_ | simp only [bne_self_eq_false, Bool.false_eq_true, if_false] | wp_step)
 exact z
theorem newRun (Fn : ExcBaseFacts Bn newId inN bmN) (T : Tail bm Bn) {R : Result -> Shared -> Prop} {us : List Value} (at_ : h.get? C = some (excClassObj nm q C N bs bm hdct sn sub ab col dd k0 k1 k2 k3 k5 newId))
  (z : R (.ok (.ret (.ref (h.objs.size + 1)))) ⟨(h.push { cls := .type "tuple", data := .seq us.toArray }).push { cls := .ref C, data := .fields #[.ref h.objs.size, .none, .none, .none, .bool false, .none] }, g, d, t, os⟩) (few : us.length <= sizeLine) :
  codeAny (model prog w) A (.builtin newId ⟨.ref C :: us, []⟩) R ⟨h, g, d, t, os⟩ := by
 have c0 := Fn.ends
 have c1 := T.has C
 have c2 := T.noA C
 have c3 := T.noN C
 refine codeAny_builtinAt Fn.entry ?_; unfold Builtin.«BaseException.__new__»
 refine wpAt_bind ?_; show wpAt _ _ _ (stack >>= _) _ _ _
 refine wpAt_bind (wpAt_stack fun _ _ => wpAt_of_wpAny ?_)
 wp_walk
 refine wpAt_of_wpAny ?_
 rw [Fn.owner]
 repeat (first | with_reducible refine wpAny_madeHere_exc Fn.canon at_ ?_ | with_reducible refine wpAny_loadPart_at at_ ?_ | (with_reducible refine wpAny_isSubtype_exc at_ ?_; first | rw [c1] | rw [c2] | rw [c3]) | wp_step)
 show R _ _
 rw [Heap.size_push]
 exact z
def Finds (h : Heap) (C : Addr) (x : Str) (v : Option Value) : Prop := ∀ (M : Model) (A : Around) (E : Value -> Shared -> Prop) (Q : Option Value -> Shared -> Prop) (g : Array GenState) (d : Drawn) (t : Nat) (os : OsState), Q v ⟨h, g, d, t, os⟩ -> wpAny M A (typeLookup (.ref C) x) Q E ⟨h, g, d, t, os⟩
def laid (h : Heap) (C : Addr) (us : List Value) : Heap := (h.push { cls := .type "tuple", data := .seq us.toArray }).push { cls := .ref C, data := .fields #[.ref h.objs.size, .none, .none, .none, .bool false, .none] }
theorem laid_old {h : Heap} {C : Addr} {us : List Value} {b : Addr} {o : Obj} (e : h.get? b = some o) : (laid h C us).get? b = some o := Heap.get?_push_of_some _ (Heap.get?_push_of_some _ e)
theorem laid_new {h : Heap} {C : Addr} {us : List Value} : (laid h C us).get? (h.objs.size + 1) = some { cls := .ref C, data := .fields #[.ref h.objs.size, .none, .none, .none, .bool false, .none] } := by unfold laid; heap_get
theorem typeCall (Fn : ExcBaseFacts Bn newId inN bmN) (T : Tail bm Bn) {us : List Value} {f : Addr} {of : Obj} {Q : Fin -> Shared -> Prop} (at_ : h.get? C = some (excClassObj nm q C N bs bm hdct sn sub ab col dd k0 k1 k2 k3 k5 newId))
  (hi : Finds (laid h C us) C "__init__" (some (.ref f))) (hf : h.get? f = some of) (hc : of.cls = .type "function") (few : us.length <= sizeLine)
  (z : wpAny (model prog w) A (call (.ref f) (.ref (h.objs.size + 1) :: us)) (fun r s' => r = .none /\ Q (.done (.ret (.ref (h.objs.size + 1)))) s') E ⟨laid h C us, g, d, t, os⟩) :
  wpAny (model prog w) A (Builtin.«type.__call__» ⟨.ref C :: us, []⟩) Q E ⟨h, g, d, t, os⟩ := by
 repeat (first | with_reducible refine wpAny_loadPart_at at_ ?_ | with_reducible refine wpAny_madeBy_exc at_ ?_ | wp_step)
 refine codeAny_call_builtin_code (Code.quiet_builtin _ Fn.quiet) (newChecked Fn T at_ ?_)
 refine newRun Fn T at_ ?_ few
 show wpAny _ _ _ _ _ ⟨laid h C us, g, d, t, os⟩
 have a1 := laid_old (C := C) (us := us) at_
 have a2 := laid_new (h := h) (C := C) (us := us)
 have self : (Value.ref C :: bm).contains (.ref C) = true := by simp
 unfold isInstance
 repeat (first | with_reducible refine wpAny_loadPart_at a2 ?_ | (with_reducible refine wpAny_isSubtype_exc a1 ?_; rw [self]) | wp_step)
 refine (show wpAny _ _ (typeLookup (.ref C) _) _ _ _ from hi _ _ _ _ _ _ _ _ ?_)
 refine wpAny_holding (wpAny_bind ?_); unfold bindSpecial
 refine wpAny_bind (wpAny_typeOf (T := "function") ⟨_, laid_old hf, hc⟩ ?_)
 rw [if_pos (by decide)]
 refine wpAny_pure (wpAny_bind (wpAny_mono z (fun r s' hr => ?_) fun _ _ x => x))
 obtain ⟨rfl, y⟩ := hr
 wp_walk
 exact y
theorem callErr (Fn : ExcBaseFacts Bn newId inN bmN) (T : Tail bm Bn) {us : List Value} {f : Addr} {of : Obj} {Q : Value -> Shared -> Prop} (at_ : h.get? C = some (excClassObj nm q C N bs bm hdct sn sub ab col dd k0 k1 k2 k3 k5 newId))
  (hi : Finds (laid h C us) C "__init__" (some (.ref f))) (hf : h.get? f = some of) (hc : of.cls = .type "function") (few : us.length <= sizeLine)
  (z : wpAny (model prog w) (A.under (.builtin "type.__call__" ⟨.ref C :: us, []⟩)) (call (.ref f) (.ref (h.objs.size + 1) :: us)) (fun r s' => r = .none /\ Q (.ref (h.objs.size + 1)) s') E ⟨laid h C us, g, d, t, os⟩) :
  wpAny (model prog w) A (call (.ref C) us) Q E ⟨h, g, d, t, os⟩ := by
 have b1 := tc_lookup
 have b2 := tc_bind (.ref C)
 have b3 : (⟨h, g, d, t, os⟩ : Shared).TypeIs (.ref C) "type" := ⟨_, at_, rfl⟩
 refine wpAny_call (codeAny_of_tree ?_); show wpAny _ _ (callAny (.ref C) _) _ _ _
 repeat (any_goals (first | assumption | with_reducible refine wpAny_loadPart_at at_ ?_ | wp_step))
 refine ⟨rfl, ?_⟩
 exact codeAny_call_builtin_at (Code.quiet_builtin _ (by decide +kernel)) entry_typeCall (wpAny_check_type_call_sub at_ (typeCall Fn T at_ hi hf hc few z))
end
end L2E
set_option Elab.async false
set_option linter.all false
set_option maxRecDepth 100000
namespace L2E
open PySem
section
variable {h : Heap} {g : Array GenState} {d : Drawn} {t : Nat} {os : OsState} {prog : Program} {w : World} {A : Around} {E : Value -> Shared -> Prop}
variable {nm q : Str} {C N : Addr} {bs bm bmB : List Value} {hdct : Bool} {sn : List Str} {sub : List Value} {ab : Bool} {col : Option Bool} {dd : Option Addr} {k0 k1 k2 k3 k5 : Option Value} {B nid newId initId : String}
theorem initChecked (F : ExcBaseFacts B nid initId bmB) (hB : bm.contains (.type B) = true) {M : Model} {e : Addr} {oe : Obj} {us : List Value} {Q : Unit -> Shared -> Prop}
  (at_ : h.get? C = some (excClassObj nm q C N bs bm hdct sn sub ab col dd k0 k1 k2 k3 k5 newId)) (he : h.get? e = some oe) (hc : oe.cls = .ref C) (z : Q () ⟨h, g, d, t, os⟩) :
  wpAny M A (checkBuiltinCall initId ⟨.ref e :: us, []⟩) Q E ⟨h, g, d, t, os⟩ := by
 have c1 : (Value.ref C :: bm).contains (.type B) = true := by rw [List.contains_cons, hB, Bool.or_true]
 have c2 := F.noStar
 simp only [F.initKind, F.initSplit, F.initRow, checkBuiltinCall]
 repeat (first | (with_reducible refine wpAny_loadPart_at he ?_; rw [hc]) | with_reducible refine wpAny_loadPart_at at_ ?_ | (with_reducible refine wpAny_isSubtype_exc at_ ?_; rw [c1]) | wp_step)
 refine wpAny_onRaise ?_
 have same : ∀ (a b : String) (n : Nat), Bind.check ⟨.positional, "*", B, .self, [⟨"args", .varPos, false⟩]⟩ a b n (List.map (fun x => x.fst) ({ pos := Value.ref e :: us } : Args).kw) = pure () := fun a b n => check_star_args _ _ _ _ _ _
 rw [same]
 exact wpAny_pure z
theorem initErr (F : ExcBaseFacts B nid initId bmB) (hB : bm.contains (.type B) = true) {e t0 : Addr} {de : Option Addr} {us : List Value} {Q : Value -> Shared -> Prop}
  (at_ : h.get? C = some (excClassObj nm q C N bs bm hdct sn sub ab col dd k0 k1 k2 k3 k5 newId)) (he : h.get? e = some { cls := .ref C, dict := de, data := .fields #[.ref t0, .none, .none, .none, .bool false, .none] }) (few : us.length <= sizeLine)
  (z : ∀ h', (∀ b o, b ≠ e -> h.get? b = some o -> h'.get? b = some o) -> h'.get? e = some { cls := .ref C, dict := de, data := .fields #[.ref h.objs.size, .none, .none, .none, .bool false, .none] } -> h'.get? h.objs.size = some { cls := .type "tuple", data := .seq us.toArray } -> Q .none ⟨h', g, d, t, os⟩) :
  wpAny (model prog w) A (call (.builtin initId) (.ref e :: us)) Q E ⟨h, g, d, t, os⟩ := by
 refine wpAny_call (codeAny_call_builtin F.init.plain F.initEntry (initChecked F hB at_ he rfl ?_))
 wp_walk
 have le : e < h.objs.size := Heap.lt_size he
 have he2 := Heap.get?_push_of_some { cls := .type "tuple", data := .seq us.toArray } he
 refine z _ (fun b o n hb => ?_) ?_ ?_
 ·rw [Heap.get?_update_other _ _ n.symm]
  exact Heap.get?_push_of_some _ hb
 ·rw [Heap.get?_update_self _ he2 rfl]
  rfl
 ·rw [Heap.get?_update_other _ _ (Nat.ne_of_lt le)]
  exact Heap.get?_push_at rfl rfl
end
end L2E
set_option Elab.async false
set_option linter.all false
set_option maxRecDepth 100000
namespace L2E
open PySem PySem.Builtin.ObjectAttr
section
variable {h : Heap} {g : Array GenState} {d : Drawn} {t : Nat} {os : OsState} {prog : Program} {w : World} {A : Around} {E : Value -> Shared -> Prop}
variable {nm q : Str} {C N x : Addr} {bs bm bmB : List Value} {sn : List Str} {sub : List Value} {ab : Bool} {col : Option Bool} {dd : Option Addr} {k0 k1 k2 k3 k5 : Option Value} {B newId sa owner : String} {name : Str} {v : Value}
theorem saChecked {M : Model} {o : Obj} {nameV : Value} {Q : Unit -> Shared -> Prop} (SF : StoreFacts B bmB sa owner) (own : bm.contains (.type owner) = true)
  (at_ : h.get? C = some (excClassObj nm q C N bs bm true sn sub ab col dd k0 k1 k2 k3 k5 newId)) (hx : h.get? x = some o) (hc : o.cls = .ref C) (z : Q () ⟨h, g, d, t, os⟩) : wpAny M A (checkBuiltinCall sa ⟨[.ref x, nameV, v], []⟩) Q E ⟨h, g, d, t, os⟩ := by
 have c1 : (Value.ref C :: bm).contains (.type owner) = true := by rw [List.contains_cons, own, Bool.or_true]
 have c2 := SF.args (.ref x) nameV v
 simp only [SF.kind, SF.split, checkBuiltinCall]
 refine wpAny_bind ?_
 unfold isInstance
 repeat (first | (with_reducible refine wpAny_loadPart_at hx ?_; rw [hc]) | (with_reducible refine wpAny_isSubtype_exc at_ ?_; rw [c1]) | wp_step)
 cases sg : Manifest.signature? sa with
 | none => exact wpAny_pure z
 | some s0 =>
  simp only [argsOk, sg] at c2
  have c3 : Bind.checkArgs sa s0 ⟨[.ref x, nameV, v], []⟩ = pure () := c2
  refine (show wpAny M A (Bind.checkArgs sa s0 ⟨[.ref x, nameV, v], []⟩) Q E _ from ?_)
  rw [c3]; exact wpAny_pure z
def dicted (o : Obj) (a : Addr) : Obj := { cls := o.cls, dict := some a, data := o.data, slots := o.slots }
theorem storeNew {tk : Tok} {Q : Fin -> Shared -> Prop} {o : Obj} (at_ : h.get? C = some (excClassObj nm q C N bs bm true sn sub ab col dd k0 k1 k2 k3 k5 newId)) (pass : refuseLoop (.ref x) "__setattr__" bm = pure ()) (fn : Finds h C name none)
  (hx : h.get? x = some o) (hc : o.cls = .ref C) (hd : o.dict = none) (hnc : ∀ c, o.data ≠ .cls c)
  (z : ∀ h' tk', h'.get? x = some (dicted o h.objs.size) -> h'.Ns1 h.objs.size (fun y => if y = name then some v else none) -> (∀ b o, b ≠ x -> h.get? b = some o -> h'.get? b = some o) -> Q (.done (.ret .none)) ⟨h', g, d, tk', os⟩) :
  wpAny (model prog w) A (Builtin.«object.__setattr__» ⟨[.ref x, .str name tk, v], []⟩) Q E ⟨h, g, d, t, os⟩ := by
 unfold Builtin.«object.__setattr__»
 repeat (first | rw [refuse_eq] | (rw [refuseLoop_ref, pass]) | (with_reducible refine wpAny_loadPart_at hx ?_; rw [hc]) | with_reducible refine wpAny_mroOf_exc at_ ?_ | wp_step)
 refine fn _ _ _ _ _ _ _ _ ?_
 repeat (first | (with_reducible refine wpAny_loadPart_at hx ?_; rw [hc]) | with_reducible refine wpAny_loadPart_at hx ?_ | wp_step)
 rw [hd, if_neg (by simp [typeHasDict])]
 split
 ·rename_i y; cases y
 split
 ·rename_i c y; exact absurd y (hnc c)
 have x1 : (h.push { cls := .type "dict", data := .dict #[] }).get? x = some o := Heap.get?_push_of_some _ hx
 have ne : x ≠ h.objs.size := Nat.ne_of_lt (Heap.lt_size hx)
 refine wpAny_bind (wpAny_alloc' (wpAny_bind (wpAny_update' x1 (wpAny_pure ?_))))
 have y1 : ((h.push { cls := .type "dict", data := .dict #[] }).update x fun o => dicted o h.objs.size).get? h.objs.size = some { cls := .type "dict", data := .dict #[] } := (Heap.get?_update_ne _ _ _ _ ne.symm).trans (Heap.get?_push_at rfl rfl)
 have y2 : ((h.push { cls := .type "dict", data := .dict #[] }).update x fun o => dicted o h.objs.size).Ns h.objs.size (fun _ => none) := ⟨_, #[], _, y1, rfl, fun e he => absurd he (by simp), fun _ => rfl⟩
 refine (show wpAny _ _ (storeInDict h.objs.size (.str name tk) name v) _ _ ⟨(h.push { cls := .type "dict", data := .dict #[] }).update x fun o => dicted o h.objs.size, _, _, _, _⟩ from ?_)
 unfold storeInDict newKeyGuard
 refine wpAny_bind (wpAny_pure (wpAny_bind (wpAny_nsSet1 (Heap.Ns1.of_empty y2) fun h2 n2 s2 => ?_)))
 obtain ⟨o3, e3, p3, a3, b3, c3⟩ := n2.count (Within.cons name v Within.nil)
 refine wpAny_bind (wpAny_lookBehind a3 (by rw [b3]; exact pastItsLine_dict (Nat.le_trans c3 (by rw [List.length_cons, List.length_nil, sizeLine_eq]; omega))) ?_)
 wp_walk
 refine z h2 _ ?_ n2 fun b ob n hb => ?_
 ·refine (s2.2 x ne).trans (Heap.get?_update_self _ x1 ?_)
  have fr := (Heap.get?_some_iff.mp hx).2
  obtain ⟨oc, od, odt, osl⟩ := o
  cases odt <;> first | rfl | exact fr
 ·exact (s2.2 b (Nat.ne_of_lt (Heap.lt_size hb))).trans ((Heap.get?_update_ne _ _ _ _ n).trans (Heap.get?_push_of_some _ hb))
theorem setErr {Q : Unit -> Shared -> Prop} {o : Obj} (SF : StoreFacts B bmB sa owner) (own : bm.contains (.type owner) = true) (at_ : h.get? C = some (excClassObj nm q C N bs bm true sn sub ab col dd k0 k1 k2 k3 k5 newId)) (pass : refuseLoop (.ref x) "__setattr__" bm = pure ())
  (fs : Finds h C "__setattr__" (some (.builtin sa))) (fn : Finds h C name none) (hx : h.get? x = some o) (hc : o.cls = .ref C) (hd : o.dict = none) (hnc : ∀ c, o.data ≠ .cls c)
  (z : ∀ h' tk', h'.get? x = some (dicted o h.objs.size) -> h'.Ns1 h.objs.size (fun y => if y = name then some v else none) -> (∀ b o, b ≠ x -> h.get? b = some o -> h'.get? b = some o) -> Q () ⟨h', g, d, tk', os⟩) :
  wpAny (model prog w) A (setAttr (.ref x) name v) Q E ⟨h, g, d, t, os⟩ := by
 have b1 := SF.slot.bind (.ref x)
 unfold setAttr callSpecial? specialOf
 repeat (any_goals (first | assumption | (with_reducible refine wpAny_loadPart_at hx ?_; rw [hc]) | wp_step))
 refine fs _ _ _ _ _ _ _ _ ?_
 repeat (any_goals (first | assumption | (with_reducible refine wpAny_loadPart_at hx ?_; rw [hc]) | wp_step))
 refine codeAny_call_builtin SF.slot.plain SF.entry (saChecked SF own at_ hx hc (storeNew at_ pass fn hx hc hd hnc fun h' tk' y1 y2 y3 => ?_))
 repeat (any_goals (first | assumption | wp_step))
 exact z h' tk' y1 y2 y3
end
end L2E
set_option Elab.async false
set_option linter.all false
set_option maxRecDepth 100000
namespace L2E
open PySem
section
variable {A : Around} {E : Value -> Shared -> Prop} {env : Env} {M : Model}
variable {nm q : Str} {C N : Addr} {bs bm : List Value} {hdct : Bool} {sn : List Str} {sub : List Value} {ab : Bool} {col : Option Bool} {dd : Option Addr} {k0 k1 k2 k3 k5 : Option Value} {newId : String}
theorem raiseErr {s : Shared} {x : Sem Value} {Q : Flow -> Shared -> Prop} (base : bm.contains (.type "BaseException") = true) (calm : A.handled = none)
  (h : wpAny M A x (fun v s1 => ∃ e dx ta sl, v = .ref e /\ s1.heap.get? C = some (excClassObj nm q C N bs bm hdct sn sub ab col dd k0 k1 k2 k3 k5 newId) /\ s1.heap.get? e = some { cls := .ref C, dict := dx, data := .fields #[.ref ta, .none, .none, .none, .bool false, .none], slots := sl } /\ E (.ref e) s1) E s) :
  wpAny M A (raiseStmt env (some x) none) Q E s := by
 have c1 : (Value.ref C :: bm).contains (.type "BaseException") = true := by rw [List.contains_cons, base, Bool.or_true]
 unfold raiseStmt
 refine wpAny_bind (wpAny_mono h (fun v s1 h1 => ?_) fun _ _ y => y)
 obtain ⟨e, dx, ta, sl, rfl, at_, he, z⟩ := h1
 obtain ⟨hp, g, d, tk, os⟩ := s1
 repeat (first | with_reducible refine wpAny_loadPart_at he ?_ | with_reducible refine wpAny_loadPart_at at_ ?_ | (with_reducible refine wpAny_isSubtype_exc at_ ?_; rw [c1]) | wp_step)
 exact wpAny_raiseNew_none calm z
end
end L2E
set_option Elab.async false
set_option linter.all false
set_option maxRecDepth 100000
namespace L2E
open PySem
section
variable {M : Model} {A : Around} {E : Value -> Shared -> Prop} {s : Shared}
structure Off (h h' : Heap) (e : Addr) (oe : Obj) (vs : Array Value) (l : List Env) (T : Addr) : Prop where
 fresh : h.objs.size <= T
 err : h'.get? e = some { oe with data := .fields (vs.setIfInBounds 1 (.ref T)) }
 tb : ∃ oT ts, h'.get? T = some oT /\ oT.data = .fields ts /\ ts[3]? = some .none
 keep : ∀ b o, b ≠ e -> vs[1]? ≠ some (.ref b) -> b ∉ L2.frs l -> h.get? b = some o -> h'.get? b = some o
 slot : ∀ b o, b ∈ L2.frs l -> h.get? b = some o -> ∃ sl, h'.get? b = some { o with slots := sl }
theorem mapFields_eq {o : Obj} {vs : Array Value} (hd : o.data = .fields vs) (f : Array Value -> Array Value) : o.mapFields f = { o with data := .fields (f vs) } := by
 obtain ⟨c, d, dt, sl⟩ := o
 simp only at hd
 subst hd
 rfl
theorem entryOff {base : Heap} {env : Env} {outer : List Env} {L e : Addr} {oe : Obj} {vs : Array Value} {head : Value} {hadNext : Bool} {Q : Unit -> Shared -> Prop}
  (hfr : A.frames = some (env :: outer)) (hl : s.heap.FunFrames base (env :: outer)) (hf : env.frame = some L)
  (he : s.heap.get? e = some oe) (hd : oe.data = .fields vs) (hsz : 1 < vs.size)
  (h : ∀ h' T, s.heap.objs.size <= T -> h'.get? e = some { oe with data := .fields (vs.setIfInBounds 1 (.ref T)) } -> (∃ oT ts, h'.get? T = some oT /\ oT.data = .fields ts /\ ts[3]? = some .none) ->
   (∀ b o, b ≠ e -> b ∉ L2.frs (env :: outer) -> s.heap.get? b = some o -> h'.get? b = some o) -> (∀ b o, b ∈ L2.frs (env :: outer) -> s.heap.get? b = some o -> ∃ sl, h'.get? b = some { o with slots := sl }) -> Q () { s with heap := h' }) :
  wpAny M A (do let a <- frameOf env; let pl <- entryPlaceOf L hadNext; let b <- EntryCells.newEntry head a .none (rawInt L) .none pl; setField (.ref e) 1 b) (fun _ s' => wpAny M A (setFlight (.ref e) none) Q E s') E s := by
 have hene : e ∉ (env :: outer).filterMap (·.frame) := fun hm => by
  obtain ⟨_, o, ho, hnf⟩ := hl.mem hm
  rw [he] at ho; injection ho with ho; subst ho; exact hnf vs hd
 refine wpAny_bind (wpAny_frameOf_fun hfr hl hf fun h₁ hs₁ => ?_)
 refine wpAny_bind (wpAny_entryPlaceOf fun pl hpl => ?_)
 unfold EntryCells.newEntry newFields
 refine wpAny_bind (wpAny_newObj_type ?_ (hpl.sizeOk5 _ _ _ _ _))
 have he₁ : h₁.get? e = some oe := (hs₁.2.1 e hene).trans he
 have he₂ := Heap.get?_push_of_some (h := h₁) { cls := .type "traceback", dict := none, data := .fields ([head, .ref L, .none, rawInt L, .none] ++ (if pl.isEmpty then List.replicate 6 Value.none else pl)).toArray } he₁
 refine wpAny_setField he₂ hd hsz ?_
 have hTe : h₁.objs.size ≠ e := Nat.ne_of_gt (Heap.lt_size he₁)
 have hd₃ := Obj.data_mapFields hd (·.setIfInBounds 1 (Value.ref h₁.objs.size))
 have he₃ := Heap.get?_update_self (Obj.mapFields (·.setIfInBounds 1 (Value.ref h₁.objs.size))) he₂ (Obj.isFreed_of_fields hd₃)
 have hT₃ := (Heap.get?_update_other (h₁.push { cls := .type "traceback", dict := none, data := .fields ([head, .ref L, .none, rawInt L, .none] ++ (if pl.isEmpty then List.replicate 6 Value.none else pl)).toArray })
  (Obj.mapFields (·.setIfInBounds 1 (Value.ref h₁.objs.size))) (Ne.symm hTe)).trans (Heap.get?_push_size h₁ rfl)
 unfold setFlight
 refine wpAny_bind (wpAny_field he₃ hd₃ (x := .ref h₁.objs.size) (by simp [hsz]) ?_)
 rw [if_pos (show (Value.ref h₁.objs.size != Value.none) = true from by simp)]
 have hsz1 : s.heap.objs.size <= h₁.objs.size := Nat.le_of_eq hs₁.1.symm
 have keep : ∀ b o, b ≠ e -> h₁.get? b = some o ->
   (((h₁.push { cls := .type "traceback", dict := none, data := .fields ([head, .ref L, .none, rawInt L, .none] ++ (if pl.isEmpty then List.replicate 6 Value.none else pl)).toArray }).update e (Obj.mapFields (·.setIfInBounds 1 (Value.ref h₁.objs.size)))).update h₁.objs.size
    (Obj.mapFields (·.setIfInBounds 3 ((none : Option Addr).elim Value.none fun f => rawInt f)))).get? b = some o := fun b o hbe hb => by
  have hbT : h₁.objs.size ≠ b := Nat.ne_of_gt (Heap.lt_size hb)
  rw [Heap.get?_update_other _ _ hbT, Heap.get?_update_other _ _ (Ne.symm hbe)]
  exact Heap.get?_push_of_some _ hb
 refine wpAny_setField hT₃ rfl (by simp only [List.size_toArray, List.length_append, List.length_cons, List.length_nil] <;> omega) (h _ h₁.objs.size hsz1 ?_ ?_ (fun b o hb hn q => ?_) fun b o hb q => ?_)
 ·rw [Heap.get?_update_other _ _ hTe, he₃, mapFields_eq hd]
 ·exact ⟨_, _, Heap.get?_update_self _ hT₃ (Obj.isFreed_of_fields (Obj.data_mapFields rfl _)), Obj.data_mapFields rfl _, by first | (simp; done) | (rcases hpl with rfl | ⟨_, _, _, _, _, _, _, rfl⟩ <;> simp)⟩
 ·exact keep b o hb ((hs₁.2.1 b hn).trans q)
 ·obtain ⟨sl, hs⟩ := hs₁.2.2 b o q
  exact ⟨sl, keep b _ (fun z => hene (z ▸ hb)) hs⟩
theorem noteOff {base : Heap} {env : Env} {outer : List Env} {L e : Addr} {oe : Obj} {vs : Array Value} {Q : Unit -> Shared -> Prop}
  (hfr : A.frames = some (env :: outer)) (hl : s.heap.FunFrames base (env :: outer)) (hf : env.frame = some L)
  (he : s.heap.get? e = some oe) (hd : oe.data = .fields vs)
  (hv : vs[1]? = some .none \/ ∃ T oT ts, vs[1]? = some (.ref T) /\ T ≠ e /\ s.heap.get? T = some oT /\ oT.data = .fields ts /\ ts[3]? = some .none)
  (h : ∀ h' T, Off s.heap h' e oe vs (env :: outer) T -> Q () { s with heap := h' }) :
  wpAny M A (noteFrame (.ref e) env) (fun _ s' => wpAny M A (setFlight (.ref e) none) Q E s') E s := by
 unfold noteFrame
 simp only [hf]
 rcases hv with h1 | ⟨T, oT, ts, h1, hTe, hT, hdT, h3⟩
 ·refine wpAny_bind (wpAny_field he hd h1 ?_)
  rw [if_neg (by decide)]
  exact entryOff hfr hl hf he hd (Array.getElem?_eq_some_iff.mp h1).1 fun h' T a1 a2 a3 a4 a5 => h h' T ⟨a1, a2, a3, fun b o hb _ hn q => a4 b o hb hn q, a5⟩
 ·refine wpAny_bind (wpAny_field he hd h1 ?_)
  rw [if_pos (show (Value.ref T != Value.none) = true from by simp)]
  refine wpAny_bind (wpAny_field hT hdT h3 ?_)
  rw [if_neg (show ¬ ((Value.none == rawInt L) = true) from by simp [rawInt])]
  refine wpAny_bind (wpAny_setField hT hdT (Array.getElem?_eq_some_iff.mp h3).1 ?_)
  have other : ∀ b, b ≠ T -> (s.heap.update T (Obj.mapFields (·.setIfInBounds 3 Value.none))).get? b = s.heap.get? b := fun b hb => Heap.get?_update_other _ _ (Ne.symm hb)
  have noRecord : ∀ b o, s.heap.get? b = some o -> (∀ vs, o.data ≠ .fields vs) -> b ≠ T := fun b o hb hnf q => by
   rw [q, hT] at hb; injection hb with hb; subst hb; exact hnf ts hdT
  have frT : ∀ b, b ∈ L2.frs (env :: outer) -> b ≠ T := fun b hb => by
   obtain ⟨_, o, ho, hnf⟩ := hl.mem hb
   exact noRecord b o ho hnf
  refine entryOff (s := { s with heap := s.heap.update T (Obj.mapFields (·.setIfInBounds 3 Value.none)) }) hfr (hl.of_keeps fun b o hb hnf => ⟨o, (other b (noRecord b o hb hnf)).trans hb, rfl⟩) hf ((other e (Ne.symm hTe)).trans he) hd (Array.getElem?_eq_some_iff.mp h1).1
   fun h' T' a1 a2 a3 a4 a5 => h h' T' ⟨by rw [Heap.size_update] at a1; exact a1, a2, a3, fun b o hb hbT hn q => a4 b o hb hn ((other b fun z => hbT (by rw [h1, z])).trans q), fun b o hb q => a5 b o hb ((other b (frT b hb)).trans q)⟩
theorem leaveOff {base : Heap} {env : Env} {outer : List Env} {L e : Addr} {oe : Obj} {vs : Array Value} {Q : Unit -> Shared -> Prop}
  (hfr : A.frames = some (env :: outer)) (hl : s.heap.FunFrames base (env :: outer)) (hf : env.frame = some L)
  (he : s.heap.get? e = some oe) (hd : oe.data = .fields vs)
  (hv : vs[1]? = some .none \/ ∃ T oT ts, vs[1]? = some (.ref T) /\ T ≠ e /\ s.heap.get? T = some oT /\ oT.data = .fields ts /\ ts[3]? = some .none)
  (h : ∀ h' T, Off s.heap h' e oe vs (env :: outer) T -> Q () { s with heap := h' }) : wpAny M A (leaving env (.ref e)) Q E s := by
 unfold leaving
 exact wpAny_bind (noteOff hfr hl hf he hd hv h)
end
end L2E
set_option Elab.async false
set_option linter.all false
set_option maxRecDepth 100000
namespace L2
open PySem PySem.Spec PyProof.Rows
structure Fly (h : Heap) (e C dx T : Addr) : Prop where
 ex : ∃ vs sl, h.get? e = some { cls := .ref C, dict := some dx, data := .fields vs, slots := sl } /\ vs[1]? = some (.ref T)
 ne : T ≠ e
 tb : ∃ oT ts, h.get? T = some oT /\ oT.data = .fields ts /\ ts[3]? = some .none
def CXE (P : Program) (w : World) : CXT := fun outer H s E ev s' => ∃ (e C dx T : Addr) (H' : Hp), ev = .ref e /\ s'.os = s.os /\ AllBare s'.gens /\ Un (frs outer) [] H H' s.heap s'.heap /\ HOk P w H' s'.heap /\
 Fly s'.heap e C dx T /\ s.heap.objs.size <= e /\ s.heap.objs.size <= T /\ H' e = none /\ H' T = none /\ E (.ref C) (some dx) H'
section
variable {X : Cx} {pins : List (Addr × Obj)} {σ : St} {H : Hp} {s : Shared} {h' : Heap}
structure Own (X : Cx) (pins : List (Addr × Obj)) (H : Hp) (h : Heap) (b : Addr) : Prop where
 new : X.s₀.heap.objs.size <= b
 free : H b = none
 recd : ∃ o vs, h.get? b = some o /\ o.data = .fields vs
 pin : ∀ p ∈ X.pn ++ pins, p.1 ≠ b
theorem Inv.off {e T' : Addr} {oe : Obj} {vs : Array Value} (I : Inv X pins σ H s) (hst : X.stack = X.env :: X.outer) (hfr : X.env.frame = some X.env.locals)
  (O : L2E.Off s.heap h' e oe vs X.stack T') (oe' : Own X pins H s.heap e) (oT : ∀ T, vs[1]? = some (.ref T) -> Own X pins H s.heap T) : Inv X pins σ H { s with heap := h' } := by
 let ch : List Addr := e :: (match (vs[1]? : Option Value) with | some (Value.ref T) => [T] | _ => [])
 have hch : ∀ b ∈ ch, Own X pins H s.heap b := fun b hb => by
  rcases List.mem_cons.mp hb with rfl | hb
  ·exact oe'
  ·split at hb
   ·rename_i T hT
    rw [List.mem_singleton.mp hb]
    exact oT T hT
   ·cases hb
 have nch : ∀ b, b ∉ ch -> b ≠ e /\ vs[1]? ≠ some (.ref b) := fun b hb => ⟨fun z => hb (z ▸ List.mem_cons_self ..), fun z => hb (by
  refine List.mem_cons_of_mem _ ?_
  rw [z]; exact List.mem_singleton.mpr rfl)⟩
 have frL : frs X.stack = X.env.locals :: X.fs := by
  rw [hst]
  unfold frs
  rw [List.filterMap_cons, hfr]; rfl
 have neL : ∀ b, Own X pins H s.heap b -> b ≠ X.env.locals := fun b ob z => by
  obtain ⟨m, ⟨o, es, ep, ho, hd, _⟩, _⟩ := I.loc
  obtain ⟨o', vs', ho', hd'⟩ := ob.recd
  rw [z, ho] at ho'; cases ho'; rw [hd] at hd'; cases hd'
 have neC : ∀ b, Own X pins H s.heap b -> ∀ x c, X.env.cells.lookup x = some c -> c ≠ b := fun b ob x c hc z => by
  obtain ⟨v, o, ho, hd⟩ := I.cell x c hc
  obtain ⟨o', vs', ho', hd'⟩ := ob.recd
  rw [z, ho'] at ho; cases ho; rw [hd'] at hd; cases hd
 refine I.step (g' := s.gens) (d' := s.drawn) (t' := s.toks) (ch := ch) (fun b hb => ⟨.inr (hch b hb).new, neL b (hch b hb), neC b (hch b hb), (hch b hb).pin⟩)
  (fun b o hL hb hc q _ => O.keep b o (nch b hc).1 (nch b hc).2 (by rw [frL]; exact fun z => (List.mem_cons.mp z).elim hL hb) q)
  (fun b o hL hb hc q _ => O.slot b o (by rw [frL]; exact List.mem_cons_of_mem _ hb) q) (fun _ _ _ _ n => n) (fun b o hc q => ?_) (fun _ _ q => q) (fun _ _ _ q => q) (fun b ps q => ⟨#[], by rw [q]; simp⟩) (fun m hm => ?_) (fun b u q => ?_) I.bare
 ·by_cases hb : b ∈ frs X.stack
  ·obtain ⟨sl, z⟩ := O.slot b o hb q
   exact ⟨_, z⟩
  ·exact ⟨o, O.keep b o (nch b hc).1 (nch b hc).2 hb q⟩
 ·obtain ⟨o, es, ep, ho, r⟩ := hm
  obtain ⟨sl, z⟩ := O.slot _ o (by rw [frL]; exact List.mem_cons_self ..) ho
  exact ⟨_, es, ep, z, r⟩
 ·refine (I.hok b u q).stay (fun c v hc z => ?_) (fun _ z => z) fun _ _ z => z
  have hcn : H c ≠ none := by
   rcases hc with rfl | hc
   ·rw [q]; simp
   ·rw [hc]; simp
  refine O.keep c v (fun y => hcn (y ▸ oe'.free)) (fun y => hcn (oT c y).free) (fun y => hcn (I.stkFree c y)) z
end
end L2
set_option Elab.async false
set_option linter.all false
set_option maxRecDepth 100000
namespace L2E
open PySem PySem.Builtin.ObjectAttr
section
variable {prog : Program} {w : World} {A : Around} {E : Value -> Shared -> Prop} {h : Heap} {g : Array GenState} {d : Drawn} {t : Nat} {os : OsState} {a dx : Addr} {o : Obj} {name : Str} {v : Value} {m : Str -> Option Value}
 {nm q : Str} {C N : Addr} {bs bm : List Value} {hdct : Bool} {sn : List Str} {sub : List Value} {ab : Bool} {col : Option Bool} {dd : Option Addr} {k0 k1 k2 k3 k5 : Option Value} {newId : String}
theorem gaChecked {M : Model} {nameV : Value} {Q : Unit -> Shared -> Prop} (base : bm.contains (.type "BaseException") = true) (at_ : h.get? C = some (excClassObj nm q C N bs bm hdct sn sub ab col dd k0 k1 k2 k3 k5 newId))
  (hx : h.get? a = some o) (hc : o.cls = .ref C) (hq : Q () ⟨h, g, d, t, os⟩) : wpAny M A (checkBuiltinCall "BaseException.__getattribute__" ⟨[.ref a, nameV], []⟩) Q E ⟨h, g, d, t, os⟩ := by
 have hk : builtinKind "BaseException.__getattribute__" = some .slot := by decide +kernel
 have hsplit : splitId "BaseException.__getattribute__" = some ("BaseException", "__getattribute__") := by decide +kernel
 have hcB : (Value.ref C :: bm).contains (.type "BaseException") = true := by rw [List.contains_cons, base, Bool.or_true]
 have ha := F.args_bexc_ga (.ref a) nameV
 simp only [checkBuiltinCall, hk, hsplit]
 refine wpAny_bind ?_
 ·unfold isInstance
  repeat (first | (with_reducible refine wpAny_loadPart_at hx ?_; rw [hc]) | (with_reducible refine wpAny_isSubtype_exc at_ ?_; rw [hcB]) | wp_step)
  exact hq
theorem foundEntry {tk : Tok} {Q : Fin -> Shared -> Prop} (at_ : h.get? C = some (excClassObj nm q C N bs bm true sn sub ab col dd k0 k1 k2 k3 k5 newId)) (fn : Finds h C name none)
  (hx : h.get? a = some o) (hc : o.cls = .ref C) (hnc : ∀ c, o.data ≠ .cls c) (hd : o.dict = some dx) (hns : h.Ns dx m) (hv : m name = some v) (hq : Q (.done (.ret v)) ⟨h, g, d, t, os⟩) :
  wpAny (model prog w) A (Builtin.«object.__getattribute__» ⟨[.ref a, .str name tk], []⟩) Q E ⟨h, g, d, t, os⟩ := by
 unfold Builtin.«object.__getattribute__»
 repeat (any_goals (first | assumption | (with_reducible refine wpAny_loadPart_at hx ?_; rw [hc]) | wp_step))
 refine fn _ _ _ _ _ _ _ _ ?_
 repeat (any_goals (first | assumption | (with_reducible refine wpAny_loadPart_at hx ?_; rw [hc]) | with_reducible refine wpAny_loadPart_at at_ ?_ | wp_step))
 split
 ·rename_i c hcd
  exact absurd hcd (hnc c)
 unfold instanceDict
 repeat (first | (with_reducible refine wpAny_loadPart_at hx ?_; rw [hc]) | (with_reducible refine wpAny_loadPart_at hx ?_; rw [hd]) | with_reducible refine wpAny_loadPart_at hx ?_ | with_reducible refine wpAny_loadPart_at at_ ?_ | wp_step)
 rw [hd]
 repeat (first | (with_reducible refine wpAny_nsGet hns ?_; rw [hv]) | wp_step)
 exact hq
theorem foundBy {tk : Tok} {fill expr : Bool} {Q : Value -> Shared -> Prop} (base : bm.contains (.type "BaseException") = true) (at_ : h.get? C = some (excClassObj nm q C N bs bm true sn sub ab col dd k0 k1 k2 k3 k5 newId)) (fn : Finds h C name none)
  (fg : Finds h C "__getattribute__" (some (.builtin "BaseException.__getattribute__"))) (fh : Finds h C "__getattr__" none) (bind : ∀ x : Value, bindSpecial (.builtin "BaseException.__getattribute__") x = pure (.builtin "BaseException.__getattribute__", [x]))
  (hx : h.get? a = some o) (hc : o.cls = .ref C) (hnc : ∀ c, o.data ≠ .cls c) (hd : o.dict = some dx) (hns : h.Ns dx m) (hv : m name = some v) (hh : handedOut v = pure v) (hq : Q v ⟨h, g, d, t, os⟩) :
  wpAny (model prog w) A (getAttrBy (.ref a) (.str name tk) fill expr) Q E ⟨h, g, d, t, os⟩ := by
 have f3 := bind (.ref a)
 have hx0 : (expr && onTheHeap (Value.builtin "BaseException.__getattribute__")) = false := by cases expr <;> rfl
 have hx2 : (Value.builtin "BaseException.__getattribute__" == Value.builtin "object.__getattribute__") = false := by decide +kernel
 have hx1 : (onTheHeap (Value.ref C) && Value.builtin "BaseException.__getattribute__" == Value.builtin "object.__getattribute__") = false := by rw [hx2]; rfl
 unfold getAttrBy
 repeat (any_goals (first | assumption | (with_reducible refine wpAny_loadPart_at hx ?_; rw [hc]) | wp_step))
 refine fg _ _ _ _ _ _ _ _ ?_
 repeat (any_goals (first | assumption | (with_reducible refine wpAny_loadPart_at hx ?_; rw [hc]) | wp_step))
 refine fh _ _ _ _ _ _ _ _ ?_
 repeat (any_goals (first | assumption | (with_reducible refine wpAny_loadPart_at hx ?_; rw [hc]) | wp_step))
 refine codeAny_call_builtin (by decide +kernel) F.entry_bexc_ga (gaChecked base at_ hx hc (foundEntry at_ fn hx hc hnc hd hns hv ?_))
 repeat (any_goals (first | assumption | wp_step))
theorem bga_bind (x : Value) : bindSpecial (.builtin "BaseException.__getattribute__") x = pure (.builtin "BaseException.__getattribute__", [x]) := by kernel_rfl
theorem getErr {expr : Bool} {Q : Value -> Shared -> Prop} (base : bm.contains (.type "BaseException") = true) (at_ : h.get? C = some (excClassObj nm q C N bs bm true sn sub ab col dd k0 k1 k2 k3 k5 newId)) (fn : Finds h C name none)
  (fg : Finds h C "__getattribute__" (some (.builtin "BaseException.__getattribute__"))) (fh : Finds h C "__getattr__" none)
  (hx : h.get? a = some o) (hc : o.cls = .ref C) (hnc : ∀ c, o.data ≠ .cls c) (hd : o.dict = some dx) (hns : h.Ns dx m) (hv : m name = some v) (hh : handedOut v = pure v) (hq : Q v ⟨h, g, d, t + 1, os⟩) :
  wpAny (model prog w) A (getAttr (.ref a) name expr) Q E ⟨h, g, d, t, os⟩ := by
 unfold getAttr
 repeat (any_goals (first | assumption | with_reducible apply foundBy base at_ fn fg fh bga_bind hx hc hnc hd hns hv hh | wp_step))
end
end L2E
set_option Elab.async false
set_option linter.all false
set_option maxRecDepth 100000
namespace L2
open PySem PySem.Spec PyProof.Rows
structure ErrC (K : PySem.W.Frag) (C f : Addr) (bm : List Value) : Prop where
 obj : ∃ nm q N bs sn sub ab col dd k0 k1 k2 k3 k5, K.lookup C = some (excClassObj nm q C N bs bm true sn sub ab col dd k0 k1 k2 k3 k5 "ValueError.__new__")
 init : PySem.W.findIn K (.ref C) "__init__" = some (some (.ref f))
 fn : PySem.W.isFn K (.ref f) = true
 kp : PySem.W.keepIn K (.ref C) = true
 sa : PySem.W.findIn K (.ref C) "__setattr__" = some (some (.builtin "object.__setattr__"))
 ga : PySem.W.findIn K (.ref C) "__getattribute__" = some (some (.builtin "BaseException.__getattribute__"))
 gh : PySem.W.findIn K (.ref C) "__getattr__" = some none
 tail : L2E.Tail bm "ValueError"
 base : bm.contains (.type "BaseException") = true
 own : bm.contains (.type "object") = true
 pass : ∀ x, refuseLoop x "__setattr__" bm = pure ()
theorem finds_K {K : PySem.W.Frag} {h : Heap} {C : Addr} {x : Str} {v : Option Value} (X : K.In h) (e : PySem.W.findIn K (.ref C) x = some v) : L2E.Finds h C x v := fun _ _ _ _ _ _ _ _ z => (PySem.W.looks_findIn X e).here z
theorem isFn_at {K : PySem.W.Frag} {h : Heap} {f : Addr} (X : K.In h) (e : PySem.W.isFn K (.ref f) = true) : ∃ o, h.get? f = some o /\ o.cls = .type "function" := by
 have e : (K.lookup f).map (·.cls) = some (.type "function") := beq_iff_eq.mp e
 cases q : K.lookup f with
 | none => rw [q] at e; cases e
 | some o => rw [q] at e; exact ⟨o, X _ _ q, by injection e⟩
def errO (e C : Addr) (dx : Option Addr) : HO := .ext fun h => ∃ t0, h.get? e = some { cls := .ref C, dict := dx, data := .fields #[.ref t0, .none, .none, .none, .bool false, .none] }
theorem errO_ok {P : Program} {w : World} {H : Hp} {h : Heap} {e C t0 : Addr} {dx : Option Addr} (he : h.get? e = some { cls := .ref C, dict := dx, data := .fields #[.ref t0, .none, .none, .none, .bool false, .none] }) : ObjOk P w H h e (errO e C dx) :=
 ⟨⟨t0, he⟩, ⟨_, he⟩, fun _ _ ⟨t, q⟩ k => ⟨t, k _ q⟩⟩
theorem errO_at {P : Program} {w : World} {H : Hp} {h : Heap} {e C : Addr} {dx : Option Addr} (ok : HOk P w H h) (he : H e = some (errO e C dx)) : ∃ t0, h.get? e = some { cls := .ref C, dict := dx, data := .fields #[.ref t0, .none, .none, .none, .bool false, .none] } := (ok e _ he).1
theorem upd_self {H : Hp} {a : Addr} {o : HO} (h : H a = some o) : upd H a o = H := funext fun b => by
 by_cases e : b = a
 ·subst e; rw [upd_same, h]
 ·rw [upd_ne e]
section
variable {X : Cx} {p ap pos : Pos} {a b : Expr} {ta : TA}
theorem ve_find {K : PySem.W.Frag} : PySem.W.findCls K (.type "ValueError") (.type "type") "__init__" = some (.val (.builtin "ValueError.__init__")) := by
 kernel_rfl
def tInitB (K : PySem.W.Frag) (ta : TA) : TE := fun σ H Q => ta σ H fun vs H1 => ∃ e C u f bm, vs = [.ref e, u] /\ ErrC K C f bm /\ H1 e = some (errO e C none) /\ Q .non H1
theorem pe_initB {pl : Sem Bool} (hg : Gl X "ValueError") (hm : X.mg "ValueError" = none) (ha : PA X [a, b] ta)
  (ht : eval (.Call (.Attribute (.Name "ValueError" p) "__init__" ap) [a, b] [] pos) X.env = (do
   let ov <- eval (.Name "ValueError" p) X.env
   standAt ap.atName
   let (f, first) <- holding [ov] (getMethod ov "__init__" pl)
   callWith pos f first (backTo pos (starEach [a, b] X.env)) (backToKw pos (keywordEach [] X.env))) := by rfl)
  (he : starEach [a, b] X.env = (false, eval a X.env) :: starEach [b] X.env := by rfl) (hpl : (backTo pos (starEach [b] X.env)).any (·.1) = false := by rfl) :
  PE X (.Call (.Attribute (.Name "ValueError" p) "__init__" ap) [a, b] [] pos) (tInitB X.K ta) := by
 intro pins s σ H Q I h
 refine PySem.W.methodCall_KW (pl := pl) (ld_blt I hg hm (by decide +kernel : bootBuiltins "ValueError" = some (.type "ValueError")) ?_) ht
 have L0 : ∀ {M : Model} {h : Heap}, PySem.W.Looks M h (typeOf (.type "ValueError")) (.type "type") := PySem.W.Looks.of_pure (PySem.W.kitMeta_of (by decide +kernel))
 have hg0 : PySem.W.findIn X.K (.type "type") "__getattribute__" = some (some (.builtin "type.__getattribute__")) := PySem.W.type_tga
 have L1 : PySem.W.Looks (model X.prog X.w) s.heap (specialOf (.type "ValueError") "__getattribute__") (some (.builtin "type.__getattribute__")) := L0.andThen (PySem.W.looks_findIn I.kIn hg0)
 unfold getMethod
 refine wpAny_bind (L1.here ?_)
 dsimp only
 rw [if_pos PySem.W.canon_tga]
 refine wpAny_bind (PySem.W.cls_open I.kIn (PySem.W.Looks.of_pure (by kernel_rfl)) L0 hg0 (PySem.W.looks_hook I.kIn (r := none) (by rfl)) (by show PySem.W.subIn X.K _ _ = _; rfl) ve_find (wpAny_pure ?_))
 show wpAny _ _ (handedOut _) _ _ _
 rw [PySem.W.handedOut_of (by decide +kernel)]
 refine wpAny_pure (wpAny_pure ?_)
 have I0 := I.tok (s.toks + 1)
 refine PyProof.Rows.callWith_builtin1 (thn (ha pos pins _ σ H _ I0 h) fun us s1 ⟨vs, H1, I1, r1, q1⟩ => ?_) he hpl
 obtain ⟨e, C, u, f, bm, rfl, ec, hH, q⟩ := q1
 cases r1 with
 | cons ra rb =>
  cases rb with
  | cons rc rd =>
   cases rd
   cases ra
   rename_i u'
   obtain ⟨nm, q0, N, bs, sn, sub, ab, col, dd, k0, k1, k2, k3, k5, lk⟩ := ec.obj
   have at_ := I1.kIn _ _ lk
   obtain ⟨t0, hx⟩ := errO_at I1.hok hH
   obtain ⟨hh, g, d, t, os⟩ := s1
   refine L2E.initErr PySem.F.excBase_ValueError ec.tail.base at_ hx (by show 1 <= sizeLine; decide) fun h' z1 z2 z3 => ?_
   have J := I1.write (h' := h') (x := e) (e := e) (o := errO e C none) (t' := t) (by rw [hH]; exact True.intro) (.inl rfl) z1 ⟨_, z2⟩ (errO_ok z2)
   rw [upd_self hH] at J
   exact ⟨.non, H1, J, rfl, q⟩
structure ClsFn (K : PySem.W.Frag) (C f : Addr) : Prop where
 sp : PySem.W.specialIn K (.ref C) "__getattribute__" = some (some (.builtin "type.__getattribute__"))
 rd : PySem.W.readsIn K C (.type "type") = true
 fc : PySem.W.findCls K (.ref C) (.type "type") "__init__" = some (.val (.ref f))
 kp : PySem.W.keepIn K (.ref f) = true
theorem pe_initM {pl : Sem Bool} {CX : CXT} {E : XK} {k : Nat} {C f : Addr} {fd : FuncData} {ps : List Str} {sp : Sp} {x : Str} {es : List Expr} (cf : ClsFn X.K C f) (F : FnOk X.prog X.w X.K X.mg X.base CX k f fd ps sp) (hr : Room k X.A) (hb : Binds X.K fd ps []) (hx : Passes CX X E)
  (hg : Gl X x) (hm : X.mg x = some (.ref C)) (ha : PA X (a :: es) ta)
  (ht : eval (.Call (.Attribute (.Name x p) "__init__" ap) (a :: es) [] pos) X.env = (do
   let ov <- eval (.Name x p) X.env
   standAt ap.atName
   let (f, first) <- holding [ov] (getMethod ov "__init__" pl)
   callWith pos f first (backTo pos (starEach (a :: es) X.env)) (backToKw pos (keywordEach [] X.env))) := by rfl)
  (hdb : (x == ("__debug__" : Str)) = false := by decide) (he : starEach (a :: es) X.env = (false, eval a X.env) :: starEach es X.env := by rfl) (hpl : (backTo pos (starEach es X.env)).any (·.1) = false := by rfl) :
  PE X (.Call (.Attribute (.Name x p) "__init__" ap) (a :: es) [] pos) (tCall sp [] E ta) := by
 intro pins s σ H Q I h
 refine PySem.W.methodCall_KW (pl := pl) (ld_glob I hg hm ?_ hdb) ht
 refine PySem.W.method_cls I.kIn cf.sp (PySem.W.cls_value I.kIn cf.rd cf.fc rfl ?_)
 have I0 := I.tok (s.toks + 1)
 refine PySem.W.callWith_K (h₀ := X.base) I.ok.mod.kin cf.kp (thn (ha pos pins _ σ H _ I0 h) fun us s1 ⟨vs, H1, I1, r, q⟩ => ⟨I1.kIn, ?_⟩) he hpl
 exact run_fn F hr hb .nil hx I1 r q
end
end L2
set_option Elab.async false
set_option linter.all false
set_option maxRecDepth 100000
namespace L2
open PySem PySem.Spec PyProof.Rows
section
variable {X : Cx} {pins : List (Addr × Obj)} {σ : St} {H : Hp} {s : Shared} {pos pos' : Pos} {o value : Expr} {fld : Str} {ta tv : TE}
def sSetE (K : PySem.W.Frag) (ta tv : TE) (fld : Str) : TS := fun D σ H => tv σ H fun y H1 => ta σ H1 fun x H2 => ∃ e C f bm, x = .ref e /\ ErrC K C f bm /\ PySem.W.findIn K (.ref C) fld = some none /\ H2 e = some (errO e C none) /\
 ∀ dx, H2 dx = none -> dx ≠ e -> D.nx σ (upd (upd H2 e (errO e C (some dx))) dx (.xd [(fld, y)]))
theorem ps_setE (ha : PE X o ta) (hv : PE X value tv) (hs : swapsWith value (some (.Attribute o fld pos')) pos.line X.env = pure false) : PS X (.Assign [.Attribute o fld pos'] value pos) (sSetE X.K ta tv fld) := by
 intro pins s σ H D I h
 refine plainObj_wpAny_Assign_Attribute (thn (hv pins s σ H _ I h) fun u s1 ⟨y, H1, I1, ry, q⟩ => thn (ha pins s1 σ H1 _ I1 q) fun ov s2 ⟨x, H2, I2, rx, e, C, f, bm, ex, ec, nf, hH, q2⟩ => ?_) hs
 subst ex
 obtain rfl : ov = Value.ref e := rx
 obtain ⟨nm, q0, N, bs, sn, sub, ab, col, dd, k0, k1, k2, k3, k5, lk⟩ := ec.obj
 have at_ := I2.kIn _ _ lk
 obtain ⟨t0, hx⟩ := errO_at I2.hok hH
 obtain ⟨hh, g, d, t, os⟩ := s2
 refine L2E.setErr PySem.F.store_ValueError ec.own at_ (ec.pass _) (finds_K I2.kIn ec.sa) (finds_K I2.kIn nf) hx rfl rfl (fun c z => nomatch z) fun h' tk' z1 z2 z3 => ?_
 have lt := Heap.lt_size hx
 have hn : H2 hh.objs.size = none := I2.hok.fresh (Nat.le_refl _)
 have J := I2.write (h' := h') (x := e) (e := e) (o := errO e C (some hh.objs.size)) (t' := tk') (by rw [hH]; exact True.intro) (.inl rfl) z3 ⟨_, z1⟩ (errO_ok z1)
 have ne : hh.objs.size ≠ e := Nat.ne_of_gt lt
 have hn' : upd H2 e (errO e C (some hh.objs.size)) hh.objs.size = none := by rw [upd_ne ne]; exact hn
 have J2 := J.take (D := hh.objs.size) (o := .xd [(fld, y)]) (I2.fpOk (Nat.le_refl _) hn') I2.sz ⟨_, z2, fun n => ?_⟩
 ·exact ⟨σ, _, J2, q2 _ hn ne⟩
 ·show RelO (List.lookup n [(fld, y)]) _
  rw [List.lookup_cons]
  by_cases c : n = fld
  ·subst c
   simp only [beq_self_eq_true, if_true]
   exact ry
  ·have : (n == fld) = false := by simpa using c
   rw [this, if_neg c]
   exact True.intro
def del (H : Hp) (e : Addr) : Hp := fun b => if b = e then none else H b
theorem del_same {H : Hp} {e : Addr} : del H e e = none := if_pos rfl
theorem del_ne {H : Hp} {e b : Addr} (n : b ≠ e) : del H e b = H b := if_neg n
theorem del_upd {H : Hp} {e : Addr} {o : HO} : del (upd H e o) e = del H e := funext fun b => by
 by_cases c : b = e
 ·subst c; rw [del_same, del_same]
 ·rw [del_ne c, del_ne c, upd_ne c]
theorem del_updN {H : Hp} {e a : Addr} {o : HO} (n : a ≠ e) : del (upd H a o) e = upd (del H e) a o := funext fun b => by
 by_cases c : b = e
 ·subst c; rw [del_same, upd_ne n.symm, del_same]
 ·rw [del_ne c]
  by_cases d : b = a
  ·subst d; rw [upd_same, upd_same]
  ·rw [upd_ne d, upd_ne d, del_ne c]
theorem del_none {H : Hp} {e : Addr} (h : H e = none) : del H e = H := funext fun b => by
 by_cases c : b = e
 ·subst c; rw [del_same, h]
 ·rw [del_ne c]
theorem Inv.drop {e C : Addr} {dx : Option Addr} (I : Inv X pins σ H s) (he : H e = some (errO e C dx)) : Inv X pins σ (del H e) s := by
 have nt : ∀ b u, H b = some u -> (∀ φ, u ≠ .ext φ) -> del H e b = some u := fun b u q n => by
  rw [del_ne]
  ·exact q
  ·rintro rfl
   rw [he] at q; cases q
   exact n _ rfl
 have nn : ∀ b, H b = none -> del H e b = none := fun b q => by
  by_cases c : b = e
  ·subst c; exact del_same
  ·rw [del_ne c]; exact q
 refine ⟨I.ok, I.os, I.bare, ⟨I.base.keep, I.base.slot, fun b o q n hx => nn b (I.base.free b o q n hx), I.base.there, fun b xs q => nt b _ (I.base.tups b xs q) (fun _ z => nomatch z), fun b o u q => nt b _ (I.base.frzs b o u q) (fun _ z => nomatch z), fun b ps q => ?_⟩, I.loc, I.cell, nn _ I.free, fun x c q => nn c (I.freeC x c q), fun p hp => ?_, fun b u q => ?_, I.len⟩
 ·obtain ⟨m, z⟩ := I.base.tbls b ps q
  exact ⟨m, nt b _ z (fun _ y => nomatch y)⟩
 ·obtain ⟨z1, z2, z3⟩ := I.pin p hp
  exact ⟨z1, nn _ z2, z3⟩
 ·have c : b ≠ e := by rintro rfl; rw [del_same] at q; cases q
  rw [del_ne c] at q
  exact (I.hok b u q).stay (fun _ _ _ z => z) (fun a z => nt a _ z (fun _ y => nomatch y)) fun a xs z => nt a _ z (fun _ y => nomatch y)
theorem run_err {CX : CXT} {E : XK} {k : Nat} {C f : Addr} {bm : List Value} {fd : FuncData} {ps : List Str} {sp : Sp} {Q : Value -> Shared -> Prop} {us : List Value} {vs : List V} (M : ErrC X.K C f bm) (F : FnOk X.prog X.w X.K X.mg X.base CX k f fd ps sp) (hr : Room (k + 1) X.A) (hb : Binds X.K fd ps [])
  (hx : Passes CX X E) (I : Inv X pins σ H s) (r : Vals vs us) (few : us.length <= sizeLine)
  (h : ∀ e, s.heap.objs.size <= e -> H e = none -> sp (.ref e :: vs) (upd H e (errO e C none)) (fun v H2 => v = .non /\ ∀ s', Inv X pins σ H2 s' -> Q (.ref e) s') E) :
  wpAny (model X.prog X.w) X.A (call (.ref C) us) Q X.xe s := by
 obtain ⟨nm, q0, N, bs, sn, sub, ab, col, dd, k0, k1, k2, k3, k5, lk⟩ := M.obj
 have at_ := I.kIn _ _ lk
 obtain ⟨of, hf, hc⟩ := isFn_at I.kIn M.fn
 obtain ⟨hh, g, d, t, os⟩ := s
 have hq := h (hh.objs.size + 1) (Nat.le_succ _) (I.hok.fresh (Nat.le_succ _))
 have kl : PySem.W.Frag.In X.K (L2E.laid hh C us) := I.kIn.keeps fun _ _ z => L2E.laid_old z
 have I2 : Inv X pins σ (upd H (hh.objs.size + 1) (errO (hh.objs.size + 1) C none)) ⟨L2E.laid hh C us, g, d, t, os⟩ := I.laid (h' := L2E.laid hh C us) (a := hh.objs.size + 1) (o := errO (hh.objs.size + 1) C none) (t' := t) (fun _ _ z => L2E.laid_old z) (Nat.le_succ _) (errO_ok L2E.laid_new)
 have r2 : Vals (V.ref (hh.objs.size + 1) :: vs) (Value.ref (hh.objs.size + 1) :: us) := .cons rfl r
 have hl : (Value.ref (hh.objs.size + 1) :: us ++ []).length = ps.length := by
  rw [List.append_nil, <- r2.length]
  exact F.len _ _ _ _ hq
 refine L2E.callErr PySem.F.excBase_ValueError M.tail at_ (finds_K kl M.init) hf hc few ?_
 refine wpAny_call (codeAny_mono (F.run _ X.stack _ _ ⟨Value.ref (hh.objs.size + 1) :: us, []⟩ (Value.ref (hh.objs.size + 1) :: us) _ _ E (hr.make C us []) (I2.env0.make C us []) (by have := hb _ (Value.ref (hh.objs.size + 1) :: us) I2.kIn hl; rw [List.append_nil] at this; exact this) r2 hq) fun r s' hq' => ?_)
 cases r with
 | error e => exact hx pins σ _ _ e s' I2 hq'
 | ok fl =>
  cases fl with
  | ret u =>
   obtain ⟨v, H', I3, rv, ev, q3⟩ := I2.after hq'
   subst ev
   exact ⟨rv, q3 _ I3⟩
  | next => exact False.elim hq'
  | brk => exact False.elim hq'
  | cont => exact False.elim hq'
def Throws (X : Cx) (E : XK) : Prop := ∀ (pins : List (Addr × Obj)) (σ : St) (H : Hp) (s : Shared) (e C dx : Addr) (vs : Array Value), Inv X pins σ H s -> s.heap.get? e = some { cls := .ref C, dict := some dx, data := .fields vs } -> vs[1]? = some .none -> Own X pins H s.heap e -> E (.ref C) (some dx) H -> X.xe (.ref e) s
end
theorem throwE {P : Program} {w : World} {K : PySem.W.Frag} {mg : Str -> Option Value} {base : Heap} {N : List Str} {qual : Str} {scope : Scope} {f : Addr} {cd : Value} {A : Around} {outer : List Env} {s0 : Shared} {H0 : Hp} {E : XK} :
  Throws (cxOf (CXE P w) P w K mg base N qual scope f cd A outer s0 H0 E) E := by
 intro pins σ H s e C dx vs I hx h1 ow hE
 have le := Heap.lt_size hx
 show wpAny _ _ (leaving _ (.ref e)) _ _ _
 refine L2E.leaveOff (base := base) I.ok.frames I.stack rfl hx rfl (.inl h1) fun h' T' O => ?_
 have J := I.off (h' := h') rfl rfl O ow fun T2 hT2' => by rw [h1] at hT2'; cases hT2'
 have hv1 : 1 < vs.size := (Array.getElem?_eq_some_iff.mp h1).1
 exact ⟨e, C, dx, T', H, rfl, J.os, J.bare, J.base, J.hok, ⟨⟨_, #[], O.err, by simp [hv1]⟩, Nat.ne_of_gt (Nat.lt_of_lt_of_le le O.fresh), O.tb⟩, ow.new, Nat.le_trans I.sz O.fresh, ow.free, I.hok.fresh O.fresh, hE⟩
end L2
set_option Elab.async false
set_option linter.all false
set_option maxRecDepth 100000
namespace L2
open PySem PySem.Spec PyProof.Rows
def spMeet (K : PySem.W.Frag) : Sp := fun vs H Q _ => ∃ e C u f bm, vs = [.ref e, u] /\ ErrC K C f bm /\ H e = some (errO e C none) /\ Q .non H
def spErr1 (C : Addr) (fld : Str) : Sp := fun vs H Q _ => ∃ e v, vs = [.ref e, v] /\ H e = some (errO e C none) /\ ∀ dx, H dx = none -> dx ≠ e -> Q .non (upd (upd H e (errO e C (some dx))) dx (.xd [(fld, v)]))
section
variable {X : Cx} {a : Expr} {t : TA} {E : XK} {k : Nat} {C f : Addr} {bm : List Value} {fd : FuncData} {ps : List Str} {x fld : Str} {p cpos pos : Pos}
def tRaise (C : Addr) (fld : Str) (E : XK) (t : TA) : TS := fun _ σ H => t σ H fun vs H1 => ∃ v, vs = [v] /\ ∀ dx, H1 dx = none -> E (.ref C) (some dx) (upd H1 dx (.xd [(fld, v)]))
theorem ps_raise1 (hc : X.calm = true) (M : ErrC X.K C f bm) (F : FnOk X.prog X.w X.K X.mg X.base CX0 k f fd ps (spErr1 C fld)) (hr : Room (k + 1) X.A) (hb : Binds X.K fd ps []) (hg : Gl X x) (hm : X.mg x = some (.ref C)) (ht : Throws X E) (ha : PA X [a] t)
  (hdb : (x == ("__debug__" : Str)) = false := by decide) (he : starEach [a] X.env = (false, eval a X.env) :: starEach [] X.env := by rfl) (hpl : (backTo cpos (starEach [] X.env)).any (·.1) = false := by rfl) :
  PS X (.Raise (some (.Call (.Name x p) [a] [] cpos)) none pos) (tRaise C fld E t) := by
 intro pins s σ H D I h
 obtain ⟨nm, q0, N, bs, sn, sub, ab, col, dd, k0, k1, k2, k3, k5, lk⟩ := M.obj
 have go : wpAny (model X.prog X.w) X.A (eval (.Call (.Name x p) [a] [] cpos) X.env) (fun v s1 => ∃ e dx ta sl, v = .ref e /\ s1.heap.get? C = some (excClassObj nm q0 C N bs bm true sn sub ab col dd k0 k1 k2 k3 k5 "ValueError.__new__") /\ s1.heap.get? e = some { cls := .ref C, dict := dx, data := .fields #[.ref ta, .none, .none, .none, .bool false, .none], slots := sl } /\ X.xe (.ref e) s1) X.xe s := by
  refine wpAny_Call_Name_kw (ld_glob I hg hm ?_ hdb)
  refine PySem.W.callWith_K (h₀ := X.base) I.ok.mod.kin M.kp (thn (ha cpos pins s σ H _ I h) fun us s1 ⟨vs, H1, I1, r, q⟩ => ⟨I1.kIn, ?_⟩) he hpl
  obtain ⟨v, rfl, q⟩ := q
  obtain ⟨u, rfl, ru⟩ := vals1 r
  refine run_err M F hr hb pass0 I1 r (by show 1 <= sizeLine; decide) fun e le hn => ⟨e, v, rfl, upd_same, fun dx hdx ne => ⟨rfl, fun s' I' => ?_⟩⟩
  rw [upd_ne ne] at hdx
  have hE := q dx hdx
  have heq : (upd (upd (upd H1 e (errO e C none)) e (errO e C (some dx))) dx (.xd [(fld, v)])) e = some (errO e C (some dx)) := by rw [upd_ne ne.symm, upd_same]
  obtain ⟨t0, hx⟩ := errO_at I'.hok heq
  have I'' := I'.drop heq
  rw [del_updN ne, del_upd, del_upd, del_none hn] at I''
  refine ⟨e, some dx, t0, #[], rfl, I'.kIn _ _ lk, hx, ht pins σ _ s' e C dx _ I'' hx rfl ⟨Nat.le_trans I1.sz le, by rw [upd_ne ne.symm]; exact hn, ⟨_, _, hx, rfl⟩, fun p hp z => ?_⟩ hE⟩
  have := Heap.lt_size (I1.pin p hp).1
  rw [z] at this
  exact absurd (Nat.lt_of_lt_of_le this le) (Nat.lt_irrefl _)
 rw [arm_exec_Raise]
 first
  | exact wpAny_bind (wpAny_standAt (L2E.raiseErr M.base (I.ok.hd hc) (wpAny_bind (wpAny_mono go (fun v s₁ h₁ => wpAny_bind (wpAny_standAt (wpAny_pure h₁))) fun _ _ x => x))))
  | (simp only [evalOpt, Option.map]; exact wpAny_bind (wpAny_standAt (L2E.raiseErr M.base (I.ok.hd hc) (wpAny_bind (wpAny_mono go (fun v s₁ h₁ => wpAny_bind (wpAny_standAt (wpAny_pure h₁))) fun _ _ x => x)))))
  | (show wpAny _ _ (do standAt pos; raiseStmt X.env (some (do let v <- eval (.Call (.Name x p) [a] [] cpos) X.env; standAt pos; pure v)) none) _ _ s; exact wpAny_bind (wpAny_standAt (L2E.raiseErr M.base (I.ok.hd hc) (wpAny_bind (wpAny_mono go (fun v s₁ h₁ => wpAny_bind (wpAny_standAt (wpAny_pure h₁))) fun _ _ x => x)))))
end
theorem Fun.okE {P : Program} {w : World} {K : PySem.W.Frag} {mg : Str -> Option Value} {base : Heap} {x qual : Str} {st : Stmt} {f : Addr} {fd : FuncData} {N ps : List Str} {k : Nat} {sp : Sp} (F : Fun K x qual st f fd) (S : FnScope N ps (defScope st)) (len : ∀ vs H Q E, sp vs H Q E -> vs.length = ps.length)
  (hbody : ∀ (cdv : Value) (A : Around) (outer : List Env) (s : Shared) (H : Hp) (vs : List V) (Q : VK) (E : XK), Room k (A.deeper (envOfC qual (defScope st) s.heap.objs.size f cdv)) -> sp vs H Q E ->
   ∃ t, PSs (cxOf (CXE P w) P w K mg base N qual (defScope st) f cdv A outer s H E) (defBody st) t /\ t { nx := fun _ H' => Q .non H', rt := Q } (start N vs) H) : FnOk P w K mg base (CXE P w) (k + 1) f fd ps sp := by
 obtain ⟨oc, od, kV, doc, pm, an, cdv, ct, osl, rfl, lk, hcd⟩ := F.ex
 exact fn_of lk hcd S len fun A outer s H vs Q E hr hsp => hbody cdv A outer s H vs Q E hr hsp
end L2
set_option Elab.async false
set_option linter.all false
set_option maxRecDepth 100000
namespace L2
open PySem PySem.Spec PyProof.Rows
abbrev Cx.pinned (X : Cx) (pn : List (Addr × Obj)) : Cx := { X with pn := pn }
abbrev Cx.suite (X : Cx) (e : Value) : Cx := { X with A := X.A.mark (some e), calm := false, xe := fun _ _ => False }
section
variable {X : Cx} {pins : List (Addr × Obj)} {σ : St} {H : Hp} {s : Shared} {E : XK} {xe : Value -> Shared -> Prop} {ev : Value}
theorem Inv.pinT (I : Inv X pins σ H s) : Inv (X.pinned (X.pn ++ pins)) [] σ H s :=
 ⟨⟨I.ok.mod, I.ok.kind, I.ok.glob, I.ok.blt, I.ok.above, I.ok.inj, I.ok.has, I.ok.cab, I.ok.hd, I.ok.frames, I.ok.stk, I.ok.exf, I.ok.bs, I.ok.bsz, I.ok.noex, I.ok.exfs, I.ok.funs, I.ok.frf⟩, I.os, I.bare, I.base, I.loc, I.cell, I.free, I.freeC, fun p hp => I.pin p (by simpa using hp), I.hok, I.len⟩
theorem Inv.unpinT {ps : List (Addr × Obj)} (I : Inv (X.pinned (X.pn ++ pins)) ps σ H s) : Inv X pins σ H s :=
 ⟨⟨I.ok.mod, I.ok.kind, I.ok.glob, I.ok.blt, I.ok.above, I.ok.inj, I.ok.has, I.ok.cab, I.ok.hd, I.ok.frames, I.ok.stk, I.ok.exf, I.ok.bs, I.ok.bsz, I.ok.noex, I.ok.exfs, I.ok.funs, I.ok.frf⟩, I.os, I.bare, I.base, I.loc, I.cell, I.free, I.freeC, fun p hp => I.pin p (List.mem_append_left _ hp), I.hok, I.len⟩
theorem Inv.suite (I : Inv X pins σ H s) (e : Value) : Inv (X.suite e) pins σ H s :=
 ⟨⟨I.ok.mod, I.ok.kind, I.ok.glob, I.ok.blt, I.ok.above, I.ok.inj, I.ok.has, I.ok.cab, (fun z => absurd z (by simp)), I.ok.frames, I.ok.stk, I.ok.exf, I.ok.bs, I.ok.bsz, I.ok.noex, I.ok.exfs, I.ok.funs, I.ok.frf⟩, I.os, I.bare, I.base, I.loc, I.cell, I.free, I.freeC, I.pin, I.hok, I.len⟩
theorem Inv.unsuite (ok : X.Ok) (I : Inv (X.suite ev) pins σ H s) : Inv X pins σ H s := ⟨ok, I.os, I.bare, I.base, I.loc, I.cell, I.free, I.freeC, I.pin, I.hok, I.len⟩
theorem SP.unpinned {D : Ends} {f : Flow} (h : SP ((X.pinned (X.pn ++ pins)).wish xe) [] D f s) : SP X pins D f s := by
 cases f with
 | next => obtain ⟨σ', H', I, q⟩ := h; exact ⟨σ', H', I.unwish.unpinT, q⟩
 | brk => obtain ⟨σ', H', I, q⟩ := h; exact ⟨σ', H', I.unwish.unpinT, q⟩
 | cont => obtain ⟨σ', H', I, q⟩ := h; exact ⟨σ', H', I.unwish.unpinT, q⟩
 | ret u => obtain ⟨v, σ', H', I, r, q⟩ := h; exact ⟨v, σ', H', I.unwish.unpinT, r, q⟩
end
def XE (X : Cx) (E : XK) : Value -> Shared -> Prop := fun ev s' => ∃ (e C dx : Addr) (vs : Array Value) (sl : Array (Option Value)) (σ' : St) (H' : Hp), ev = .ref e /\ Inv X [] σ' H' s' /\ s'.heap.get? e = some { cls := .ref C, dict := some dx, data := .fields vs, slots := sl } /\ Own X [] H' s'.heap e /\
 (vs[1]? = some .none \/ ∃ T oT ts, vs[1]? = some (.ref T) /\ T ≠ e /\ s'.heap.get? T = some oT /\ oT.data = .fields ts /\ ts[3]? = some .none /\ Own X [] H' s'.heap T) /\ E (.ref C) (some dx) H'
theorem Inv.nopins {X : Cx} {pins : List (Addr × Obj)} {σ : St} {H : Hp} {s : Shared} (I : Inv X pins σ H s) : Inv X [] σ H s := I.pins_of fun p hp => nomatch hp
theorem passT {Y : Cx} {E : XK} : Passes (CXE Y.prog Y.w) (Y.wish (XE Y E)) E := by
 intro pins σ H s ev s' I hc
 obtain ⟨e, C, dx, T, H', rfl, os, bare, un, hok, fly, e1, t1, he, hT, hE⟩ := hc
 obtain ⟨hh, g, d, t, os'⟩ := s'
 obtain rfl : os' = s.os := os
 have I' := I.call (h' := hh) (g' := g) (d' := d) (t' := t) (ch := []) un hok bare (fun b z => absurd z (by simp))
 obtain ⟨vs, sl, hx, h1⟩ := fly.ex
 obtain ⟨oT, ts, hT1, hT2, hT3⟩ := fly.tb
 have pl : ∀ b, s.heap.objs.size <= b -> ∀ p ∈ (Y.wish (XE Y E)).pn ++ pins, p.1 ≠ b := fun b hb p hp z => by
  have := Heap.lt_size (I.pin p hp).1
  rw [z] at this
  exact absurd (Nat.lt_of_lt_of_le this hb) (Nat.lt_irrefl _)
 have own : ∀ b, s.heap.objs.size <= b -> H' b = none -> (∃ o vs, hh.get? b = some o /\ o.data = .fields vs) -> Own Y [] H' hh b := fun b hb hn hr => ⟨Nat.le_trans I.sz hb, hn, hr, fun p hp => pl b hb p (List.mem_append_left _ (by simpa using hp))⟩
 exact ⟨e, C, dx, vs, sl, σ, H', rfl, I'.unwish.nopins, hx, own e e1 he ⟨_, vs, hx, rfl⟩, .inr ⟨T, oT, ts, h1, fly.ne, hT1, hT2, hT3, own T t1 hT ⟨oT, ts, hT1, hT2⟩⟩, hE⟩
def PH (X : Cx) (hs : List ExceptHandler) (t : Addr -> Addr -> TS) : Prop := ∀ (pins : List (Addr × Obj)) (s : Shared) (σ : St) (H : Hp) (D : Ends) (e C dx T : Addr), Inv X pins σ H s -> Fly s.heap e C dx T -> Own X pins H s.heap e -> Own X pins H s.heap T -> t C dx D σ H ->
 wpAny (model X.prog X.w) X.A (handleBy (.ref e) X.env hs) (SP X pins D) X.xe s
def tTry (tb : XK -> TS) (th : Addr -> Addr -> TS) : TS := fun D σ H => ∃ E : XK, tb E D σ H /\ ∀ C dx σ' H', E (.ref C) (some dx) H' -> σ'.length = σ.length -> th C dx D σ' H'
theorem ps_try {X : Cx} {body : List Stmt} {h₀ : ExceptHandler} {hs : List ExceptHandler} {pos : Pos} {tb : XK -> TS} {th : Addr -> Addr -> TS} (hst : X.stack = X.env :: X.outer) (hfr : X.env.frame = some X.env.locals)
  (hb : ∀ (pn : List (Addr × Obj)) (E : XK), PSs ((X.pinned pn).wish (XE (X.pinned pn) E)) body (tb E)) (hh : PH X (h₀ :: hs) th) : PS X (.Try body (h₀ :: hs) [] [] pos) (tTry tb th) := by
 intro pins s σ H D I ⟨E, ht, hx⟩
 refine wpAny_Try_except (wpAny_mono (hb (X.pn ++ pins) E [] s σ H D (I.pinT.wish _) ht) (fun f s1 hs => ?_) (fun ev s1 hx1 => ?_))
 ·have q := SP.unpinned hs
  cases f with
  | next => exact wpAny_execs_nil q
  | brk => exact q
  | cont => exact q
  | ret u => exact q
 ·obtain ⟨e, C, dx, vs, sl, σ', H', rfl, I', hx', oe, fl, hE⟩ := hx1
  have le := Heap.lt_size hx'
  refine L2E.noteOff (base := X.base) (env := X.env) (outer := X.outer) (L := X.env.locals) (by rw [<- hst]; exact I'.ok.frames) (by rw [<- hst]; exact I'.stack) hfr hx' rfl (fl.elim .inl fun ⟨T, oT, ts, a1, a2, a3, a4, a5, _⟩ => .inr ⟨T, oT, ts, a1, a2, a3, a4, a5⟩) fun h' T' O => ?_
  rw [<- hst] at O
  have J := I'.off (h' := h') hst hfr O oe fun T hT => by
   rcases fl with fl | ⟨T2, oT, ts, a1, a2, a3, a4, a5, a6⟩
   ·rw [fl] at hT; cases hT
   ·rw [a1] at hT; cases hT; exact a6
  have hv1 : 1 < vs.size := by
   rcases fl with fl | ⟨T2, oT, ts, a1, _⟩
   ·exact (Array.getElem?_eq_some_iff.mp fl).1
   ·exact (Array.getElem?_eq_some_iff.mp a1).1
  have fly : Fly h' e C dx T' := ⟨⟨_, sl, O.err, by simp [hv1]⟩, Nat.ne_of_gt (Nat.lt_of_lt_of_le le O.fresh), O.tb⟩
  have oe2 : Own X pins H' h' e := ⟨oe.new, oe.free, ⟨_, _, O.err, rfl⟩, fun p hp => oe.pin p (by simpa using hp)⟩
  obtain ⟨oT, ts, t1, t2, t3⟩ := O.tb
  have oT2 : Own X pins H' h' T' := ⟨Nat.le_trans I'.sz O.fresh, I'.hok.fresh O.fresh, ⟨oT, ts, t1, t2⟩, fun p hp z => by
   have := Heap.lt_size (I'.pin p (by simpa using hp)).1
   rw [z] at this
   exact absurd (Nat.lt_of_lt_of_le this O.fresh) (Nat.lt_irrefl _)⟩
  exact hh pins _ σ' H' D e C dx T' J.unpinT fly oe2 oT2 (hx C dx σ' H' hE (I'.len.trans I.len.symm))
end L2
set_option Elab.async false
set_option linter.all false
set_option maxRecDepth 100000
namespace L2
open PySem PySem.Spec PyProof.Rows
def errH (e C dx : Addr) : HO := .ext fun h => ∃ vs sl, h.get? e = some { cls := .ref C, dict := some dx, data := .fields vs, slots := sl }
theorem errH_ok {P : Program} {w : World} {H : Hp} {h : Heap} {e C dx : Addr} {vs : Array Value} {sl : Array (Option Value)} (he : h.get? e = some { cls := .ref C, dict := some dx, data := .fields vs, slots := sl }) : ObjOk P w H h e (errH e C dx) :=
 ⟨⟨vs, sl, he⟩, ⟨_, he⟩, fun _ _ ⟨v, s, q⟩ k => ⟨v, s, k _ q⟩⟩
section
variable {X : Cx} {pins : List (Addr × Obj)} {σ : St} {H : Hp} {s : Shared}
theorem Own.fp {b : Addr} (I : Inv X pins σ H s) (o : Own X pins H s.heap b) : FpOk X pins H b := by
 obtain ⟨ob, vs, h1, h2⟩ := o.recd
 refine ⟨o.free, ?_, ?_, .inr o.new, ?_, o.pin⟩
 ·rintro rfl
  obtain ⟨m, ⟨o', es, ep, ho, hd, _⟩, _⟩ := I.loc
  rw [h1] at ho; cases ho; rw [h2] at hd; cases hd
 ·intro hb
  obtain ⟨_, o', ho, hd⟩ := I.funs.mem hb
  rw [h1] at ho; cases ho; exact hd vs h2
 ·rintro x c hc rfl
  obtain ⟨v, o', ho, hd⟩ := I.cell x c hc
  rw [h1] at ho; cases ho; rw [h2] at hd; cases hd
theorem Inv.goes {i : Nat} {n : Str} {m : Str -> Option Value} {v : Option Value} {h' : Heap} {t' : Nat} (I : Inv X pins σ H s) (hN : X.N.Nodup) (hi : X.N[i]? = some n) (hm : s.heap.Ns X.env.locals m)
  (hl : ∀ (i : Nat) (x : Str) (v : V), X.N[i]? = some x -> σ[i]? = some (some v) -> Vis X.env.scope x -> ∃ u, RelV v u /\ Look X.env s.heap m x u)
  (hn : h'.Ns X.env.locals (fun x => if x = n then v else m x)) (hs : Heap.SameBut X.env.locals s.heap h') : Inv X pins (σ.set i none) H { s with heap := h', toks := t' } := by
 have hiσ : i < σ.length := by rw [I.len]; exact (List.getElem?_eq_some_iff.mp hi).1
 have cne := I.cne
 have neL : ∀ b o, X.s₀.heap.get? b = some o -> b ≠ X.env.locals := fun b o e => Nat.ne_of_lt (Nat.lt_of_lt_of_le (Heap.lt_size e) I.ok.above)
 refine ⟨I.ok, I.os, I.bare, ⟨fun b o e n hb hx => ?_, fun b o e n hb hx => ?_, I.base.free, fun b o e hx => ?_, I.base.tups, I.base.frzs, I.base.tbls⟩, ⟨_, hn, fun j y v' e1 e2 e3 => ?_⟩, fun y c e => ?_, I.free, I.freeC, fun p hp => ?_, fun b ob e => ?_, by simpa using I.len⟩
 ·exact (hs.2 b (neL b o e)).trans (I.base.keep b o e n hb hx)
 ·obtain ⟨sl, e1⟩ := I.base.slot b o e n hb hx
  exact ⟨sl, (hs.2 b (neL b o e)).trans e1⟩
 ·obtain ⟨o', e1⟩ := I.base.there b o e hx
  exact ⟨o', (hs.2 b (neL b o e)).trans e1⟩
 ·by_cases hj : j = i
  ·subst hj
   rw [List.getElem?_set_self hiσ] at e2
   cases e2
  ·rw [List.getElem?_set_ne (Ne.symm hj)] at e2
   obtain ⟨u', r', q⟩ := hl j y v' e1 e2 e3
   refine ⟨u', r', ?_⟩
   rcases q with ⟨k, e⟩ | ⟨k, c, e, z⟩
   ·refine .inl ⟨k, ?_⟩
    have : y ≠ n := fun e => hj (nodup_ix hN e1 (e ▸ hi))
    simp [this, e]
   ·exact .inr ⟨k, c, e, z.sameBut hs (cne y c e)⟩
 ·obtain ⟨w', z⟩ := I.cell y c e
  exact ⟨w', z.sameBut hs (cne y c e)⟩
 ·obtain ⟨e, n, ne, nf, d⟩ := I.pin p hp
  exact ⟨(hs.2 p.1 ne).trans e, n, ne, nf, d⟩
 ·refine (I.hok b ob e).stay (fun c w' hc q => (hs.2 c ?_).trans q) (fun _ q => q) fun _ _ q => q
  rintro rfl
  rcases hc with rfl | hc
  ·rw [I.free] at e; cases e
  ·rw [I.free] at hc; cases hc
theorem nameGoes {i : Nat} {n : Str} {pos : Pos} {Q : Unit -> Shared -> Prop} {E : Value -> Shared -> Prop} {A : Around} (I : Inv X pins σ H s) (hN : X.N.Nodup) (hi : X.N[i]? = some n) (hx : X.env.scope.names.lookup n = some .local)
  (h : ∀ s', Inv X pins (σ.set i none) H s' -> Q () s') : wpAny (model X.prog X.w) A (do bindName X.env n .none; unbindBehindTheSuite X.env n pos) Q E s := by
 have hk : X.env.kindOf n = some .local := hx
 have hp : (X.env.scope.kind == .class || (X.env.scope.kind == .module && X.env.locals != X.env.globals)) = false := by rw [I.ok.kind]; rfl
 refine wpAny_bind (wpAny_bindName (store_ok (v := .non) I hN hi (.inl hx) rfl (fun s1 I1 => ?_) (.inr hx)))
 obtain ⟨m, hm, hl⟩ := I1.loc
 have hiσ : i < σ.length := by rw [I.len]; exact (List.getElem?_eq_some_iff.mp hi).1
 have hsome : (m n).isSome = true := by
  obtain ⟨u, r, q⟩ := hl i n .non hi (by rw [List.getElem?_set_self hiσ]) (.inl hx)
  rcases q with ⟨_, e⟩ | ⟨k, _⟩
  ·rw [e]; rfl
  ·rw [hk] at k; rcases k with k | k <;> cases k
 unfold unbindBehindTheSuite
 refine wpAny_onRaise ?_
 unfold unbindName
 refine wpAny_bind (wpAny_point (wpAny_bind ?_))
 unfold deleteName
 simp only [hk, hp]
 rw [if_neg (by decide)]
 refine wpAny_bind (wpAny_nsDel_keeps hm fun h₂ v hn₂ hs₂ => ?_)
 rw [hsome]
 simp only [if_true, Bool.not_true, Bool.false_eq_true, if_false]
 refine wpAny_pure (wpAny_point (h _ ?_))
 have J := I1.goes (t' := s1.toks) hN hi hm hl hn₂ hs₂
 rw [List.set_set] at J
 exact J
end
end L2
set_option Elab.async false
set_option linter.all false
set_option maxRecDepth 100000
namespace L2
open PySem PySem.Spec PyProof.Rows
section
variable {X : Cx} {i : Nat} {n k fld : Str} {kp hp pos ap : Pos} {b₀ : Stmt} {suite : List Stmt} {rest : List ExceptHandler} {Ck : Addr} {ts : TS} {tr : Addr -> Addr -> TS}
def hAs (K : PySem.W.Frag) (Ck : Addr) (i : Nat) (ts : TS) (tr : Addr -> Addr -> TS) : Addr -> Addr -> TS := fun C dx D σ H => ∃ b, PySem.W.exmOne K (.ref C) (.ref Ck) = some b /\
 if b = true then (∀ e, H e = none -> ts { nx := fun σ2 H2 => D.nx (σ2.set i none) H2, rt := D.rt, bk := fun σ2 H2 => D.bk (σ2.set i none) H2, ct := fun σ2 H2 => D.ct (σ2.set i none) H2 } (σ.set i (some (.ref e))) (upd H e (errH e C dx))) else tr C dx D σ H
theorem ph_as (hN : X.N.Nodup) (hi : X.N[i]? = some n) (hx : X.env.scope.names.lookup n = some .local) (hg : Gl X k) (hm : X.mg k = some (.ref Ck)) (hs : ∀ e, PSs (X.suite (.ref e)) (b₀ :: suite) ts) (hr : PH X rest tr) (hdb : (k == ("__debug__" : Str)) = false := by decide) :
  PH X (.ExceptHandler (some (.Name k kp)) (some n) (b₀ :: suite) hp :: rest) (hAs X.K Ck i ts tr) := by
 intro pins s σ H D e C dx T I fly oe oT ⟨b, hb, h⟩
 obtain ⟨vs, sl, hx', h1⟩ := fly.ex
 have LT : PySem.W.Looks (model X.prog X.w) s.heap (typeOf (.ref e)) (.ref C) := (PySem.W.Looks.ld hx').andThen .now
 refine wpAny_handleBy_cons (codeAny_handlers_test (ld_glob (X := X.suite (.ref e)) (I.suite (.ref e)) hg hm ?_ hdb)) (by intro q; cases q)
 refine (PySem.W.exm_one I.kIn LT hb).here ?_
 cases b with
 | false => exact hr pins s σ H D e C dx T I fly oe oT h
 | true =>
  obtain ⟨oT', tsv, t1, t2, t3⟩ := fly.tb
  refine codeAny_handlers_suite_as ?_
  have fT := oT.fp I
  refine wpAny_setFlight_none hx' rfl h1 t1 t2 (Array.getElem?_eq_some_iff.mp t3).1 ?_
  have I1 : Inv X pins σ H { s with heap := s.heap.update T (Obj.mapFields (·.setIfInBounds 3 .none)) } := I.turned (t' := s.toks) (it := T) (fun b o hb q => by rw [Heap.get?_update_other _ _ hb.symm]; exact q) oT.free fT.2.1 (.inr oT.new) fT.2.2.2.2.1 oT.pin
  have hx1 : (s.heap.update T (Obj.mapFields (·.setIfInBounds 3 .none))).get? e = some { cls := .ref C, dict := some dx, data := .fields vs, slots := sl } := by rw [Heap.get?_update_other _ _ fly.ne]; exact hx'
  have oe1 : Own X pins H (s.heap.update T (Obj.mapFields (·.setIfInBounds 3 .none))) e := ⟨oe.new, oe.free, ⟨_, _, hx1, rfl⟩, oe.pin⟩
  have I2 := I1.take (D := e) (o := errH e C dx) (oe1.fp I1) oe.new (errH_ok hx1)
  refine store_ok (v := .ref e) I2 hN hi (.inl hx) rfl (fun s3 I3 => ?_) (.inr hx)
  refine wpAny_mono (hs e pins s3 _ _ _ (I3.suite (.ref e)) (h e oe.free)) (fun f s4 h4 => ?_) fun x s4 z => False.elim z
  show wpAny _ _ _ _ _ _
  cases f with
  | next => obtain ⟨σ', H', I4, q⟩ := h4; exact nameGoes (I4.unsuite I.ok) hN hi hx fun s5 I5 => ⟨_, _, I5, q⟩
  | brk => obtain ⟨σ', H', I4, q⟩ := h4; exact nameGoes (I4.unsuite I.ok) hN hi hx fun s5 I5 => ⟨_, _, I5, q⟩
  | cont => obtain ⟨σ', H', I4, q⟩ := h4; exact nameGoes (I4.unsuite I.ok) hN hi hx fun s5 I5 => ⟨_, _, I5, q⟩
  | ret u => obtain ⟨v, σ', H', I4, r, q⟩ := h4; exact nameGoes (I4.unsuite I.ok) hN hi hx fun s5 I5 => ⟨v, _, _, I5, r, q⟩
theorem ph_nil : PH X [] (fun _ _ _ _ _ => False) := fun _ _ _ _ _ _ _ _ _ _ _ _ _ h => False.elim h
def tErrF (K : PySem.W.Frag) (ta : TE) (fld : Str) : TE := fun σ H Q => ta σ H fun x H1 => ∃ e C dx f bm fs v, x = .ref e /\ H1 e = some (errH e C dx) /\ ErrC K C f bm /\ PySem.W.findIn K (.ref C) fld = some none /\ H1 dx = some (.xd fs) /\ fs.lookup fld = some v /\ Q v H1
theorem pe_errF {e : Expr} {ta : TE} (he : PE X e ta) (hb : attributeBase e fld X.env (eval e X.env) = eval e X.env) : PE X (.Attribute e fld pos) (tErrF X.K ta fld) := by
 intro pins s σ H Q I h
 refine attr_of hb (thn (he pins s σ H _ I h) fun u s1 ⟨x, H1, I1, rx, a, C, dx, f, bm, fs, v, ex, ea, ec, nf, hd, l, q⟩ => ?_)
 subst ex
 obtain rfl : u = Value.ref a := rx
 obtain ⟨nm, q0, N, bs, sn, sub, ab, col, dd, k0, k1, k2, k3, k5, lk⟩ := ec.obj
 have at_ := I1.kIn _ _ lk
 obtain ⟨vs, sl, hx⟩ := (I1.hok a _ ea).1
 obtain ⟨mA, hn, hr⟩ := I1.hok dx _ hd
 have rv := hr fld
 rw [l] at rv
 cases hv : mA fld with
 | none => rw [hv] at rv; exact False.elim rv
 | some u' =>
  rw [hv] at rv
  obtain ⟨hh, g, d, t, os⟩ := s1
  exact L2E.getErr ec.base at_ (finds_K I1.kIn nf) (finds_K I1.kIn ec.ga) (finds_K I1.kIn ec.gh) hx rfl (fun c z => nomatch z) rfl hn.ns hv (PySem.W.handedOut_of (handed_of rv)) ⟨v, H1, I1.tok (t + 1), rv, q⟩
end
end L2
set_option Elab.async false
set_option linter.all false
set_option maxRecDepth 100000
namespace L2
open PySem PySem.Spec PyProof.Rows
section
variable {prog : Program} {w : World} {A : Around} {E : Value -> Shared -> Prop} {s : Shared}
end
end L2
set_option Elab.async false
set_option linter.all false
set_option maxRecDepth 100000
namespace S
open PySem L2
structure Def (P : Program) (w : World) (K : PySem.W.Frag) (mg : Str -> Option Value) (base : Heap) (k : Nat) (x : Str) (ps : List Str) (sp : Sp) (g : Addr) (gd : FuncData) : Prop where
 ok : FnOk P w K mg base CX0 k g gd ps sp
 b : Binds K gd ps []
 k : PySem.W.keepIn K (.ref g) = true
 m : mg x = some (.ref g)
structure DefE (P : Program) (w : World) (K : PySem.W.Frag) (mg : Str -> Option Value) (base : Heap) (k : Nat) (x : Str) (ps : List Str) (sp : Sp) (g : Addr) (gd : FuncData) : Prop where
 ok : FnOk P w K mg base (CXE P w) k g gd ps sp
 b : Binds K gd ps []
 k : PySem.W.keepIn K (.ref g) = true
 m : mg x = some (.ref g)
def BG (n : Nat) (i : Int) : Prop := 0 <= i /\ i < 2 ^ n
theorem BG.mono {n m : Nat} {i : Int} (h : BG n i) (l : n <= m) : BG m i := ⟨h.1, Int.lt_of_lt_of_le h.2 (by
 have := Nat.pow_le_pow_right (n := 2) (by decide) l
 exact_mod_cast this)⟩
theorem BG.mul {n m : Nat} {i j : Int} (h : BG n i) (g : BG m j) : BG (n + m) (i * j) := by
 obtain ⟨a, rfl⟩ := Int.eq_ofNat_of_zero_le h.1
 obtain ⟨b, rfl⟩ := Int.eq_ofNat_of_zero_le g.1
 have h1 : a < 2 ^ n := by have := h.2; exact_mod_cast this
 have h2 : b < 2 ^ m := by have := g.2; exact_mod_cast this
 refine ⟨Int.mul_nonneg h.1 g.1, ?_⟩
 have : a * b < 2 ^ (n + m) := by
  rw [Nat.pow_add]
  exact Nat.mul_lt_mul'' h1 h2
 exact_mod_cast this
theorem BG.add {n : Nat} {i j : Int} (h : BG n i) (g : BG n j) : BG (n + 1) (i + j) := by
 refine ⟨Int.add_nonneg h.1 g.1, ?_⟩
 have := h.2
 have := g.2
 rw [Int.pow_succ]
 omega
theorem BG.le {n : Nat} {i j : Int} (h : BG n i) (z : 0 <= j) (l : j <= i) : BG n j := ⟨z, Int.lt_of_le_of_lt l h.2⟩
theorem BG.div {n : Nat} {i j : Int} (h : BG n i) (z : 0 <= j) : BG n (i / j) := h.le (Int.ediv_nonneg h.1 z) (Int.ediv_le_self _ h.1)
theorem BG.abs {n : Nat} {i : Int} (h : BG n i) (l : n <= 8000) : i.natAbs < 2 ^ 8000 := by
 obtain ⟨a, rfl⟩ := Int.eq_ofNat_of_zero_le h.1
 have h1 : a < 2 ^ n := by have := h.2; exact_mod_cast this
 exact Nat.lt_of_lt_of_le h1 (Nat.pow_le_pow_right (n := 2) (by decide) l)
section
variable {X : Cx}
def CBig (i j : Int) : Prop := i.natAbs < 2 ^ 8000 /\ j.natAbs < 2 ^ 8000
theorem op_mulB : OpR X (binaryOp .Mult) (rI CBig fun i j => .int (i * j)) := opI fun _ _ _ _ _ _ _ hc q => PyProof.Rows.mul_int q (IntMulOk.of_bits (Nat.le_trans (intBits_le_iff.mpr hc.1) (by decide)) (Nat.le_trans (intBits_le_iff.mpr hc.2) (by decide)))
def CDivB (_ j : Int) : Prop := 0 < j /\ j.natAbs < 2 ^ 8000
theorem op_fdivB : OpR X (binaryOp .FloorDiv) (rI CDivB fun i j => .int (i / j)) := opI fun i j _ _ _ _ _ hc q => by
 have h1 : (0 : Int) < j := hc.1
 refine PyProof.Rows.floordiv_int (by omega) (by rw [Int.fdiv_eq_ediv_of_nonneg i (by omega)]; exact q) (.inl (PyProof.noPylong_of_log2 ?_))
 have : j.natAbs.log2 < 8000 := (Nat.log2_lt (by omega)).mpr hc.2
 omega
end
def gc (a b : Int) : Int := ((Nat.gcd a.toNat b.toNat : Nat) : Int)
theorem gc_zero {a : Int} (h : 0 <= a) : gc a 0 = a := by
 unfold gc
 rw [Int.toNat_zero, Nat.gcd_zero_right]
 omega
theorem gc_step {a b : Int} (ha : 0 <= a) (hb : 0 < b) : gc b (a % b) = gc a b := by
 obtain ⟨x, rfl⟩ := Int.eq_ofNat_of_zero_le ha
 obtain ⟨y, rfl⟩ := Int.eq_ofNat_of_zero_le (Int.le_of_lt hb)
 unfold gc
 have e : ((x : Int) % (y : Int)).toNat = x % y := by
  rw [<- Int.natCast_emod, Int.toNat_natCast]
 simp only [Int.ofNat_eq_natCast, Int.toNat_natCast] at e ⊢
 rw [e, Nat.gcd_comm y, <- Nat.gcd_rec, Nat.gcd_comm]
theorem gc_pos {a b : Int} (ha : 0 <= a) (hb : 0 < b) : 0 < gc a b := by
 unfold gc
 have := Nat.gcd_pos_of_pos_right a.toNat (n := b.toNat) (by omega)
 omega
theorem gc_nn (a b : Int) : 0 <= gc a b := by unfold gc; omega
theorem gc_le {a b : Int} (hb : 0 < b) : gc a b <= b := by
 unfold gc
 have := Nat.gcd_le_right a.toNat (n := b.toNat) (by omega)
 omega
section
variable {P : Program} {w : World} {K : PySem.W.Frag} {mg : Str -> Option Value} {base : Heap}
theorem scMInit : FnScope ["self", "text"] ["self", "text"] (defScope sMeetErrorInit) := ⟨rfl, rfl, rfl, by decide +kernel, rfl, by decide +kernel, by decide +kernel⟩
theorem ok_mInit {f : Addr} {fd : FuncData} (F : Fun K "__init__" "MeetError.__init__" sMeetErrorInit f fd) (mv : mg "ValueError" = none) : FnOk P w K mg base CX0 1 f fd ["self", "text"] (spMeet K) := by
 refine F.ok scMInit (fun vs H Q E h => ?_) (fun cdv A outer s H vs Q E hr h => ?_)
 ·obtain ⟨e, C, u, f, bm, rfl, _⟩ := h
  rfl
 obtain ⟨e, C, u, f, bm, rfl, ec, hH, q⟩ := h
 refine ⟨_, pss_one (ps_expr (pe_initB rfl mv (pa_cons (pv 0) (pa_cons (pv 1) pa_nil)))), ?_⟩
 exact ⟨_, rfl, _, rfl, e, C, u, f, bm, rfl, ec, hH, q⟩
theorem scNInit : FnScope ["self", "found"] ["self", "found"] (defScope sNoShareInit) := ⟨rfl, rfl, rfl, by decide +kernel, rfl, by decide +kernel, by decide +kernel⟩
theorem ok_nInit {f C CM fM : Addr} {bm : List Value} {fd fdM : FuncData} (F : Fun K "__init__" "NoShare.__init__" sNoShareInit f fd) (ec : ErrC K C f bm) (nf : PySem.W.findIn K (.ref C) "found" = some none) (cf : ClsFn K CM fM) (OM : FnOk P w K mg base CX0 1 fM fdM ["self", "text"] (spMeet K)) (bM : Binds K fdM ["self", "text"] []) (mM : mg "MeetError" = some (.ref CM)) :
  FnOk P w K mg base CX0 2 f fd ["self", "found"] (spErr1 C "found") := by
 refine F.ok scNInit (fun vs H Q E h => ?_) (fun cdv A outer s H vs Q E hr h => ?_)
 ·obtain ⟨e, v, rfl, _⟩ := h
  rfl
 obtain ⟨e, v, rfl, hH, q⟩ := h
 refine ⟨_, pss_cons (ps_expr (pe_initM cf OM hr bM pass0 rfl mM (pa_cons (pv 0) (pa_cons pe_str pa_nil)))) (pss_one (ps_setE (pv 0) (pv 1) rfl)), ?_⟩
 refine ⟨_, rfl, e, C, _, f, bm, rfl, ec, hH, ?_⟩
 exact ⟨_, rfl, _, rfl, e, C, f, bm, rfl, ec, nf, hH, fun dx hdx ne => q dx hdx ne⟩
end
end S
set_option Elab.async false
set_option linter.all false
set_option maxRecDepth 100000
namespace S
open PySem L2
def spW : Sp := fun vs H Q _ => ∃ n : Int, vs = [.int n] /\ Q (.bl true) H
def spCommon : Sp := fun vs H Q _ => ∃ a b : Int, vs = [.int a, .int b] /\ 0 <= a /\ 0 <= b /\ Q (.int (gc a b)) H
def spMakeA : Sp := fun vs H Q _ => ∃ a b : Int, vs = [.int a, .int b] /\ Q (.bl (decide (a >= 0) && decide (b >= 1))) H
section
variable {P : Program} {w : World} {K : PySem.W.Frag} {mg : Str -> Option Value} {base : Heap}
theorem scWhole : FnScope ["thing"] ["thing"] (defScope sWhole) := ⟨rfl, rfl, rfl, by decide +kernel, rfl, by decide +kernel, by decide +kernel⟩
theorem ok_whole {f : Addr} {fd : FuncData} (F : Fun K "is_whole" "is_whole" sWhole f fd) (mi : mg "isinstance" = none) (mt : mg "int" = none) (mb : mg "bool" = none) (kb : PySem.W.kitOne K (.type "int") (.type "bool") = some false) : FnOk P w K mg base CX0 1 f fd ["thing"] spW := by
 refine F.ok scWhole (fun vs H Q E h => ?_) (fun cdv A outer s H vs Q E hr h => ?_)
 ·obtain ⟨x, rfl, _⟩ := h
  rfl
 obtain ⟨n, rfl, q⟩ := h
 refine ⟨_, pss_one (ps_ret (pe_and (pe_callB call_inst rfl mi PyProof.Rows.boot_isinstance (pa_cons (pv 0) (pa_cons (pe_bltn (v := .ty "int") rfl mt PyProof.Rows.boot_int rfl) pa_nil)))
  (pe_one (pe_not (pe_callB call_inst rfl mi PyProof.Rows.boot_isinstance (pa_cons (pv 0) (pa_cons (pe_bltn (v := .ty "bool") rfl mb PyProof.Rows.boot_bool rfl) pa_nil))))))), ?_⟩
 exact ⟨_, rfl, .int n, .type "int", "int", true, rfl, .int n, rfl, _, rfl, iteT ⟨_, rfl, .int n, .type "int", "bool", false, rfl, .int n, kb, _, rfl, q⟩⟩
theorem scCommon : FnScope ["one", "other"] ["one", "other"] (defScope sCommon) := ⟨rfl, rfl, rfl, by decide +kernel, rfl, by decide +kernel, by decide +kernel⟩
theorem ok_common {f : Addr} {fd : FuncData} (F : Fun K "common" "common" sCommon f fd) : FnOk P w K mg base CX0 1 f fd ["one", "other"] spCommon := by
 refine F.ok scCommon (fun vs H Q E h => ?_) (fun cdv A outer s H vs Q E hr h => ?_)
 ·obtain ⟨a, b, rfl, _⟩ := h
  rfl
 obtain ⟨a, b, rfl, ha, hb, q⟩ := h
 refine ⟨_, pss_cons (ps_while PassesOwn.never (pt_cmpR op_gt (pv 1) pe_int (nomark _))
   (pss_one (ps_par (i := 0) (j := 1) rfl scCommon.nd rfl rfl (by decide) rfl rfl (pa_cons (pv 1) (pa_cons (pe_op op_mod (pv 0) (pv 1)) pa_nil)) rfl)))
  (pss_one (ps_ret (pv 0))), ?_⟩
 refine ⟨fun k σ H' => ∃ x y : Int, σ = [some (.int x), some (.int y)] /\ 0 <= x /\ 0 <= y /\ k = y.toNat /\ gc x y = gc a b /\ H' = H, ⟨_, a, b, rfl, ha, hb, rfl, rfl, rfl⟩, ?_⟩
 rintro k σ H' ⟨x, y, rfl, hx, hy, rfl, e, rfl⟩
 refine ⟨_, rfl, _, _, rfl, rfl, _, rfl, ?_⟩
 refine ite2 (fun c => ?_) (fun c => ?_)
 ·have c' : 0 < y := of_decide_eq_true c
  refine ⟨fun σ' H2 => σ' = [some (.int y), some (.int (x % y))] /\ H2 = H', fun σ' H2 ⟨e1, e2⟩ => ⟨_, ?_, y, x % y, e1, hy, Int.emod_nonneg _ (by omega), rfl, (gc_step hx c').trans e, e2⟩, ?_⟩
  ·have := Int.emod_lt_of_pos x c'
   have := Int.emod_nonneg x (b := y) (by omega)
   omega
  ·exact ⟨_, rfl, _, rfl, _, rfl, _, _, rfl, rfl, c', _, _, rfl, rfl, rfl⟩
 ·have c' : y = 0 := by
   have : ¬ 0 < y := fun z => c (decide_eq_true z)
   omega
  subst c'
  rw [gc_zero hx] at e
  refine ⟨_, rfl, ?_⟩
  rw [e]; exact q
theorem scMakeA : FnScope ["top", "bottom"] ["top", "bottom"] (defScope sMakeA) := ⟨rfl, rfl, rfl, by decide +kernel, rfl, by decide +kernel, by decide +kernel⟩
theorem ok_makeA {f a1 : Addr} {fd d1 : FuncData} (F : Fun K "make_a_share" "make_a_share" sMakeA f fd) (D1 : Def P w K mg base 1 "is_whole" ["thing"] spW a1 d1) : FnOk P w K mg base CX0 2 f fd ["top", "bottom"] spMakeA := by
 refine F.ok scMakeA (fun vs H Q E h => ?_) (fun cdv A outer s H vs Q E hr h => ?_)
 ·obtain ⟨a, b, rfl, _⟩ := h
  rfl
 obtain ⟨a, b, rfl, q⟩ := h
 refine ⟨_, pss_one (ps_ret (pe_and (pe_call D1.ok hr rfl D1.m D1.k D1.b .nil pass0 (pa_cons (pv 0) pa_nil)) (pe_and (pe_call D1.ok hr rfl D1.m D1.k D1.b .nil pass0 (pa_cons (pv 1) pa_nil)) (pe_and (pe_cmpR op_ge (pv 0) pe_int (nomark _)) (pe_one (pe_cmpR op_ge (pv 1) pe_int (nomark _))))))), ?_⟩
 refine ⟨_, rfl, a, rfl, _, rfl, iteT ⟨_, rfl, b, rfl, _, rfl, iteT ⟨_, rfl, _, _, rfl, rfl, _, rfl, ?_⟩⟩⟩
 refine ite2 (fun c => ?_) (fun c => ?_)
 ·refine ⟨_, rfl, _, _, rfl, rfl, ?_⟩
  rw [c, Bool.true_and] at q
  exact q
 ·rw [Bool.not_eq_true] at c
  rw [c, Bool.false_and] at q
  exact q
end
end S
set_option Elab.async false
set_option linter.all false
set_option maxRecDepth 100000
namespace S
open PySem L2
def isSh (a b : Int) : Prop := 0 <= a /\ 1 <= b /\ gc a b = 1
def spIsShare : Sp := fun vs H Q _ => ∃ t a b, vs = [.ref t] /\ H t = some (.tup [.int a, .int b]) /\ isSh a b /\ Q (.bl true) H
def spLowest : Sp := fun vs H Q _ => ∃ a b : Int, vs = [.int a, .int b] /\ BG 8000 a /\ BG 8000 b /\ 1 <= b /\ ∀ t, H t = none -> Q (.ref t) (upd H t (.tup [.int (a / gc a b), .int (b / gc a b)]))
def ShsAt (H : Hp) (ts : List Addr) (ps : List (Int × Int)) : Prop := ts.length = ps.length /\ ∀ (i : Nat) t p, ts[i]? = some t -> ps[i]? = some p -> H t = some (.tup [.int p.1, .int p.2]) /\ isSh p.1 p.2
theorem ShsAt.same {H H' : Hp} {ts : List Addr} {ps : List (Int × Int)} (h : ShsAt H ts ps) (g : Same H H') : ShsAt H' ts ps := ⟨h.1, fun i t p a b => ⟨g _ _ (h.2 i t p a b).1, (h.2 i t p a b).2⟩⟩
def spCheckS (K : PySem.W.Frag) : Sp := fun vs H Q _ => ∃ l ts ps, vs = [.ref l] /\ Sq K H l (ts.map V.ref) /\ ShsAt H ts ps /\ Q .non H
section
variable {P : Program} {w : World} {K : PySem.W.Frag} {mg : Str -> Option Value} {base : Heap}
theorem scIsShare : FnScope ["thing", "top", "bottom"] ["thing"] (defScope sIsShare) := ⟨rfl, rfl, rfl, by decide +kernel, rfl, by decide +kernel, by decide +kernel⟩
theorem ok_isShare {f a1 a2 : Addr} {fd d1 d2 : FuncData} (F : Fun K "is_share" "is_share" sIsShare f fd) (mi : mg "isinstance" = none) (mt : mg "tuple" = none) (ml : mg "len" = none) (D1 : Def P w K mg base 2 "make_a_share" ["top", "bottom"] spMakeA a1 d1) (D2 : Def P w K mg base 1 "common" ["one", "other"] spCommon a2 d2) : FnOk P w K mg base CX0 3 f fd ["thing"] spIsShare := by
 refine F.ok scIsShare (fun vs H Q E h => ?_) (fun cdv A outer s H vs Q E hr h => ?_)
 ·obtain ⟨t, a, b, rfl, _⟩ := h
  rfl
 obtain ⟨t, a, b, rfl, ht, ⟨ha, hb, hg⟩, q⟩ := h
 have hr1 : Room 1 _ := hr.mono (by decide)
 refine ⟨_, pss_cons (ps_if (PW.pt (pw_or (pt_not (pt_val (pe_callB call_inst rfl mi PyProof.Rows.boot_isinstance (pa_cons (pv 0) (pa_cons (pe_bltn (v := .ty "tuple") rfl mt PyProof.Rows.boot_tuple rfl) pa_nil)))))
   (pw_or1 (pt_cmpR op_ne (pe_callB call_len_seq rfl ml PySem.boot_len (pa_cons (pv 0) pa_nil)) pe_int (nomark _))))) (pss_one (ps_ret pe_bl)) pss_nil)
  (pss_cons (ps_asg (pv 0) (pg_tup rfl (pgs_cons (pg_name (i := 1) scIsShare.nd rfl (Or.inl rfl)) (pgs_cons (pg_name (i := 2) scIsShare.nd rfl (Or.inl rfl)) pgs_nil))))
  (pss_one (ps_ret (pe_and (pe_call D1.ok hr rfl D1.m D1.k D1.b .nil pass0 (pa_cons (pv 1) (pa_cons (pv 2) pa_nil))) (pe_one (pe_cmpR op_eq (pe_call D2.ok hr1 rfl D2.m D2.k D2.b .nil pass0 (pa_cons (pv 1) (pa_cons (pv 2) pa_nil))) pe_int (nomark _))))))), ?_⟩
 refine ⟨_, rfl, .ref t, .type "tuple", "tuple", true, rfl, .tup ht, rfl, _, rfl, iteF ⟨_, rfl, t, _, rfl, .inr (SqT.of ht), rfl, _, rfl, iteF ?_⟩⟩
 refine ⟨_, rfl, t, _, rfl, SqT.of ht, rfl, _, _, rfl, _, _, rfl, rfl, ?_⟩
 refine ⟨_, rfl, _, rfl, a, b, rfl, _, rfl, ?_⟩
 rw [decide_eq_true ha, decide_eq_true hb]
 refine iteT ⟨_, rfl, _, rfl, a, b, rfl, ha, by omega, rfl, ?_⟩
 rw [hg, decide_eq_true rfl]
 exact q
theorem scLowest : FnScope ["top", "bottom", "most"] ["top", "bottom"] (defScope sLowest) := ⟨rfl, rfl, rfl, by decide +kernel, rfl, by decide +kernel, by decide +kernel⟩
theorem ok_lowest {f a2 : Addr} {fd d2 : FuncData} (F : Fun K "lowest" "lowest" sLowest f fd) (D2 : Def P w K mg base 1 "common" ["one", "other"] spCommon a2 d2) : FnOk P w K mg base CX0 2 f fd ["top", "bottom"] spLowest := by
 refine F.ok scLowest (fun vs H Q E h => ?_) (fun cdv A outer s H vs Q E hr h => ?_)
 ·obtain ⟨a, b, rfl, _⟩ := h
  rfl
 obtain ⟨a, b, rfl, ha, hb, b1, q⟩ := h
 refine ⟨_, pss_cons (ps_set (i := 2) scLowest.nd rfl (Or.inl rfl) (pe_call D2.ok hr rfl D2.m D2.k D2.b .nil pass0 (pa_cons (pv 0) (pa_cons (pv 1) pa_nil)))) (pss_one (ps_ret (pe_tup (pa_cons (pe_op op_fdivB (pv 0) (pv 2)) (pa_cons (pe_op op_fdivB (pv 1) (pv 2)) pa_nil))))), ?_⟩
 have gp := gc_pos ha.1 (show 0 < b by omega)
 have gb : (gc a b).natAbs < 2 ^ 8000 := (hb.le (gc_nn _ _) (gc_le (by omega))).abs (Nat.le_refl _)
 exact ⟨_, rfl, _, rfl, a, b, rfl, ha.1, hb.1, _, rfl, _, rfl, _, _, rfl, rfl, ⟨gp, gb⟩, _, rfl, _, rfl, _, _, rfl, rfl, ⟨gp, gb⟩, (by show 2 <= sizeLine; decide), fun t ht => q t ht⟩
theorem scShareOf : FnScope ["top", "bottom"] ["top", "bottom"] (defScope sShareOf) := ⟨rfl, rfl, rfl, by decide +kernel, rfl, by decide +kernel, by decide +kernel⟩
theorem ok_shareOf {f a1 a2 : Addr} {fd d1 d2 : FuncData} (F : Fun K "share_of" "share_of" sShareOf f fd) (D1 : Def P w K mg base 2 "make_a_share" ["top", "bottom"] spMakeA a1 d1) (D2 : Def P w K mg base 2 "lowest" ["top", "bottom"] spLowest a2 d2) : FnOk P w K mg base CX0 3 f fd ["top", "bottom"] spLowest := by
 refine F.ok scShareOf (fun vs H Q E h => ?_) (fun cdv A outer s H vs Q E hr h => ?_)
 ·obtain ⟨a, b, rfl, _⟩ := h
  rfl
 obtain ⟨a, b, rfl, ha, hb, b1, q⟩ := h
 refine ⟨_, pss_cons (ps_if (pt_not (pt_val (pe_call D1.ok hr rfl D1.m D1.k D1.b .nil pass0 (pa_cons (pv 0) (pa_cons (pv 1) pa_nil))))) pss_never pss_nil) (pss_one (ps_ret (pe_call D2.ok hr rfl D2.m D2.k D2.b .nil pass0 (pa_cons (pv 0) (pa_cons (pv 1) pa_nil))))), ?_⟩
 refine ⟨_, rfl, _, rfl, a, b, rfl, _, rfl, ?_⟩
 rw [decide_eq_true ha.1, decide_eq_true b1]
 exact iteF ⟨_, rfl, _, rfl, a, b, rfl, ha, hb, b1, q⟩
theorem scCheckS : FnScope ["shares", "share"] ["shares"] (defScope sCheckS) := ⟨rfl, rfl, rfl, by decide +kernel, rfl, by decide +kernel, by decide +kernel⟩
theorem ok_check {f a1 : Addr} {fd d1 : FuncData} (F : Fun K "check_shares" "check_shares" sCheckS f fd) (D1 : Def P w K mg base 3 "is_share" ["thing"] spIsShare a1 d1) : FnOk P w K mg base CX0 4 f fd ["shares"] (spCheckS K) := by
 refine F.ok scCheckS (fun vs H Q E h => ?_) (fun cdv A outer s H vs Q E hr h => ?_)
 ·obtain ⟨l, ts, ps, rfl, _⟩ := h
  rfl
 obtain ⟨l, ts, ps, rfl, sq, sh, q⟩ := h
 refine ⟨_, pss_one (ps_for PassesOwn.never rfl (pi_seq (pv 0)) (pg_name (i := 1) scCheckS.nd rfl (Or.inl rfl)) (pss_one (ps_if (pt_not (pt_val (pe_call D1.ok hr rfl D1.m D1.k D1.b .nil pass0 (pa_cons (pv 1) pa_nil)))) pss_never pss_nil))), ?_⟩
 refine ⟨_, rfl, l, rfl, ?_⟩
 refine seq_for (K := K) (ys := ts.map V.ref) sq (fun j σ H' => ∃ x, σ = [some (.ref l), x] /\ H' = H) ⟨_, rfl, rfl⟩ (fun j σ H' hP o ho => by obtain ⟨x, _, rfl⟩ := hP; exact ho) (fun j σ H' x hj hx hP => ?_) (fun σ H' hP => ?_)
 ·obtain ⟨x', rfl, rfl⟩ := hP
  rw [List.length_map] at hj
  rw [List.getElem?_map, List.getElem?_eq_getElem hj] at hx
  cases hx
  have hp : j < ps.length := by rw [<- sh.1]; exact hj
  obtain ⟨h1, h2⟩ := sh.2 j _ _ (List.getElem?_eq_getElem hj) (List.getElem?_eq_getElem hp)
  exact ⟨_, rfl, ts[j], _, _, rfl, h1, h2, _, rfl, iteF ⟨_, rfl, rfl⟩⟩
 ·obtain ⟨x, rfl, rfl⟩ := hP
  exact q
end
end S
set_option Elab.async false
set_option linter.all false
set_option maxRecDepth 100000
namespace S
open PySem L2
theorem low_nat {a b : Nat} (hb : 0 < b) : Nat.Coprime (a / Nat.gcd a b) (b / Nat.gcd a b) /\ 0 < b / Nat.gcd a b /\ (a / Nat.gcd a b) * b = a * (b / Nat.gcd a b) := by
 have gp := Nat.gcd_pos_of_pos_right a hb
 refine ⟨Nat.coprime_div_gcd_div_gcd gp, Nat.div_pos (Nat.gcd_le_right a hb) gp, ?_⟩
 obtain ⟨x, hx⟩ := Nat.gcd_dvd_left a b
 obtain ⟨y, hy⟩ := Nat.gcd_dvd_right a b
 generalize Nat.gcd a b = g at *
 have e1 : a / g = x := by rw [hx, Nat.mul_div_cancel_left _ gp]
 have e2 : b / g = y := by rw [hy, Nat.mul_div_cancel_left _ gp]
 rw [e1, e2, hx, hy, <- Nat.mul_assoc, Nat.mul_comm x g]
theorem add_nat {a b c d : Nat} (hb : 0 < b) (hd : 0 < d) (h1 : Nat.Coprime a b) (h2 : Nat.Coprime c d) :
  let g := Nat.gcd b d
  let t := a * (d / g) + c * (b / g)
  let l := Nat.gcd t g
  Nat.Coprime (t / l) (b / g * (d / l)) /\ 0 < b / g * (d / l) /\ (t / l) * (b * d) = (a * d + c * b) * (b / g * (d / l)) := by
 intro g t l
 have gp : 0 < g := Nat.gcd_pos_of_pos_left d hb
 have lp : 0 < l := Nat.gcd_pos_of_pos_right t gp
 obtain ⟨x, hx⟩ : g ∣ b := Nat.gcd_dvd_left b d
 obtain ⟨y, hy⟩ : g ∣ d := Nat.gcd_dvd_right b d
 obtain ⟨k, hk⟩ : l ∣ g := Nat.gcd_dvd_right t g
 obtain ⟨X, hX⟩ : l ∣ t := Nat.gcd_dvd_left t g
 have e1 : b / g = x := by rw [hx, Nat.mul_div_cancel_left _ gp]
 have e2 : d / g = y := by rw [hy, Nat.mul_div_cancel_left _ gp]
 have e3 : d / l = k * y := by rw [hy, hk, Nat.mul_assoc, Nat.mul_div_cancel_left _ lp]
 have e4 : t / l = X := by rw [hX, Nat.mul_div_cancel_left _ lp]
 have e5 : g / l = k := by rw [hk, Nat.mul_div_cancel_left _ lp]
 have cxy : Nat.Coprime x y := by
  have := Nat.coprime_div_gcd_div_gcd (m := b) (n := d) gp
  show Nat.Coprime x y
  rw [<- e1, <- e2]; exact this
 have et : t = a * y + c * x := by show a * (d / g) + c * (b / g) = _; rw [e1, e2]
 have cax : Nat.Coprime a x := Nat.Coprime.coprime_dvd_right ⟨g, by rw [hx, Nat.mul_comm]⟩ h1
 have ccy : Nat.Coprime c y := Nat.Coprime.coprime_dvd_right ⟨g, by rw [hy, Nat.mul_comm]⟩ h2
 have ctx : Nat.Coprime t x := by
  rw [et]
  show Nat.gcd (a * y + c * x) x = 1
  rw [Nat.gcd_add_mul_right_left]
  exact Nat.Coprime.mul_left cax cxy.symm
 have cty : Nat.Coprime t y := by
  rw [et, Nat.add_comm]
  show Nat.gcd (c * x + a * y) y = 1
  rw [Nat.gcd_add_mul_right_left]
  exact Nat.Coprime.mul_left ccy cxy
 have dX : X ∣ t := ⟨l, by rw [hX, Nat.mul_comm]⟩
 have cXk : Nat.Coprime X k := by
  have := Nat.coprime_div_gcd_div_gcd (m := t) (n := g) lp
  rw [<- e4, <- e5]; exact this
 have xp : 0 < x := Nat.pos_of_ne_zero fun z => by rw [z, Nat.mul_zero] at hx; omega
 have yp : 0 < y := Nat.pos_of_ne_zero fun z => by rw [z, Nat.mul_zero] at hy; omega
 have kp : 0 < k := Nat.pos_of_ne_zero fun z => by rw [z, Nat.mul_zero] at hk; omega
 rw [e1, e3, e4]
 refine ⟨(Nat.Coprime.coprime_dvd_left dX ctx).mul_right (cXk.mul_right (Nat.Coprime.coprime_dvd_left dX cty)), Nat.mul_pos xp (Nat.mul_pos kp yp), ?_⟩
 have eT : l * X = a * y + c * x := by rw [<- hX]; exact et
 have hb' : b = l * k * x := by rw [hx, hk]
 have hd' : d = l * k * y := by rw [hy, hk]
 have r : a * d + c * b = l * k * (l * X) := by
  rw [eT, hb', hd', Nat.mul_add]
  simp only [Nat.mul_comm, Nat.mul_left_comm, Nat.mul_assoc]
 rw [r, hb', hd']
 simp only [Nat.mul_comm, Nat.mul_left_comm, Nat.mul_assoc]
theorem gc_nat (a b : Nat) : gc (a : Int) (b : Int) = ((Nat.gcd a b : Nat) : Int) := by unfold gc; rw [Int.toNat_natCast, Int.toNat_natCast]
theorem gc_one {a b : Nat} : gc (a : Int) (b : Int) = 1 ↔ Nat.Coprime a b := by rw [gc_nat]; unfold Nat.Coprime; omega
theorem low_ok {a b : Int} (ha : 0 <= a) (hb : 1 <= b) : isSh (a / gc a b) (b / gc a b) /\ (a / gc a b) * b = a * (b / gc a b) := by
 obtain ⟨x, rfl⟩ := Int.eq_ofNat_of_zero_le ha
 obtain ⟨y, rfl⟩ := Int.eq_ofNat_of_zero_le (show 0 <= b by omega)
 obtain ⟨h1, h2, h3⟩ := low_nat (a := x) (b := y) (by omega)
 try simp only [Int.ofNat_eq_natCast] at *
 rw [gc_nat, <- Int.natCast_ediv, <- Int.natCast_ediv]
 refine ⟨⟨Int.natCast_nonneg _, by omega, gc_one.mpr h1⟩, ?_⟩
 exact_mod_cast h3
def addT (a b c d : Int) : Int := a * (d / gc b d) + c * (b / gc b d)
def addX (a b c d : Int) : Int := addT a b c d / gc (addT a b c d) (gc b d)
def addY (a b c d : Int) : Int := b / gc b d * (d / gc (addT a b c d) (gc b d))
theorem add_ok {a b c d : Int} (h : isSh a b) (g : isSh c d) : isSh (addX a b c d) (addY a b c d) /\ addX a b c d * (b * d) = (a * d + c * b) * addY a b c d := by
 obtain ⟨ha, hb, hg⟩ := h
 obtain ⟨hc, hd, hg'⟩ := g
 obtain ⟨x, rfl⟩ := Int.eq_ofNat_of_zero_le ha
 obtain ⟨y, rfl⟩ := Int.eq_ofNat_of_zero_le (show 0 <= b by omega)
 obtain ⟨z, rfl⟩ := Int.eq_ofNat_of_zero_le hc
 obtain ⟨u, rfl⟩ := Int.eq_ofNat_of_zero_le (show 0 <= d by omega)
 try simp only [Int.ofNat_eq_natCast] at *
 obtain ⟨h1, h2, h3⟩ := add_nat (a := x) (b := y) (c := z) (d := u) (by omega) (by omega) (gc_one.mp hg) (gc_one.mp hg')
 have eT : addT (x : Int) y z u = ((x * (u / Nat.gcd y u) + z * (y / Nat.gcd y u) : Nat) : Int) := by
  unfold addT
  rw [gc_nat, <- Int.natCast_ediv, <- Int.natCast_ediv]
  push_cast; rfl
 have eX : addX (x : Int) y z u = (((x * (u / Nat.gcd y u) + z * (y / Nat.gcd y u)) / Nat.gcd (x * (u / Nat.gcd y u) + z * (y / Nat.gcd y u)) (Nat.gcd y u) : Nat) : Int) := by
  unfold addX
  rw [eT, gc_nat y u, gc_nat, <- Int.natCast_ediv]
 have eY : addY (x : Int) y z u = ((y / Nat.gcd y u * (u / Nat.gcd (x * (u / Nat.gcd y u) + z * (y / Nat.gcd y u)) (Nat.gcd y u)) : Nat) : Int) := by
  unfold addY
  rw [eT, gc_nat y u, gc_nat, <- Int.natCast_ediv, <- Int.natCast_ediv, Int.natCast_mul]
 rw [eX, eY]
 refine ⟨⟨Int.natCast_nonneg _, by omega, gc_one.mpr h1⟩, ?_⟩
 exact_mod_cast h3
end S
set_option Elab.async false
set_option linter.all false
set_option maxRecDepth 100000
namespace S
open PySem L2
theorem same_new {H : Hp} {a : Addr} (h : H a = none) (o : HO) : Same H (upd H a o) := fun b u e => by rw [upd_ne (ne_of_none e h)]; exact e
theorem add_bg {n m : Nat} {a b c d : Int} (ha : BG n a) (hb : BG n b) (hc : BG m c) (hd : BG m d) (b1 : 1 <= b) (d1 : 1 <= d) : BG (n + m + 1) (addT a b c d) /\ BG (n + m + 1) (addX a b c d) /\ BG (n + m + 1) (addY a b c d) := by
 have gp := gc_pos (a := b) (b := d) (by omega) (by omega)
 have t : BG (n + m + 1) (addT a b c d) := (ha.mul (hd.div (Int.le_of_lt gp))).add (by
  have := hc.mul (hb.div (j := gc b d) (Int.le_of_lt gp))
  rw [Nat.add_comm m n] at this; exact this)
 have lp := gc_pos (a := addT a b c d) (b := gc b d) t.1 gp
 exact ⟨t, t.div (Int.le_of_lt lp), ((hb.div (Int.le_of_lt gp)).mul (hd.div (Int.le_of_lt lp))).mono (by omega)⟩
def Two (H : Hp) (s t : Addr) (n m : Nat) (a b c d : Int) : Prop := H s = some (.tup [.int a, .int b]) /\ H t = some (.tup [.int c, .int d]) /\ isSh a b /\ isSh c d /\ BG n a /\ BG n b /\ BG m c /\ BG m d
def spAdded : Sp := fun vs H Q _ => ∃ s t n m a b c d, vs = [.ref s, .ref t] /\ Two H s t n m a b c d /\ n + m + 1 <= 8000 /\ ∀ r, H r = none -> Q (.ref r) (upd H r (.tup [.int (addX a b c d), .int (addY a b c d)]))
section
variable {P : Program} {w : World} {K : PySem.W.Frag} {mg : Str -> Option Value} {base : Heap}
theorem scAdded : FnScope ["one", "other", "both", "top", "left"] ["one", "other"] (defScope sAdded) := ⟨rfl, rfl, rfl, by decide +kernel, rfl, by decide +kernel, by decide +kernel⟩
theorem ok_added {f a1 : Addr} {fd d1 : FuncData} (F : Fun K "added" "added" sAdded f fd) (D1 : Def P w K mg base 1 "common" ["one", "other"] spCommon a1 d1) : FnOk P w K mg base CX0 2 f fd ["one", "other"] spAdded := by
 refine F.ok scAdded (fun vs H Q E h => ?_) (fun cdv A outer s H vs Q E hr h => ?_)
 ·obtain ⟨s, t, n, m, a, b, c, d, rfl, _⟩ := h
  rfl
 obtain ⟨s', t, n, m, a, b, c, d, rfl, ⟨hs, ht, h1, h2, ha, hb, hc, hd⟩, hnm, q⟩ := h
 refine ⟨_, pss_cons (ps_set (i := 2) scAdded.nd rfl (Or.inl rfl) (pe_call D1.ok hr rfl D1.m D1.k D1.b .nil pass0 (pa_cons (pe_ix ix_tup (pv 0) pe_int (fun _ _ => rfl)) (pa_cons (pe_ix ix_tup (pv 1) pe_int (fun _ _ => rfl)) pa_nil))))
  (pss_cons (ps_set (i := 3) scAdded.nd rfl (Or.inl rfl) (pe_op op_add (pe_op op_mulB (pe_ix ix_tup (pv 0) pe_int (fun _ _ => rfl)) (pe_op op_fdivB (pe_ix ix_tup (pv 1) pe_int (fun _ _ => rfl)) (pv 2))) (pe_op op_mulB (pe_ix ix_tup (pv 1) pe_int (fun _ _ => rfl)) (pe_op op_fdivB (pe_ix ix_tup (pv 0) pe_int (fun _ _ => rfl)) (pv 2)))))
  (pss_cons (ps_set (i := 4) scAdded.nd rfl (Or.inl rfl) (pe_call D1.ok hr rfl D1.m D1.k D1.b .nil pass0 (pa_cons (pv 3) (pa_cons (pv 2) pa_nil))))
  (pss_one (ps_ret (pe_tup (pa_cons (pe_op op_fdivB (pv 3) (pv 4)) (pa_cons (pe_op op_mulB (pe_op op_fdivB (pe_ix ix_tup (pv 0) pe_int (fun _ _ => rfl)) (pv 2)) (pe_op op_fdivB (pe_ix ix_tup (pv 1) pe_int (fun _ _ => rfl)) (pv 4))) pa_nil)))))))  , ?_⟩
 have b1 := h1.2.1
 have d1 := h2.2.1
 have gp := gc_pos (a := b) (b := d) (by omega) (by omega)
 have gB : BG m (gc b d) := hd.le (gc_nn _ _) (gc_le (by omega))
 obtain ⟨tB, xB, yB⟩ := add_bg ha hb hc hd b1 d1
 have lp := gc_pos (a := addT a b c d) (b := gc b d) tB.1 gp
 have lB : BG m (gc (addT a b c d) (gc b d)) := gB.le (gc_nn _ _) (gc_le gp)
 have g' : CDivB d (gc b d) := ⟨gp, gB.abs (by omega)⟩
 have l' : CDivB d (gc (addT a b c d) (gc b d)) := ⟨lp, lB.abs (by omega)⟩
 refine ⟨_, rfl, s', _, _, _, rfl, rfl, SqT.of hs, rfl, _, rfl, t, _, _, _, rfl, rfl, SqT.of ht, rfl, b, d, rfl, by omega, by omega, ?_⟩
 refine ⟨_, rfl, s', _, _, _, rfl, rfl, SqT.of hs, rfl, _, rfl, t, _, _, _, rfl, rfl, SqT.of ht, rfl, _, rfl, _, _, rfl, rfl, g', _, _, rfl, rfl, ⟨ha.abs (by omega), (hd.div (Int.le_of_lt gp)).abs (by omega)⟩, ?_⟩
 refine ⟨_, rfl, t, _, _, _, rfl, rfl, SqT.of ht, rfl, _, rfl, s', _, _, _, rfl, rfl, SqT.of hs, rfl, _, rfl, _, _, rfl, rfl, g', _, _, rfl, rfl, ⟨hc.abs (by omega), (hb.div (Int.le_of_lt gp)).abs (by omega)⟩, _, _, rfl, rfl, ?_⟩
 show tSeq _ _ _ _ _
 refine ⟨_, rfl, _, rfl, addT a b c d, gc b d, rfl, tB.1, gc_nn _ _, ?_⟩
 refine ⟨_, rfl, _, rfl, _, _, rfl, rfl, l', _, rfl, s', _, _, _, rfl, rfl, SqT.of hs, rfl, _, rfl, _, _, rfl, rfl, g', _, rfl, t, _, _, _, rfl, rfl, SqT.of ht, rfl, _, rfl, _, _, rfl, rfl, l', _, _, rfl, rfl, ⟨(hb.div (Int.le_of_lt gp)).abs (by omega), (hd.div (Int.le_of_lt lp)).abs (by omega)⟩, (by show 2 <= sizeLine; decide), fun r hr' => q r hr'⟩
end
end S
set_option Elab.async false
set_option linter.all false
set_option maxRecDepth 100000
namespace S
open PySem L2
def Told (H H' : Hp) (r : Addr) (k : Nat) (n d : Int) : Prop := ∃ x y : Int, Same H H' /\ H r = none /\ H' r = some (.tup [.int x, .int y]) /\ isSh x y /\ BG k x /\ BG k y /\ x * d = n * y
def spPlus : Sp := fun vs H Q _ => ∃ s t n m a b c d, vs = [.ref s, .ref t] /\ Two H s t n m a b c d /\ n + m + 1 <= 8000 /\ ∀ r H', Told H H' r (n + m + 1) (a * d + c * b) (b * d) -> Q (.ref r) H'
def spTimes : Sp := fun vs H Q _ => ∃ s t n m a b c d, vs = [.ref s, .ref t] /\ Two H s t n m a b c d /\ n + m + 1 <= 8000 /\ ∀ r H', Told H H' r (n + m + 1) (a * c) (b * d) -> Q (.ref r) H'
def spLess : Sp := fun vs H Q _ => ∃ s t n m a b c d, vs = [.ref s, .ref t] /\ Two H s t n m a b c d /\ n + m + 1 <= 8000 /\ ∀ H', Same H H' -> Q (.bl (decide (a * d < c * b))) H'
def spMinus (C : Addr) : Sp := fun vs H Q E => ∃ s t n m a b c d, vs = [.ref s, .ref t] /\ Two H s t n m a b c d /\ n + m + 1 <= 8000 /\ (c * b <= a * d -> ∀ r H', Told H H' r (n + m + 1) (a * d - c * b) (b * d) -> Q (.ref r) H') /\
 (a * d < c * b -> ∀ dx p H', Same H H' -> H dx = none -> H' dx = some (.xd [("found", .ref p)]) -> H' p = some (.tup [.ref s, .ref t]) -> E (.ref C) (some dx) H')
theorem Two.shs {H : Hp} {s t : Addr} {n m : Nat} {a b c d : Int} (h : Two H s t n m a b c d) : ShsAt H [s, t] [(a, b), (c, d)] := by
 obtain ⟨h1, h2, h3, h4, _⟩ := h
 refine ⟨rfl, fun i t' p e1 e2 => ?_⟩
 match i, e1, e2 with
 | 0, e1, e2 => cases e1; cases e2; exact ⟨h1, h3⟩
 | 1, e1, e2 => cases e1; cases e2; exact ⟨h2, h4⟩
theorem Two.same {H H' : Hp} {s t : Addr} {n m : Nat} {a b c d : Int} (h : Two H s t n m a b c d) (g : Same H H') : Two H' s t n m a b c d := let ⟨h1, h2, r⟩ := h; ⟨g _ _ h1, g _ _ h2, r⟩
section
variable {P : Program} {w : World} {K : PySem.W.Frag} {mg : Str -> Option Value} {base : Heap}
theorem scPlus : FnScope ["one", "other"] ["one", "other"] (defScope sPlus) := ⟨rfl, rfl, rfl, by decide +kernel, rfl, by decide +kernel, by decide +kernel⟩
theorem ok_plus {f a1 a2 : Addr} {fd d1 d2 : FuncData} (F : Fun K "plus_share" "plus_share" sPlus f fd) (D1 : Def P w K mg base 4 "check_shares" ["shares"] (spCheckS K) a1 d1) (D2 : Def P w K mg base 2 "added" ["one", "other"] spAdded a2 d2) : FnOk P w K mg base CX0 5 f fd ["one", "other"] spPlus := by
 refine F.ok scPlus (fun vs H Q E h => ?_) (fun cdv A outer s H vs Q E hr h => ?_)
 ·obtain ⟨s, t, n, m, a, b, c, d, rfl, _⟩ := h
  rfl
 obtain ⟨s', t, n, m, a, b, c, d, rfl, tw, hnm, q⟩ := h
 have hr2 : Room 2 _ := hr.mono (by decide)
 refine ⟨_, pss_cons (ps_expr (pe_call D1.ok hr rfl D1.m D1.k D1.b .nil pass0 (pa_cons (pe_lst (pa_cons (pv 0) (pa_cons (pv 1) pa_nil))) pa_nil))) (pss_one (ps_ret (pe_call D2.ok hr2 rfl D2.m D2.k D2.b .nil pass0 (pa_cons (pv 0) (pa_cons (pv 1) pa_nil))))), ?_⟩
 refine ⟨_, rfl, _, rfl, (by show 2 <= sizeLine; decide), fun l hl => ⟨l, [s', t], _, rfl, .inl (SqL.of upd_same), (tw.shs).same (same_new hl _), ?_⟩⟩
 have g1 := same_new hl (.lst [.ref s', .ref t])
 refine ⟨_, rfl, _, rfl, s', t, n, m, a, b, c, d, rfl, tw.same g1, hnm, fun r hr' => ?_⟩
 have g2 := same_new hr' (.tup [.int (addX a b c d), .int (addY a b c d)])
 obtain ⟨hs, ht, h1, h2, ha, hb, hc, hd⟩ := tw
 obtain ⟨_, xB, yB⟩ := add_bg ha hb hc hd h1.2.1 h2.2.1
 obtain ⟨ok1, ok2⟩ := add_ok h1 h2
 exact q r _ ⟨_, _, g1.trans g2, g1.free hr', upd_same, ok1, xB, yB, ok2⟩
theorem scTimes : FnScope ["one", "other"] ["one", "other"] (defScope sTimes) := ⟨rfl, rfl, rfl, by decide +kernel, rfl, by decide +kernel, by decide +kernel⟩
theorem ok_times {f a1 a2 : Addr} {fd d1 d2 : FuncData} (F : Fun K "times_share" "times_share" sTimes f fd) (D1 : Def P w K mg base 4 "check_shares" ["shares"] (spCheckS K) a1 d1) (D2 : Def P w K mg base 2 "lowest" ["top", "bottom"] spLowest a2 d2) : FnOk P w K mg base CX0 5 f fd ["one", "other"] spTimes := by
 refine F.ok scTimes (fun vs H Q E h => ?_) (fun cdv A outer s H vs Q E hr h => ?_)
 ·obtain ⟨s, t, n, m, a, b, c, d, rfl, _⟩ := h
  rfl
 obtain ⟨s', t, n, m, a, b, c, d, rfl, tw, hnm, q⟩ := h
 have hr2 : Room 2 _ := hr.mono (by decide)
 refine ⟨_, pss_cons (ps_expr (pe_call D1.ok hr rfl D1.m D1.k D1.b .nil pass0 (pa_cons (pe_lst (pa_cons (pv 0) (pa_cons (pv 1) pa_nil))) pa_nil)))
  (pss_one (ps_ret (pe_call D2.ok hr2 rfl D2.m D2.k D2.b .nil pass0 (pa_cons (pe_op op_mulB (pe_ix ix_tup (pv 0) pe_int (fun _ _ => rfl)) (pe_ix ix_tup (pv 1) pe_int (fun _ _ => rfl))) (pa_cons (pe_op op_mulB (pe_ix ix_tup (pv 0) pe_int (fun _ _ => rfl)) (pe_ix ix_tup (pv 1) pe_int (fun _ _ => rfl))) pa_nil))))), ?_⟩
 refine ⟨_, rfl, _, rfl, (by show 2 <= sizeLine; decide), fun l hl => ⟨l, [s', t], _, rfl, .inl (SqL.of upd_same), (tw.shs).same (same_new hl _), ?_⟩⟩
 have g1 := same_new hl (.lst [.ref s', .ref t])
 obtain ⟨hs, ht, h1, h2, ha, hb, hc, hd⟩ := tw.same g1
 have b1 := h1.2.1
 have d1 := h2.2.1
 have nB : BG (n + m + 1) (a * c) := (ha.mul hc).mono (by omega)
 have dB : BG (n + m + 1) (b * d) := (hb.mul hd).mono (by omega)
 have dp : 1 <= b * d := by have := Int.mul_pos (show 0 < b by omega) (show 0 < d by omega); omega
 refine ⟨_, rfl, s', _, _, _, rfl, rfl, SqT.of hs, rfl, _, rfl, t, _, _, _, rfl, rfl, SqT.of ht, rfl, _, _, rfl, rfl, ⟨ha.abs (by omega), hc.abs (by omega)⟩, _, rfl, s', _, _, _, rfl, rfl, SqT.of hs, rfl, _, rfl, t, _, _, _, rfl, rfl, SqT.of ht, rfl, _, _, rfl, rfl, ⟨hb.abs (by omega), hd.abs (by omega)⟩, a * c, b * d, rfl, nB.mono (by omega), dB.mono (by omega), dp, fun r hr' => ?_⟩
 obtain ⟨ok1, ok2⟩ := low_ok nB.1 dp
 have gn := gc_nn (a * c) (b * d)
 exact q r _ ⟨_, _, g1.trans (same_new hr' _), g1.free hr', upd_same, ok1, nB.div gn, dB.div gn, ok2⟩
theorem scLess : FnScope ["one", "other"] ["one", "other"] (defScope sLess) := ⟨rfl, rfl, rfl, by decide +kernel, rfl, by decide +kernel, by decide +kernel⟩
theorem ok_less {f a1 : Addr} {fd d1 : FuncData} (F : Fun K "less_than" "less_than" sLess f fd) (D1 : Def P w K mg base 4 "check_shares" ["shares"] (spCheckS K) a1 d1) : FnOk P w K mg base CX0 5 f fd ["one", "other"] spLess := by
 refine F.ok scLess (fun vs H Q E h => ?_) (fun cdv A outer s H vs Q E hr h => ?_)
 ·obtain ⟨s, t, n, m, a, b, c, d, rfl, _⟩ := h
  rfl
 obtain ⟨s', t, n, m, a, b, c, d, rfl, tw, hnm, q⟩ := h
 refine ⟨_, pss_cons (ps_expr (pe_call D1.ok hr rfl D1.m D1.k D1.b .nil pass0 (pa_cons (pe_lst (pa_cons (pv 0) (pa_cons (pv 1) pa_nil))) pa_nil)))
  (pss_one (ps_ret (pe_cmpR op_lt (pe_op op_mulB (pe_ix ix_tup (pv 0) pe_int (fun _ _ => rfl)) (pe_ix ix_tup (pv 1) pe_int (fun _ _ => rfl))) (pe_op op_mulB (pe_ix ix_tup (pv 1) pe_int (fun _ _ => rfl)) (pe_ix ix_tup (pv 0) pe_int (fun _ _ => rfl))) (nomark _)))), ?_⟩
 refine ⟨_, rfl, _, rfl, (by show 2 <= sizeLine; decide), fun l hl => ⟨l, [s', t], _, rfl, .inl (SqL.of upd_same), (tw.shs).same (same_new hl _), ?_⟩⟩
 have g1 := same_new hl (.lst [.ref s', .ref t])
 obtain ⟨hs, ht, h1, h2, ha, hb, hc, hd⟩ := tw.same g1
 exact ⟨_, rfl, s', _, _, _, rfl, rfl, SqT.of hs, rfl, _, rfl, t, _, _, _, rfl, rfl, SqT.of ht, rfl, _, _, rfl, rfl, ⟨ha.abs (by omega), hd.abs (by omega)⟩, _, rfl, t, _, _, _, rfl, rfl, SqT.of ht, rfl, _, rfl, s', _, _, _, rfl, rfl, SqT.of hs, rfl, _, _, rfl, rfl, ⟨hc.abs (by omega), hb.abs (by omega)⟩, _, _, rfl, rfl, q _ g1⟩
theorem scMinus : FnScope ["one", "other", "top"] ["one", "other"] (defScope sMinus) := ⟨rfl, rfl, rfl, by decide +kernel, rfl, by decide +kernel, by decide +kernel⟩
theorem ok_minus {f a1 a2 C fI : Addr} {bm : List Value} {fd d1 d2 dI : FuncData} (F : Fun K "minus_share" "minus_share" sMinus f fd) (D1 : Def P w K mg base 4 "check_shares" ["shares"] (spCheckS K) a1 d1) (D2 : Def P w K mg base 2 "lowest" ["top", "bottom"] spLowest a2 d2)
  (ec : ErrC K C fI bm) (OI : FnOk P w K mg base CX0 2 fI dI ["self", "found"] (spErr1 C "found")) (bI : Binds K dI ["self", "found"] []) (mC : mg "NoShare" = some (.ref C)) : FnOk P w K mg base (CXE P w) 5 f fd ["one", "other"] (spMinus C) := by
 refine F.okE scMinus (fun vs H Q E h => ?_) (fun cdv A outer s H vs Q E hr h => ?_)
 ·obtain ⟨s, t, n, m, a, b, c, d, rfl, _⟩ := h
  rfl
 obtain ⟨s', t, n, m, a, b, c, d, rfl, tw, hnm, q1, q2⟩ := h
 have hr2 : Room 2 _ := hr.mono (by decide)
 have hr3 : Room 3 _ := hr.mono (by decide)
 refine ⟨_, pss_cons (ps_expr (pe_call D1.ok hr rfl D1.m D1.k D1.b .nil pass0 (pa_cons (pe_lst (pa_cons (pv 0) (pa_cons (pv 1) pa_nil))) pa_nil)))
  (pss_cons (ps_set (i := 2) scMinus.nd rfl (Or.inl rfl) (pe_op op_sub (pe_op op_mulB (pe_ix ix_tup (pv 0) pe_int (fun _ _ => rfl)) (pe_ix ix_tup (pv 1) pe_int (fun _ _ => rfl))) (pe_op op_mulB (pe_ix ix_tup (pv 1) pe_int (fun _ _ => rfl)) (pe_ix ix_tup (pv 0) pe_int (fun _ _ => rfl)))))
  (pss_cons (ps_if (pt_cmpR op_lt (pv 2) pe_int (nomark _)) (pss_one (ps_raise1 (E := E) rfl ec OI hr3 bI rfl mC throwE (pa_cons (pe_tup (pa_cons (pv 0) (pa_cons (pv 1) pa_nil))) pa_nil))) pss_nil)
  (pss_one (ps_ret (pe_call D2.ok hr2 rfl D2.m D2.k D2.b .nil pass0 (pa_cons (pv 2) (pa_cons (pe_op op_mulB (pe_ix ix_tup (pv 0) pe_int (fun _ _ => rfl)) (pe_ix ix_tup (pv 1) pe_int (fun _ _ => rfl))) pa_nil))))))), ?_⟩
 refine ⟨_, rfl, _, rfl, (by show 2 <= sizeLine; decide), fun l hl => ⟨l, [s', t], _, rfl, .inl (SqL.of upd_same), (tw.shs).same (same_new hl _), ?_⟩⟩
 have g1 := same_new hl (.lst [.ref s', .ref t])
 obtain ⟨hs, ht, h1, h2, ha, hb, hc, hd⟩ := tw.same g1
 have b1 := h1.2.1
 have d1 := h2.2.1
 refine ⟨_, rfl, s', _, _, _, rfl, rfl, SqT.of hs, rfl, _, rfl, t, _, _, _, rfl, rfl, SqT.of ht, rfl, _, _, rfl, rfl, ⟨ha.abs (by omega), hd.abs (by omega)⟩, _, rfl, t, _, _, _, rfl, rfl, SqT.of ht, rfl, _, rfl, s', _, _, _, rfl, rfl, SqT.of hs, rfl, _, _, rfl, rfl, ⟨hc.abs (by omega), hb.abs (by omega)⟩, _, _, rfl, rfl, ?_⟩
 refine ⟨_, rfl, _, _, rfl, rfl, _, rfl, ?_⟩
 refine ite2 (fun c0 => ?_) (fun c0 => ?_)
 ·have c' : a * d - c * b < 0 := of_decide_eq_true c0
  refine ⟨_, rfl, _, rfl, (by show 2 <= sizeLine; decide), fun p hp => ⟨_, rfl, fun dx hdx => ?_⟩⟩
  have g2 := same_new hp (.tup [.ref s', .ref t])
  have g3 := same_new hdx (.xd [("found", .ref p)])
  exact q2 (by omega) dx p _ ((g1.trans g2).trans g3) ((g1.trans g2).free hdx) upd_same (g3 _ _ upd_same)
 ·have c' : ¬ a * d - c * b < 0 := fun z => c0 (decide_eq_true z)
  have dB : BG (n + m + 1) (b * d) := (hb.mul hd).mono (by omega)
  have tB : BG (n + m + 1) (a * d - c * b) := ((ha.mul hd).le (by omega) (by have := Int.mul_nonneg hc.1 hb.1; omega)).mono (by omega)
  have dp : 1 <= b * d := by have := Int.mul_pos (show 0 < b by omega) (show 0 < d by omega); omega
  refine ⟨_, rfl, _, rfl, s', _, _, _, rfl, rfl, SqT.of hs, rfl, _, rfl, t, _, _, _, rfl, rfl, SqT.of ht, rfl, _, _, rfl, rfl, ⟨hb.abs (by omega), hd.abs (by omega)⟩, a * d - c * b, b * d, rfl, tB.mono (by omega), dB.mono (by omega), dp, fun r hr' => ?_⟩
  obtain ⟨ok1, ok2⟩ := low_ok tB.1 dp
  have gn := gc_nn (a * d - c * b) (b * d)
  exact q1 (by omega) r _ ⟨_, _, g1.trans (same_new hr' _), g1.free hr', upd_same, ok1, tB.div gn, dB.div gn, ok2⟩
end
end S
set_option Elab.async false
set_option linter.all false
set_option maxRecDepth 100000
namespace S
open PySem L2
def stepF (s p : Int × Int) : Int × Int := (s.1 * p.2 + p.1 * s.2, s.2 * p.2)
def sumF (ps : List (Int × Int)) : Int × Int := ps.foldl stepF (0, 1)
theorem sumF_snoc (ps : List (Int × Int)) (p : Int × Int) : sumF (ps ++ [p]) = stepF (sumF ps) p := by unfold sumF; rw [List.foldl_append]; rfl
theorem sumF_rev (ps : List (Int × Int)) : sumF ps.reverse = sumF ps := by
 unfold sumF
 refine List.Perm.foldl_eq' (List.reverse_perm ps) (fun x _ y _ z => ?_) _
 unfold stepF
 refine Prod.ext ?_ ?_
 ·simp only [Int.add_mul, Int.mul_add, Int.mul_comm, Int.mul_left_comm, Int.mul_assoc, Int.add_comm, Int.add_left_comm, Int.add_assoc]
 ·simp only [Int.mul_comm, Int.mul_left_comm, Int.mul_assoc]
theorem sum_step {x y N D a b X Y : Int} (hy : 1 <= y) (h : x * D = N * y) (g : X * (y * b) = (x * b + a * y) * Y) : X * (D * b) = (N * b + a * D) * Y := by
 have e : y * (X * (D * b)) = y * ((N * b + a * D) * Y) := by
  have e1 : y * (X * (D * b)) = (X * (y * b)) * D := by simp only [Int.mul_comm, Int.mul_left_comm, Int.mul_assoc]
  have e2 : (x * b + a * y) * Y * D = ((x * D) * b + a * y * D) * Y := by
   simp only [Int.add_mul, Int.mul_add, Int.mul_comm, Int.mul_left_comm, Int.mul_assoc]
  rw [e1, g, e2, h]
  simp only [Int.add_mul, Int.mul_add, Int.mul_comm, Int.mul_left_comm, Int.mul_assoc]
 exact Int.eq_of_mul_eq_mul_left (by omega) e
structure Shares (H : Hp) (l : Addr) (ts : List Addr) (ps : List (Int × Int)) : Prop where
 row : H l = some (.lst (ts.map V.ref)) \/ H l = some (.tup (ts.map V.ref))
 shs : ShsAt H ts ps
 few : ps.length <= 8
 bg : ∀ p ∈ ps, BG 140 p.1 /\ BG 140 p.2
theorem Shares.same {H H' : Hp} {l : Addr} {ts : List Addr} {ps : List (Int × Int)} (h : Shares H l ts ps) (g : Same H H') : Shares H' l ts ps := ⟨h.row.imp (g _ _) (g _ _), h.shs.same g, h.few, h.bg⟩
theorem Shares.sq {K : PySem.W.Frag} {H : Hp} {l : Addr} {ts : List Addr} {ps : List (Int × Int)} (h : Shares H l ts ps) : Sq K H l (ts.map V.ref) := h.row.imp SqL.of SqT.of
def spSum : Sp := fun vs H Q _ => ∃ l ts ps, vs = [.ref l] /\ Shares H l ts ps /\ ∀ r H', Told H H' r 2000 (sumF ps).1 (sumF ps).2 -> Q (.ref r) H'
section
variable {P : Program} {w : World} {K : PySem.W.Frag} {mg : Str -> Option Value} {base : Heap}
theorem kitAny2 {K : PySem.W.Frag} {t c d : Value} {a b : Bool} (h1 : PySem.W.kitOne K t c = some a) (h2 : PySem.W.kitOne K t d = some b) : PySem.W.kitAny K t [c, d] = some (a || b) := by
 unfold PySem.W.kitAny
 rw [h1]
 cases a with
 | true => rfl
 | false =>
  show PySem.W.kitAny K t [d] = _
  unfold PySem.W.kitAny
  rw [h2]
  cases b <;> rfl
theorem scSumS : FnScope ["shares", "total", "share"] ["shares"] (defScope sSumS) := ⟨rfl, rfl, rfl, by decide +kernel, rfl, by decide +kernel, by decide +kernel⟩
theorem ok_sumS {f a1 a2 : Addr} {fd d1 d2 : FuncData} (F : Fun K "sum_shares" "sum_shares" sSumS f fd) (mi : mg "isinstance" = none) (ml : mg "list" = none) (mt : mg "tuple" = none) (k1 : PySem.W.kitOne K (.type "list") (.type "tuple") = some false) (k2 : PySem.W.kitOne K (.type "tuple") (.type "list") = some false)
  (D1 : Def P w K mg base 4 "check_shares" ["shares"] (spCheckS K) a1 d1) (D2 : Def P w K mg base 2 "added" ["one", "other"] spAdded a2 d2) : FnOk P w K mg base CX0 5 f fd ["shares"] spSum := by
 refine F.ok scSumS (fun vs H Q E h => ?_) (fun cdv A outer s H vs Q E hr h => ?_)
 ·obtain ⟨l, ts, ps, rfl, _⟩ := h
  rfl
 obtain ⟨l, ts, ps, rfl, sh, q⟩ := h
 have hr2 : Room 2 _ := hr.mono (by decide)
 refine ⟨_, pss_cons (ps_if (pt_not (pt_val (pe_callB call_instT rfl mi PyProof.Rows.boot_isinstance (pa_cons (pv 0) (pa_cons (pe_tup (pa_cons (pe_bltn (v := .ty "list") rfl ml PyProof.Rows.boot_list rfl) (pa_cons (pe_bltn (v := .ty "tuple") rfl mt PyProof.Rows.boot_tuple rfl) pa_nil))) pa_nil))))) pss_never pss_nil)
  (pss_cons (ps_expr (pe_call D1.ok hr rfl D1.m D1.k D1.b .nil pass0 (pa_cons (pv 0) pa_nil)))
  (pss_cons (ps_set (i := 1) scSumS.nd rfl (Or.inl rfl) (pe_tup (pa_cons pe_int (pa_cons pe_int pa_nil))))
  (pss_cons (ps_for PassesOwn.never rfl (pi_seq (pv 0)) (pg_name (i := 2) scSumS.nd rfl (Or.inl rfl)) (pss_one (ps_set (i := 1) scSumS.nd rfl (Or.inl rfl) (pe_call D2.ok hr2 rfl D2.m D2.k D2.b .nil pass0 (pa_cons (pv 1) (pa_cons (pv 2) pa_nil))))))
  (pss_one (ps_ret (pv 1)))))), ?_⟩
 refine ⟨_, rfl, (by show 2 <= sizeLine; decide), fun p hp => ?_⟩
 have g1 := same_new hp (.tup [.ty "list", .ty "tuple"])
 have c1 : (upd H p (.tup [.ty "list", .ty "tuple"])) p = some (.tup (["list", "tuple"].map V.ty)) := upd_same
 generalize upd H p (.tup [.ty "list", .ty "tuple"]) = H1 at g1 c1 ⊢
 have sh1 := sh.same g1
 obtain ⟨t, ty, e⟩ : ∃ t, TyOf K H1 (.ref l) t /\ PySem.W.kitAny K t [.type "list", .type "tuple"] = some true := by
  rcases sh1.row with h | h
  ·exact ⟨_, .lst h, kitAny2 (a := true) rfl k1⟩
  ·exact ⟨_, .tup h, kitAny2 (b := true) k2 rfl⟩
 refine ⟨_, t, p, ["list", "tuple"], _, rfl, ty, c1, e, _, rfl, iteF ?_⟩
 refine ⟨_, rfl, l, ts, ps, rfl, sh1.sq, sh1.shs, ?_⟩
 refine ⟨(by show 2 <= sizeLine; decide), fun tt htt => ?_⟩
 have g2 := same_new htt (.tup [.int 0, .int 1])
 have c2 : (upd H1 tt (.tup [.int 0, .int 1])) tt = some (.tup [.int 0, .int 1]) := upd_same
 generalize upd H1 tt (.tup [.int 0, .int 1]) = H2 at g2 c2 ⊢
 have sh2 := sh1.same g2
 have g12 := g1.trans g2
 refine ⟨_, rfl, l, rfl, ?_⟩
 have sl := sh.shs.1
 refine seq_for (K := K) (ys := ts.map V.ref) sh2.sq (fun j σ H' => ∃ (to : Addr) (x y : Int) (sv : Option V), σ = [some (.ref l), some (.ref to), sv] /\ Same H2 H' /\ H to = none /\ H' to = some (.tup [.int x, .int y]) /\ isSh x y /\ BG (1 + 141 * j) x /\ BG (1 + 141 * j) y /\ x * (sumF (ps.take j)).2 = (sumF (ps.take j)).1 * y)
  ⟨tt, 0, 1, _, rfl, Same.refl H2, g1.free htt, c2, ⟨by decide, by decide, by decide +kernel⟩, ⟨by decide, by decide⟩, ⟨by decide, by decide⟩, rfl⟩ (fun j σ H' hP o ho => by obtain ⟨to, x, y, sv, _, g, _⟩ := hP; exact g _ _ ho) (fun j σ H' v hj hx hP => ?_) (fun σ H' hP => ?_)
 ·obtain ⟨to, x, y, sv, rfl, g, hto, c, s1, xB, yB, eq⟩ := hP
  rw [List.length_map] at hj
  rw [List.getElem?_map, List.getElem?_eq_getElem hj] at hx
  cases hx
  have hp' : j < ps.length := by rw [<- sl]; exact hj
  obtain ⟨h1, h2⟩ := (sh2.same g).shs.2 j _ _ (List.getElem?_eq_getElem hj) (List.getElem?_eq_getElem hp')
  obtain ⟨aB, bB⟩ := sh.bg _ (List.getElem_mem hp')
  have few := sh.few
  refine ⟨_, rfl, _, rfl, to, ts[j], 1 + 141 * j, 140, x, y, ps[j].1, ps[j].2, rfl, ⟨c, h1, s1, h2, xB, yB, aB, bB⟩, by omega, fun r hr' => ?_⟩
  obtain ⟨_, XB, YB⟩ := add_bg xB yB aB bB s1.2.1 h2.2.1
  obtain ⟨ok1, ok2⟩ := add_ok s1 h2
  have g3 := same_new hr' (.tup [.int (addX x y ps[j].1 ps[j].2), .int (addY x y ps[j].1 ps[j].2)])
  have et : ps.take (j + 1) = ps.take j ++ [ps[j]] := by rw [List.take_succ, List.getElem?_eq_getElem hp']; rfl
  refine ⟨r, _, _, _, rfl, g.trans g3, (g12.trans g).free hr', upd_same, ok1, XB.mono (by omega), YB.mono (by omega), ?_⟩
  rw [et, sumF_snoc]
  exact sum_step s1.2.1 eq ok2
 ·obtain ⟨to, x, y, sv, rfl, g, hto, c, s1, xB, yB, eq⟩ := hP
  have few := sh.few
  have e : (ts.map V.ref).length = ps.length := by rw [List.length_map]; exact sl
  rw [e] at xB yB eq
  rw [List.take_length] at eq
  exact ⟨_, rfl, q to H' ⟨x, y, g12.trans g, hto, c, s1, xB.mono (by omega), yB.mono (by omega), eq⟩⟩
end
end S
set_option Elab.async false
set_option linter.all false
set_option maxRecDepth 100000
namespace S
open PySem L2
def BoxAt (H : Hp) (b : Addr) : Prop := ∃ d s : Int, H b = some (.lst [.int d, .int s]) /\ 0 <= d /\ 0 <= s /\ s < 2147483648
def But (b : Addr) (H H' : Hp) : Prop := ∀ c, c ≠ b -> H' c = H c
def Away (b : Addr) (H H' : Hp) : Prop := ∀ c o, H c = some o -> c ≠ b -> H' c = some o
theorem But.away {b : Addr} {H H' : Hp} (x : But b H H') : Away b H H' := fun c o h n => (x c n).trans h
theorem away_of {b : Addr} {H H' : Hp} (x : Same H H') : Away b H H' := fun c o h _ => x c o h
theorem Away.trans {b : Addr} {H H1 H2 : Hp} (x : Away b H H1) (y : Away b H1 H2) : Away b H H2 := fun c o h n => y c o (x c o h n) n
theorem BoxAt.same {H H' : Hp} {b : Addr} (g : Same H H') (h : BoxAt H b) : BoxAt H' b := let ⟨d, s, h1, h2⟩ := h; ⟨d, s, g _ _ h1, h2⟩
theorem BoxAt.ne {H : Hp} {b c : Addr} (h : BoxAt H b) (hc : H c = none) : b ≠ c := let ⟨_, _, h1, _⟩ := h; ne_of_none h1 hc
theorem Away.free {b c : Addr} {H H' : Hp} (g : Away b H H') (hb : BoxAt H' b) (h : H' c = none) : H c = none := by
 cases q : H c with
 | none => rfl
 | some o => rw [g c o q (hb.ne h).symm] at h; cases h
theorem at_int {ms : List Int} {i : Int} (h0 : 0 <= i) (h : i < (ms.length : Int)) : ∃ v, v ∈ ms /\ atI (ms.map V.int) i = some (.int v) := by
 have hk : i.toNat < ms.length := by omega
 refine ⟨ms[i.toNat], List.getElem_mem hk, ?_⟩
 have q : atI (ms.map V.int) ((i.toNat : Nat) : Int) = some (.int ms[i.toNat]) := atI_nat (by rw [List.getElem?_map, List.getElem?_eq_getElem hk]; rfl)
 rw [show ((i.toNat : Nat) : Int) = i by omega] at q
 exact q
def spBox (K : PySem.W.Frag) : Sp := fun vs H Q _ => ∃ a ns k, vs = [.ref a, .int k] /\ SqL K H a (List.map V.int ns) /\ 0 <= k /\ k < 1000 /\ ∀ r H', Same H H' -> H r = none -> BoxAt H' r -> Q (.ref r) H'
def spTake : Sp := fun vs H Q _ => ∃ b n, vs = [.ref b, .int n] /\ 0 < n /\ BG 8000 n /\ BoxAt H b /\ ∀ r H', 0 <= r -> r < n -> BoxAt H' b -> But b H H' -> Q (.int r) H'
def spPart : Sp := fun vs H Q _ => ∃ b, vs = [.ref b] /\ BoxAt H b /\ ∀ r H', BG 135 r -> BoxAt H' b -> But b H H' -> Q (.int r) H'
def spShare : Sp := fun vs H Q _ => ∃ b, vs = [.ref b] /\ BoxAt H b /\ ∀ r x y H', H r = none -> H' r = some (.tup [.int x, .int y]) -> isSh x y -> BG 138 x -> BG 138 y -> BoxAt H' b -> Away b H H' -> Q (.ref r) H'
section
variable {P : Program} {w : World} {K : PySem.W.Frag} {mg : Str -> Option Value} {base : Heap}
theorem scBox : FnScope ["_law_script", "_law_k", "_law_cell", "_law_digits"] ["_law_script", "_law_k"] (defScope sBox) := ⟨rfl, rfl, rfl, by decide +kernel, rfl, by decide +kernel, by decide +kernel⟩
theorem ok_box {f : Addr} {fd : FuncData} (F : Fun K "_law_box" "_law_box" sBox f fd) (ml : mg "len" = none) : FnOk P w K mg base CX0 1 f fd ["_law_script", "_law_k"] (spBox K) := by
 refine F.ok scBox (fun vs H Q E h => ?_) (fun cdv A outer s H vs Q E hr h => ?_)
 ·obtain ⟨a, ns, k, rfl, _⟩ := h
  rfl
 obtain ⟨a, ns, k, rfl, hS, k0, k1, q⟩ := h
 refine ⟨_, pss_cons (ps_set (i := 2) scBox.nd rfl (Or.inl rfl) pe_int)
  (pss_cons (ps_if (pt_cmpR (op_neD hr) (pv 0) (pe_lst pa_nil) (nomark _)) (pss_one (ps_set (i := 2) scBox.nd rfl (Or.inl rfl) (pe_ix ix_list (pv 0) (pe_op op_mod (pv 1) (pe_callB call_len_seq rfl ml PySem.boot_len (pa_cons (pv 0) pa_nil))) (fun _ _ => rfl)))) pss_nil)
  (pss_cons (ps_set (i := 3) scBox.nd rfl (Or.inl rfl) pe_int)
  (pss_cons (ps_if (pt_cmpR op_ge (pv 2) (pe_op op_pow pe_int pe_int) (nomark _)) (pss_one (ps_set (i := 3) scBox.nd rfl (Or.inl rfl) (pv 2))) pss_nil)
  (pss_one (ps_ret (pe_lst (pa_cons (pv 3) (pa_cons (pe_op op_add (pe_op op_mod (pe_op op_add (pv 2) (pe_op op_mul pe_int (pv 1))) pe_int) pe_int) pa_nil)))))))), ?_⟩
 refine ⟨_, rfl, (by show 0 <= sizeLine; decide), fun l hl => ?_⟩
 have g1 := same_new hl (.lst [])
 have c1 : (upd H l (.lst [])) l = some (.lst []) := upd_same
 generalize upd H l (.lst []) = H1 at g1 c1 ⊢
 have hS1 : SqL K H1 a (ns.map V.int) := g1.seq hS
 have fin : ∀ cell : Int, (tSeq (tIfS (tTest (tOp (rI0 fun i j => V.bl (decide (i >= j))) (tVar 2) (tOp (rI CPow fun i j => V.int (i ^ j.toNat)) (tC (V.int 10)) (tC (V.int 18))))) (tAsg (tVar 2) (gName 3)) tNext) (tRet (tLst (tCons (tVar 3) (tCons (tOp (rI0 fun i j => V.int (i + j)) (tOp (rI (fun _ j => 0 < j) fun i j => V.int (i % j)) (tOp (rI0 fun i j => V.int (i + j)) (tVar 2) (tOp (rI CMul fun i j => V.int (i * j)) (tC (V.int 7919)) (tVar 1))) (tC (V.int 2147483646))) (tC (V.int 1))) tNil))))) { nx := fun _ H' => Q .non H', rt := Q } [some (.ref a), some (.int k), some (.int cell), some (.int 0)] H1 := fun cell => by
  have out : ∀ d : Int, 0 <= d -> tRet (tLst (tCons (tVar 3) (tCons (tOp (rI0 fun i j => V.int (i + j)) (tOp (rI (fun _ j => 0 < j) fun i j => V.int (i % j)) (tOp (rI0 fun i j => V.int (i + j)) (tVar 2) (tOp (rI CMul fun i j => V.int (i * j)) (tC (V.int 7919)) (tVar 1))) (tC (V.int 2147483646))) (tC (V.int 1))) tNil))) { nx := fun _ H' => Q .non H', rt := Q } [some (.ref a), some (.int k), some (.int cell), some (.int d)] H1 := fun d hd => by
   refine ⟨_, rfl, _, rfl, _, rfl, _, _, rfl, rfl, .inl ⟨by decide, by decide⟩, _, _, rfl, rfl, _, _, rfl, rfl, (by show (0 : Int) < 2147483646; decide), _, _, rfl, rfl, (by show 2 <= sizeLine; decide), fun r hr' => ?_⟩
   have e0 := Int.emod_nonneg (cell + 7919 * k) (b := 2147483646) (by decide)
   have e1 := Int.emod_lt_of_pos (cell + 7919 * k) (b := 2147483646) (by decide)
   exact q r _ (g1.trans (same_new hr' _)) (g1.free hr') ⟨d, _, upd_same, hd, by omega, by omega⟩
  refine ⟨_, rfl, _, _, rfl, rfl, ⟨by decide, by decide, by decide⟩, _, _, rfl, rfl, _, rfl, ?_⟩
  refine ite2 (fun c => ?_) (fun c => ?_)
  ·have c' : cell >= 10 ^ (18 : Int).toNat := of_decide_eq_true c
   have : (0 : Int) <= 10 ^ (18 : Int).toNat := by decide
   exact ⟨_, rfl, out cell (by omega)⟩
  ·exact out 0 (by decide)
 have lay : PyData.canLayAll0 (ns.map PyData.int) = true := canLay_ints ns
 have dep := depthAll_ints ns
 refine ⟨.list (ns.map .int), .list [], .lst hS1 (DVs.ints ns), .lst (SqL.of c1) .nil, lay, rfl, (by simp only [PyData.depth]; omega), _, rfl, ?_⟩
 have e : PyData.eqv (.list (ns.map PyData.int)) (.list []) = ns.isEmpty := by cases ns <;> rfl
 rw [e]
 refine ite2 (fun c => ?_) (fun c => ?_)
 ·have hne : 0 < ns.length := by
   cases ns with
   | nil => cases c
   | cons _ _ => simp
  have lp : (0 : Int) < ((ns.map V.int).length : Nat) := by rw [List.length_map]; omega
  obtain ⟨v, _, hv⟩ := at_int (ms := ns) (i := k % ((ns.map V.int).length : Nat)) (Int.emod_nonneg _ (by omega)) (by have := Int.emod_lt_of_pos k lp; rw [List.length_map] at this ⊢; exact this)
  exact ⟨_, rfl, _, rfl, _, rfl, a, _, rfl, .inl hS1, _, _, rfl, rfl, lp, a, _, _, _, rfl, rfl, hS1, hv, fin v⟩
 ·exact fin 0
end
end S
set_option Elab.async false
set_option linter.all false
set_option maxRecDepth 100000
namespace S
open PySem L2
section
variable {P : Program} {w : World} {K : PySem.W.Frag} {mg : Str -> Option Value} {base : Heap}
theorem scTake : FnScope ["_law_box_here", "_law_many", "_law_digit", "_law_one", "_law_two"] ["_law_box_here", "_law_many"] (defScope sTake) := ⟨rfl, rfl, rfl, by decide +kernel, rfl, by decide +kernel, by decide +kernel⟩
theorem ok_take {f : Addr} {fd : FuncData} (F : Fun K "_law_take" "_law_take" sTake f fd) : FnOk P w K mg base CX0 1 f fd ["_law_box_here", "_law_many"] spTake := by
 refine F.ok scTake (fun vs H Q E h => ?_) (fun cdv A outer s H vs Q E hr h => ?_)
 ·obtain ⟨b, n, rfl, _⟩ := h
  rfl
 obtain ⟨b, n, rfl, n0, n1, ⟨d, z, hb, d0, s0, s1⟩, q⟩ := h
 refine ⟨_, pss_cons (ps_if (pt_cmpR op_gt (pe_ix ix_list (pv 0) pe_int (fun _ _ => rfl)) pe_int (nomark _))
   (pss_cons (ps_set (i := 2) scTake.nd rfl (Or.inl rfl) (pe_op op_mod (pe_ix ix_list (pv 0) pe_int (fun _ _ => rfl)) (pv 1)))
   (pss_cons (ps_asg (pe_op op_fdivB (pe_ix ix_list (pv 0) pe_int (fun _ _ => rfl)) (pv 1)) (pg_sub (pv 0) pe_int set_list))
   (pss_one (ps_ret (pv 2))))) pss_nil)
  (pss_cons (ps_asg (pe_op op_mod (pe_op op_mul (pe_ix ix_list (pv 0) pe_int (fun _ _ => rfl)) pe_int) pe_int) (pg_sub (pv 0) pe_int set_list))
  (pss_cons (ps_set (i := 3) scTake.nd rfl (Or.inl rfl) (pe_op op_mod (pe_op op_mul (pe_op op_add (pe_ix ix_list (pv 0) pe_int (fun _ _ => rfl)) (pe_op op_mul pe_int (pe_op op_fdiv (pe_ix ix_list (pv 0) pe_int (fun _ _ => rfl)) pe_int))) pe_int) pe_int))
  (pss_cons (ps_set (i := 4) scTake.nd rfl (Or.inl rfl) (pe_op op_mod (pe_op op_add (pe_op op_mul (pv 3) pe_int) (pe_op op_fdiv (pe_ix ix_list (pv 0) pe_int (fun _ _ => rfl)) pe_int)) pe_int))
  (pss_one (ps_ret (pe_op op_mod (pe_op op_add (pe_op op_mul (pv 3) pe_int) (pv 4)) (pv 1))))))), ?_⟩
 have bt : ∀ o, But b H (upd H b o) := fun o c hc => upd_ne hc
 refine ⟨_, rfl, b, _, _, _, rfl, rfl, SqL.of hb, rfl, _, _, rfl, rfl, _, rfl, ?_⟩
 refine ite2 (fun y => ?_) (fun y => ?_)
 ·refine ⟨_, rfl, b, _, _, _, rfl, rfl, SqL.of hb, rfl, _, rfl, _, _, rfl, rfl, n0, ?_⟩
  refine ⟨_, rfl, b, _, _, _, rfl, rfl, SqL.of hb, rfl, _, rfl, _, _, rfl, rfl, ⟨n0, n1.abs (Nat.le_refl _)⟩, _, rfl, b, _, _, _, rfl, rfl, hb, rfl, ?_⟩
  exact ⟨_, rfl, q _ _ (Int.emod_nonneg _ (by omega)) (Int.emod_lt_of_pos _ n0) ⟨_, _, upd_same, Int.ediv_nonneg d0 (by omega), s0, s1⟩ (bt _)⟩
 ·have m0 := Int.emod_nonneg (z * 48271) (b := 2147483647) (by decide)
  have m1 := Int.emod_lt_of_pos (z * 48271) (b := 2147483647) (by decide)
  refine ⟨_, rfl, b, _, _, _, rfl, rfl, SqL.of hb, rfl, _, _, rfl, rfl, .inr ⟨by decide, by decide⟩, _, _, rfl, rfl, (by show (0 : Int) < 2147483647; decide), _, rfl, b, _, _, _, rfl, rfl, hb, rfl, ?_⟩
  refine ⟨_, rfl, b, _, _, _, rfl, rfl, SqL.of upd_same, rfl, _, rfl, b, _, _, _, rfl, rfl, SqL.of upd_same, rfl, _, _, rfl, rfl, ⟨by decide, by decide⟩, _, _, rfl, rfl, .inl ⟨by decide, by decide⟩, _, _, rfl, rfl, _, _, rfl, rfl, .inr ⟨by decide, by decide⟩, _, _, rfl, rfl, (by show (0 : Int) < 2147483629; decide), ?_⟩
  refine ⟨_, rfl, _, _, rfl, rfl, .inr ⟨by decide, by decide⟩, _, rfl, b, _, _, _, rfl, rfl, SqL.of upd_same, rfl, _, _, rfl, rfl, ⟨by decide, by decide⟩, _, _, rfl, rfl, _, _, rfl, rfl, (by show (0 : Int) < 2147483399; decide), ?_⟩
  refine ⟨_, rfl, _, _, rfl, rfl, .inr ⟨by decide, by decide⟩, _, rfl, _, _, rfl, rfl, _, rfl, _, _, rfl, rfl, n0, ?_⟩
  exact q _ _ (Int.emod_nonneg _ (by omega)) (Int.emod_lt_of_pos _ n0) ⟨_, _, upd_same, d0, m0, by omega⟩ (bt _)
theorem scLCommon : FnScope ["_law_one", "_law_other"] ["_law_one", "_law_other"] (defScope s_law_common) := ⟨rfl, rfl, rfl, by decide +kernel, rfl, by decide +kernel, by decide +kernel⟩
theorem ok_lcommon {f : Addr} {fd : FuncData} (F : Fun K "_law_common" "_law_common" s_law_common f fd) : FnOk P w K mg base CX0 1 f fd ["_law_one", "_law_other"] spCommon := by
 refine F.ok scLCommon (fun vs H Q E h => ?_) (fun cdv A outer s H vs Q E hr h => ?_)
 ·obtain ⟨a, b, rfl, _⟩ := h
  rfl
 obtain ⟨a, b, rfl, ha, hb, q⟩ := h
 refine ⟨_, pss_cons (ps_while PassesOwn.never (pt_cmpR op_gt (pv 1) pe_int (nomark _))
   (pss_one (ps_par (i := 0) (j := 1) rfl scLCommon.nd rfl rfl (by decide) rfl rfl (pa_cons (pv 1) (pa_cons (pe_op op_mod (pv 0) (pv 1)) pa_nil)) rfl)))
  (pss_one (ps_ret (pv 0))), ?_⟩
 refine ⟨fun k σ H' => ∃ x y : Int, σ = [some (.int x), some (.int y)] /\ 0 <= x /\ 0 <= y /\ k = y.toNat /\ gc x y = gc a b /\ H' = H, ⟨_, a, b, rfl, ha, hb, rfl, rfl, rfl⟩, ?_⟩
 rintro k σ H' ⟨x, y, rfl, hx, hy, rfl, e, rfl⟩
 refine ⟨_, rfl, _, _, rfl, rfl, _, rfl, ?_⟩
 refine ite2 (fun c => ?_) (fun c => ?_)
 ·have c' : 0 < y := of_decide_eq_true c
  refine ⟨fun σ' H2 => σ' = [some (.int y), some (.int (x % y))] /\ H2 = H', fun σ' H2 ⟨e1, e2⟩ => ⟨_, ?_, y, x % y, e1, hy, Int.emod_nonneg _ (by omega), rfl, (gc_step hx c').trans e, e2⟩, ?_⟩
  ·have := Int.emod_lt_of_pos x c'
   have := Int.emod_nonneg x (b := y) (by omega)
   omega
  ·exact ⟨_, rfl, _, rfl, _, rfl, _, _, rfl, rfl, c', _, _, rfl, rfl, rfl⟩
 ·have c' : y = 0 := by
   have : ¬ 0 < y := fun z => c (decide_eq_true z)
   omega
  subst c'
  rw [gc_zero hx] at e
  refine ⟨_, rfl, ?_⟩
  rw [e]; exact q
theorem bg_of {n : Nat} {i : Int} (h : 0 <= i) (g : i < 2 ^ n) : BG n i := ⟨h, g⟩
theorem scPart : FnScope ["_law_box_here", "_law_way", "_law_number", "_law_k"] ["_law_box_here"] (defScope s_law_part) := ⟨rfl, rfl, rfl, by decide +kernel, rfl, by decide +kernel, by decide +kernel⟩
set_option maxHeartbeats 1000000 in
theorem ok_part {f a1 : Addr} {fd d1 : FuncData} (F : Fun K "_law_part" "_law_part" s_law_part f fd) (mr : mg "range" = none) (D1 : Def P w K mg base 1 "_law_take" ["_law_box_here", "_law_many"] spTake a1 d1) : FnOk P w K mg base CX0 2 f fd ["_law_box_here"] spPart := by
 refine F.ok scPart (fun vs H Q E h => ?_) (fun cdv A outer s H vs Q E hr h => ?_)
 ·obtain ⟨b, rfl, _⟩ := h
  rfl
 obtain ⟨b, rfl, hb, q⟩ := h
 refine ⟨_, pss_cons (ps_set (i := 1) scPart.nd rfl (Or.inl rfl) (pe_call D1.ok hr rfl D1.m D1.k D1.b .nil pass0 (pa_cons (pv 0) (pa_cons pe_int pa_nil))))
  (pss_cons (ps_if (pt_cmpR op_eq (pv 1) pe_int (nomark _)) (pss_one (ps_ret (pe_call D1.ok hr rfl D1.m D1.k D1.b .nil pass0 (pa_cons (pv 0) (pa_cons pe_int pa_nil))))) pss_nil)
  (pss_cons (ps_if (pt_cmpR op_eq (pv 1) pe_int (nomark _)) (pss_one (ps_ret (pe_call D1.ok hr rfl D1.m D1.k D1.b .nil pass0 (pa_cons (pv 0) (pa_cons pe_int pa_nil))))) pss_nil)
  (pss_cons (ps_if (pt_cmpR op_eq (pv 1) pe_int (nomark _)) (pss_one (ps_ret (pe_op op_mul (pe_op op_mul (pe_op op_add pe_int (pe_call D1.ok hr rfl D1.m D1.k D1.b .nil pass0 (pa_cons (pv 0) (pa_cons pe_int pa_nil)))) (pe_op op_add pe_int (pe_call D1.ok hr rfl D1.m D1.k D1.b .nil pass0 (pa_cons (pv 0) (pa_cons pe_int pa_nil))))) (pe_op op_add pe_int (pe_call D1.ok hr rfl D1.m D1.k D1.b .nil pass0 (pa_cons (pv 0) (pa_cons pe_int pa_nil))))))) pss_nil)
  (pss_cons (ps_if (pt_cmpR op_eq (pv 1) pe_int (nomark _)) (pss_one (ps_ret (pe_call D1.ok hr rfl D1.m D1.k D1.b .nil pass0 (pa_cons (pv 0) (pa_cons (pe_op op_pow pe_int pe_int) pa_nil))))) pss_nil)
  (pss_cons (ps_set (i := 2) scPart.nd rfl (Or.inl rfl) pe_int)
  (pss_cons (ps_for PassesOwn.never rfl (pi_range1 rfl mr (pa_cons (pe_op op_add pe_int (pe_call D1.ok hr rfl D1.m D1.k D1.b .nil pass0 (pa_cons (pv 0) (pa_cons pe_int pa_nil)))) pa_nil)) (pg_name (i := 3) scPart.nd rfl (Or.inl rfl)) (pss_one (ps_set (i := 2) scPart.nd rfl (Or.inl rfl) (pe_op op_mul (pv 2) pe_int))))
  (pss_one (ps_ret (pe_op op_sub (pv 2) (pe_call D1.ok hr rfl D1.m D1.k D1.b .nil pass0 (pa_cons (pv 0) (pa_cons pe_int pa_nil)))))))))))), ?_⟩
 have s1 : (100000 : Nat) <= sizeLine := by decide
 have small : ∀ {n : Int}, 0 < n -> n < 1000 -> BG 8000 n := fun h0 h1 => (bg_of (n := 10) (by omega) (by omega)).mono (by decide)
 have tr : ∀ {H1 H2 H3 : Hp}, But b H1 H2 -> But b H2 H3 -> But b H1 H3 := fun x y c h => (y c h).trans (x c h)
 refine ⟨_, rfl, b, 5, rfl, by decide, small (by decide) (by decide), hb, fun way H1 w0 w1 b1 t1 => ?_⟩
 refine ⟨_, rfl, rfl, _, rfl, ?_⟩
 refine ite2 (fun _ => ?_) (fun _ => ?_)
 ·exact ⟨_, rfl, b, 4, rfl, by decide, small (by decide) (by decide), b1, fun r H2 r0 r1 b2 t2 => q r H2 ((bg_of (n := 10) r0 (by omega)).mono (by decide)) b2 (tr t1 t2)⟩
 refine ⟨_, rfl, rfl, _, rfl, ?_⟩
 refine ite2 (fun _ => ?_) (fun _ => ?_)
 ·exact ⟨_, rfl, b, 30, rfl, by decide, small (by decide) (by decide), b1, fun r H2 r0 r1 b2 t2 => q r H2 ((bg_of (n := 10) r0 (by omega)).mono (by decide)) b2 (tr t1 t2)⟩
 refine ⟨_, rfl, rfl, _, rfl, ?_⟩
 refine ite2 (fun _ => ?_) (fun _ => ?_)
 ·refine ⟨_, rfl, b, 12, rfl, by decide, small (by decide) (by decide), b1, fun x H2 x0 x1 b2 t2 => ⟨_, _, rfl, rfl, _, rfl, b, 12, rfl, by decide, small (by decide) (by decide), b2, fun y H3 y0 y1 b3 t3 => ⟨_, _, rfl, rfl, _, _, rfl, rfl, .inl ⟨by omega, by omega⟩, _, rfl, b, 12, rfl, by decide, small (by decide) (by decide), b3, fun z H4 z0 z1 b4 t4 => ⟨_, _, rfl, rfl, _, _, rfl, rfl, .inr ⟨by omega, by omega⟩, ?_⟩⟩⟩⟩
  have e1 : BG 5 (1 + x) := bg_of (by omega) (by omega)
  have e2 : BG 5 (1 + y) := bg_of (by omega) (by omega)
  have e3 : BG 5 (1 + z) := bg_of (by omega) (by omega)
  exact q _ H4 (((e1.mul e2).mul e3).mono (by decide)) b4 (tr (tr (tr t1 t2) t3) t4)
 refine ⟨_, rfl, rfl, _, rfl, ?_⟩
 refine ite2 (fun _ => ?_) (fun _ => ?_)
 ·have e20 : BG 70 ((10 : Int) ^ (20 : Int).toNat) := ⟨by decide, by decide⟩
  exact ⟨_, rfl, _, _, rfl, rfl, ⟨by decide, by decide, by decide⟩, b, _, rfl, by decide, e20.mono (by decide), b1, fun r H2 r0 r1 b2 t2 => q r H2 ((e20.le r0 (Int.le_of_lt r1)).mono (by decide)) b2 (tr t1 t2)⟩
 refine ⟨_, rfl, b, 40, rfl, by decide, small (by decide) (by decide), b1, fun m H2 m0 m1 b2 t2 => ⟨_, _, rfl, rfl, _, rfl, by omega, by omega, ?_⟩⟩
 have p40' : ∀ i : Nat, i < 41 -> ((0 : Int) <= 10 ^ i /\ (10 : Int) ^ i < 2 ^ 134) /\ 1 <= (10 : Int) ^ i := by decide +kernel
 have p40 : ∀ i : Nat, i <= 40 -> BG 134 ((10 : Int) ^ i) /\ 1 <= (10 : Int) ^ i := fun i hi => p40' i (by omega)
 refine for_range (lo := 0) (fun i σ H' => H' = H2 /\ ∃ k, σ = [some (.ref b), some (.int way), some (.int (10 ^ i)), k]) ⟨rfl, _, rfl⟩ (fun i σ H' hi hP => ?_) (fun σ H' hP => ?_)
 ·obtain ⟨rfl, k, rfl⟩ := hP
  refine ⟨_, rfl, _, _, rfl, rfl, .inr ⟨by decide, by decide⟩, rfl, some (.int (0 + (i : Int))), ?_⟩
  show [some (V.ref b), some (V.int way), some (V.int (10 ^ i * 10)), some (V.int (0 + (i : Int)))] = _
  rw [Int.pow_succ]
 ·obtain ⟨rfl, k, rfl⟩ := hP
  refine ⟨_, rfl, _, rfl, b, 2, rfl, by decide, small (by decide) (by decide), b2, fun r H3 r0 r1 b3 t3 => ⟨_, _, rfl, rfl, ?_⟩⟩
  obtain ⟨pB, p1⟩ := p40 (1 + m).toNat (by omega)
  exact q _ H3 ((pB.le (by omega) (by omega)).mono (by decide)) b3 (tr (tr t1 t2) t3)
theorem scShare : FnScope ["_law_box_here", "_law_top", "_law_bottom", "_law_by"] ["_law_box_here"] (defScope s_law_share) := ⟨rfl, rfl, rfl, by decide +kernel, rfl, by decide +kernel, by decide +kernel⟩
theorem ok_share {f a1 a2 : Addr} {fd d1 d2 : FuncData} (F : Fun K "_law_share" "_law_share" s_law_share f fd) (D1 : Def P w K mg base 2 "_law_part" ["_law_box_here"] spPart a1 d1) (D2 : Def P w K mg base 1 "_law_common" ["_law_one", "_law_other"] spCommon a2 d2) : FnOk P w K mg base CX0 3 f fd ["_law_box_here"] spShare := by
 refine F.ok scShare (fun vs H Q E h => ?_) (fun cdv A outer s H vs Q E hr h => ?_)
 ·obtain ⟨b, rfl, _⟩ := h
  rfl
 obtain ⟨b, rfl, hb, q⟩ := h
 have hr1 : Room 1 _ := hr.mono (by decide)
 refine ⟨_, pss_cons (ps_set (i := 1) scShare.nd rfl (Or.inl rfl) (pe_call D1.ok hr rfl D1.m D1.k D1.b .nil pass0 (pa_cons (pv 0) pa_nil)))
  (pss_cons (ps_set (i := 2) scShare.nd rfl (Or.inl rfl) (pe_op op_add pe_int (pe_call D1.ok hr rfl D1.m D1.k D1.b .nil pass0 (pa_cons (pv 0) pa_nil))))
  (pss_cons (ps_set (i := 3) scShare.nd rfl (Or.inl rfl) (pe_call D2.ok hr1 rfl D2.m D2.k D2.b .nil pass0 (pa_cons (pv 1) (pa_cons (pv 2) pa_nil))))
  (pss_one (ps_ret (pe_tup (pa_cons (pe_op op_fdivB (pv 1) (pv 3)) (pa_cons (pe_op op_fdivB (pv 2) (pv 3)) pa_nil))))))), ?_⟩
 refine ⟨_, rfl, b, rfl, hb, fun x H1 xB b1 t1 => ⟨_, rfl, b, rfl, b1, fun y H2 yB b2 t2 => ⟨_, _, rfl, rfl, ?_⟩⟩⟩
 have y1 : 1 <= 1 + y := by have := yB.1; omega
 have yB' : BG 136 (1 + y) := (bg_of (n := 135) (i := 1) (by decide) (by decide)).add yB
 have gp := gc_pos xB.1 (show 0 < 1 + y by omega)
 have gb : (gc x (1 + y)).natAbs < 2 ^ 8000 := (yB'.le (gc_nn _ _) (gc_le (by omega))).abs (by decide)
 refine ⟨_, rfl, _, rfl, x, 1 + y, rfl, xB.1, by omega, _, rfl, _, rfl, _, _, rfl, rfl, ⟨gp, gb⟩, _, rfl, _, rfl, _, _, rfl, rfl, ⟨gp, gb⟩, (by show 2 <= sizeLine; decide), fun r hr' => ?_⟩
 obtain ⟨ok1, _⟩ := low_ok xB.1 y1
 have aw : Away b H H2 := t1.away.trans t2.away
 exact q r _ _ _ (aw.free b2 hr') upd_same ok1 ((xB.div (gc_nn _ _)).mono (by decide)) ((yB'.div (gc_nn _ _)).mono (by decide)) (b2.same (same_new hr' _)) (aw.trans (away_of (same_new hr' _)))
end
end S
set_option Elab.async false
set_option linter.all false
set_option maxRecDepth 100000
namespace L2
open PySem PySem.Spec PyProof.Rows
section
variable {X : Cx}
theorem op_isnotB : OpR X (compareOp .IsNot) (fun x y H Q => ∃ a b, x = .bl a /\ y = .bl b /\ Q (.bl (a != b)) H) := by
 intro pins s σ H x y v u Q I rx ry h
 obtain ⟨a, b, rfl, rfl, q⟩ := h
 cases rx
 cases ry
 exact isnot_bool (fin_bl I q rfl)
theorem peK_errF {K : PySem.W.Frag} {fld : Str} {pos : Pos} {e : Expr} {ta : TE} (hK : X.K = K) (he : PE X e ta) (hb : attributeBase e fld X.env (eval e X.env) = eval e X.env) : PE X (.Attribute e fld pos) (tErrF K ta fld) := by subst hK; exact pe_errF he hb
end
end L2
namespace S
open PySem L2
theorem rNe_str {x y : Str} {H : Hp} {Q : VK} (e : x = y) (h : Q (.bl false) H) : rNe (.str x) (.str y) H Q := ⟨rfl, by rw [decide_eq_true (congrArg V.str e)]; exact h⟩
theorem rEq_str {x y : Str} {H : Hp} {Q : VK} (e : x = y) (h : Q (.bl true) H) : rEq (.str x) (.str y) H Q := ⟨rfl, by rw [decide_eq_true (congrArg V.str e)]; exact h⟩
def spIs : Sp := fun vs H Q _ => ∃ t n d x y, vs = [.ref t, .int n, .int d] /\ H t = some (.tup [.int x, .int y]) /\ isSh x y /\ BG 8000 x /\ BG 8000 y /\ BG 8000 n /\ BG 8000 d /\ x * d = n * y /\ Q (.bl true) H
def spLessTold : Sp := fun vs H Q _ => ∃ s t n m a b c d, vs = [.ref s, .ref t] /\ Two H s t n m a b c d /\ n + m + 1 <= 8000 /\
 (c * b <= a * d -> ∀ r u H1 H', Told H H1 u (n + m + 1) (a * d - c * b) (b * d) -> Same H1 H' -> H' r = some (.tup [.str "told", .ref u]) -> Q (.ref r) H') /\
 (a * d < c * b -> ∀ r p H', Same H H' -> H' r = some (.tup [.str "none", .ref p]) -> H' p = some (.tup [.ref s, .ref t]) -> Q (.ref r) H')
section
variable {P : Program} {w : World} {K : PySem.W.Frag} {mg : Str -> Option Value} {base : Heap}
theorem scIs : FnScope ["_law_told", "_law_top", "_law_bottom", "_law_number"] ["_law_told", "_law_top", "_law_bottom"] (defScope s_law_is) := ⟨rfl, rfl, rfl, by decide +kernel, rfl, by decide +kernel, by decide +kernel⟩
theorem ok_lis {f a1 a2 : Addr} {fd d1 d2 : FuncData} (F : Fun K "_law_is" "_law_is" s_law_is f fd) (mi : mg "isinstance" = none) (mt : mg "tuple" = none) (ml : mg "len" = none) (mn : mg "int" = none) (mb : mg "bool" = none) (kb : PySem.W.kitOne K (.type "int") (.type "bool") = some false)
  (D1 : Def P w K mg base 3 "is_share" ["thing"] spIsShare a1 d1) (D2 : Def P w K mg base 1 "_law_common" ["_law_one", "_law_other"] spCommon a2 d2) : FnOk P w K mg base CX0 4 f fd ["_law_told", "_law_top", "_law_bottom"] spIs := by
 refine F.ok scIs (fun vs H Q E h => ?_) (fun cdv A outer s H vs Q E hr h => ?_)
 ·obtain ⟨t, n, d, x, y, rfl, _⟩ := h
  rfl
 obtain ⟨t, n, d, x, y, rfl, ht, sh, xB, yB, nB, dB, eq, q⟩ := h
 have hr1 : Room 1 _ := hr.mono (by decide)
 refine ⟨_, pss_cons (ps_if (PW.pt (pw_or (pt_not (pt_val (pe_callB call_inst rfl mi PyProof.Rows.boot_isinstance (pa_cons (pv 0) (pa_cons (pe_bltn (v := .ty "tuple") rfl mt PyProof.Rows.boot_tuple rfl) pa_nil)))))
   (pw_or (pt_cmpR op_ne (pe_callB call_len_seq rfl ml PySem.boot_len (pa_cons (pv 0) pa_nil)) pe_int (nomark _)) (pw_or1 (pt_cmpR op_isnotB (pe_call D1.ok hr rfl D1.m D1.k D1.b .nil pass0 (pa_cons (pv 0) pa_nil)) pe_bl (nomark _)))))) (pss_one (ps_ret pe_bl)) pss_nil)
  (pss_cons (ps_for PassesOwn.never rfl (pi_seq (pv 0)) (pg_name (i := 3) scIs.nd rfl (Or.inl rfl)) (pss_one (ps_if (PW.pt (pw_or (pt_not (pt_val (pe_callB call_inst rfl mi PyProof.Rows.boot_isinstance (pa_cons (pv 3) (pa_cons (pe_bltn (v := .ty "int") rfl mn PyProof.Rows.boot_int rfl) pa_nil)))))
   (pw_or1 (pt_val (pe_callB call_inst rfl mi PyProof.Rows.boot_isinstance (pa_cons (pv 3) (pa_cons (pe_bltn (v := .ty "bool") rfl mb PyProof.Rows.boot_bool rfl) pa_nil))))))) (pss_one (ps_ret pe_bl)) pss_nil)))
  (pss_cons (ps_if (PW.pt (pw_or (pt_cmpR op_lt (pe_ix ix_tup (pv 0) pe_int (fun _ _ => rfl)) pe_int (nomark _)) (pw_or (pt_cmpR op_lt (pe_ix ix_tup (pv 0) pe_int (fun _ _ => rfl)) pe_int (nomark _)) (pw_or1 (pt_cmpR op_ne (pe_call D2.ok hr1 rfl D2.m D2.k D2.b .nil pass0 (pa_cons (pe_ix ix_tup (pv 0) pe_int (fun _ _ => rfl)) (pa_cons (pe_ix ix_tup (pv 0) pe_int (fun _ _ => rfl)) pa_nil))) pe_int (nomark _)))))) (pss_one (ps_ret pe_bl)) pss_nil)
  (pss_one (ps_ret (pe_cmpR op_eq (pe_op op_mulB (pe_ix ix_tup (pv 0) pe_int (fun _ _ => rfl)) (pv 2)) (pe_op op_mulB (pv 1) (pe_ix ix_tup (pv 0) pe_int (fun _ _ => rfl))) (nomark _)))))), ?_⟩
 obtain ⟨x0, y1, hg⟩ := id sh
 refine ⟨_, rfl, .ref t, .type "tuple", "tuple", true, rfl, .tup ht, rfl, _, rfl, iteF ⟨_, rfl, t, _, rfl, .inr (SqT.of ht), rfl, _, rfl, iteF ⟨_, rfl, t, x, y, rfl, ht, sh, _, _, rfl, rfl, _, rfl, iteF ?_⟩⟩⟩
 refine ⟨_, rfl, t, rfl, ?_⟩
 refine seq_for (K := K) (ys := [.int x, .int y]) (.inr (SqT.of ht)) (fun j σ H' => ∃ v, σ = [some (.ref t), some (.int n), some (.int d), v] /\ H' = H) ⟨_, rfl, rfl⟩ (fun j σ H' hP o ho => by obtain ⟨v, _, rfl⟩ := hP; exact ho) (fun j σ H' v hj hx hP => ?_) (fun σ H' hP => ?_)
 ·obtain ⟨v', rfl, rfl⟩ := hP
  obtain ⟨i, rfl⟩ : ∃ i, v = V.int i := by
   match j, hx with
   | 0, hx => cases hx; exact ⟨_, rfl⟩
   | 1, hx => cases hx; exact ⟨_, rfl⟩
  exact ⟨_, rfl, .int i, .type "int", "int", true, rfl, .int i, rfl, _, rfl, iteF ⟨_, rfl, .int i, .type "int", "bool", false, rfl, .int i, kb, _, rfl, iteF ⟨_, rfl, rfl⟩⟩⟩
 ·obtain ⟨v', rfl, rfl⟩ := hP
  have c1 : decide (x < 0) = false := decide_eq_false (by omega)
  have c2 : decide (y < 1) = false := decide_eq_false (by omega)
  refine ⟨_, rfl, t, _, _, _, rfl, rfl, SqT.of ht, rfl, _, _, rfl, rfl, _, rfl, ?_⟩
  rw [c1]
  refine iteF ⟨_, rfl, t, _, _, _, rfl, rfl, SqT.of ht, rfl, _, _, rfl, rfl, _, rfl, ?_⟩
  rw [c2]
  refine iteF ⟨_, rfl, t, _, _, _, rfl, rfl, SqT.of ht, rfl, _, rfl, t, _, _, _, rfl, rfl, SqT.of ht, rfl, x, y, rfl, x0, by omega, rfl, _, rfl, ?_⟩
  rw [hg, decide_eq_true rfl]
  refine iteF ⟨_, rfl, t, _, _, _, rfl, rfl, SqT.of ht, rfl, _, rfl, _, _, rfl, rfl, ⟨xB.abs (Nat.le_refl _), dB.abs (Nat.le_refl _)⟩, _, rfl, _, rfl, t, _, _, _, rfl, rfl, SqT.of ht, rfl, _, _, rfl, rfl, ⟨nB.abs (Nat.le_refl _), yB.abs (Nat.le_refl _)⟩, rfl, ?_⟩
  rw [decide_eq_true (congrArg V.int eq)]
  exact q
theorem scLessTold : FnScope ["_law_one", "_law_other", "e"] ["_law_one", "_law_other"] (defScope s_law_less_told) := ⟨rfl, rfl, rfl, by decide +kernel, rfl, by decide +kernel, by decide +kernel⟩
theorem ok_lessTold {f a1 C fI : Addr} {bm : List Value} {fd d1 : FuncData} (F : Fun K "_law_less_told" "_law_less_told" s_law_less_told f fd) (D1 : DefE P w K mg base 5 "minus_share" ["one", "other"] (spMinus C) a1 d1) (ec : ErrC K C fI bm) (nf : PySem.W.findIn K (.ref C) "found" = some none) (mC : mg "NoShare" = some (.ref C)) (ex : PySem.W.exmOne K (.ref C) (.ref C) = some true) :
  FnOk P w K mg base CX0 6 f fd ["_law_one", "_law_other"] spLessTold := by
 refine F.ok scLessTold (fun vs H Q E h => ?_) (fun cdv A outer s H vs Q E hr h => ?_)
 ·obtain ⟨s, t, n, m, a, b, c, d, rfl, _⟩ := h
  rfl
 obtain ⟨s', t, n, m, a, b, c, d, rfl, tw, hnm, q1, q2⟩ := h
 refine ⟨_, pss_one (ps_try rfl rfl (fun pn E => pss_one (ps_ret (pe_tup (pa_cons pe_str (pa_cons (pe_call D1.ok hr rfl D1.m D1.k D1.b .nil passT (pa_cons (pv 0) (pa_cons (pv 1) pa_nil))) pa_nil)))))
  (ph_as (i := 2) scLessTold.nd rfl rfl rfl mC (fun e => pss_one (ps_ret (pe_tup (pa_cons pe_str (pa_cons (peK_errF (K := K) rfl (pv 2) rfl) pa_nil))))) ph_nil)), ?_⟩
 refine ⟨fun cls od H' => ∃ dx p, cls = .ref C /\ od = some dx /\ Same H H' /\ H' dx = some (.xd [("found", .ref p)]) /\ H' p = some (.tup [.ref s', .ref t]) /\ a * d < c * b, ?_, fun C' dx σ' H' hE hl => ?_⟩
 ·refine ⟨_, rfl, _, rfl, s', t, n, m, a, b, c, d, rfl, tw, hnm, fun hle r H' T => ⟨(by show 2 <= sizeLine; decide), fun r' hr' => ?_⟩, fun hlt dx p H' g _ h1 h2 => ⟨dx, p, rfl, rfl, g, h1, h2, hlt⟩⟩
  exact q1 hle r' r H' _ T (same_new hr' _) upd_same
 ·obtain ⟨dx', p, e1, e2, g, h1, h2, hlt⟩ := hE
  cases e1
  cases e2
  refine ⟨true, ex, ?_⟩
  rw [if_pos rfl]
  intro e he
  have hl3 : σ'.length = 3 := hl
  have g2 := same_new he (errH e C dx)
  match σ', hl3 with
  | [x, y, z], _ =>
   refine ⟨_, rfl, e, C, dx, fI, bm, _, _, rfl, upd_same, ec, nf, g2 _ _ h1, rfl, (by show 2 <= sizeLine; decide), fun r hr' => ?_⟩
   have g3 := same_new hr' (.tup [.str "none", .ref p])
   exact q2 hlt r p _ ((g.trans g2).trans g3) upd_same (g3 _ _ (g2 _ _ h2))
end
end S
set_option Elab.async false
set_option linter.all false
set_option maxRecDepth 100000
namespace S
open PySem L2
theorem log_lt {i : Int} (h : BG 1400 i) : i.natAbs.log2 < 1920 := by
 obtain ⟨a, rfl⟩ := Int.eq_ofNat_of_zero_le h.1
 have h1 : a < 2 ^ 1400 := by have := h.2; exact_mod_cast this
 show a.log2 < 1920
 by_cases z : a = 0
 ·subst z; decide
 ·have := (Nat.log2_lt z).mpr h1
  omega
theorem shown_int {i : Int} (h : BG 1400 i) : (PyData.shown (.int i)).length <= 500 := by
 obtain ⟨a, rfl⟩ := Int.eq_ofNat_of_zero_le h.1
 have h1 : a < 2 ^ 1400 := by have := h.2; exact_mod_cast this
 have h2 : a < 10 ^ 450 := Nat.lt_trans h1 (by decide +kernel)
 have h3 := PySem.toDigits_len_pow (b := 10) (k := 450) (by decide) (by decide) h2
 show (Str.ofString (toString (Int.ofNat a))).length <= 500
 rw [PyProof.Rows.ofString_len]
 have e : toString (Int.ofNat a) = String.ofList (Nat.toDigits 10 a) := rfl
 rw [e, String.length_ofList]
 omega
abbrev twoD (a b c d : Int) : PyData := .tuple [.tuple [.int a, .int b], .tuple [.int c, .int d]]
abbrev noneD (a b c d : Int) : PyData := .tuple [.str "none", twoD a b c d]
theorem noneD_ok {a b c d : Int} (ha : BG 1400 a) (hb : BG 1400 b) (hc : BG 1400 c) (hd : BG 1400 d) : (noneD a b c d).showable = true /\ (noneD a b c d).hasDict = false /\ (noneD a b c d).depth <= 100 /\ (noneD a b c d).shown.length <= sizeLine := by
 refine ⟨?_, rfl, by simp [PyData.depth, PyData.depthAll], ?_⟩
 ·simp only [PyData.showable, PyData.showableAll, decide_eq_true (log_lt ha), decide_eq_true (log_lt hb), decide_eq_true (log_lt hc), decide_eq_true (log_lt hd)]
  rfl
 ·have l : (noneD a b c d).leavesShort 500 = true := by
   have n0 : ((("none" : Str).cps.toList.all fun c => decide (c < 16 ^ 8))) = true := by decide +kernel
   simp only [PyData.leavesShort, PyData.leavesShortAll, decide_eq_true (shown_int ha), decide_eq_true (shown_int hb), decide_eq_true (shown_int hc), decide_eq_true (shown_int hd), n0]
   rfl
  have h := PyData.shown_le_bulk 500 (by decide) _ l
  have e : (noneD a b c d).bulk = 12 := by
   simp only [PyData.bulk, PyData.bulkAll]
   decide +kernel
  rw [e] at h
  have : 10000 <= sizeLine := by decide
  omega
theorem bool_ok (c : Bool) : (PyData.bool c).showable = true /\ (PyData.bool c).hasDict = false /\ (PyData.bool c).depth <= 100 /\ (PyData.bool c).shown.length <= sizeLine := by cases c <;> exact ⟨rfl, rfl, by simp [PyData.depth], by decide⟩
def spTwo : Sp := fun vs H Q _ => ∃ s t a b c d, vs = [.ref s, .ref t] /\ Two H s t 1400 1400 a b c d /\ ∀ H', Same H H' -> Q (.bl true) H'
section
variable {P : Program} {w : World} {K : PySem.W.Frag} {mg : Str -> Option Value} {base : Heap}
theorem scTwo : FnScope ["_law_one", "_law_other", "_law_top", "_law_second", "_law_bottom", "_law_told"] ["_law_one", "_law_other"] (defScope s_law_two_right) := ⟨rfl, rfl, rfl, by decide +kernel, rfl, by decide +kernel, by decide +kernel⟩
set_option maxHeartbeats 1000000 in
theorem ok_two {f a1 a2 a3 a4 a5 : Addr} {fd d1 d2 d3 d4 d5 : FuncData} (F : Fun K "_law_two_right" "_law_two_right" s_law_two_right f fd) (mr : mg "repr" = none) (D1 : Def P w K mg base 4 "_law_is" ["_law_told", "_law_top", "_law_bottom"] spIs a1 d1) (D2 : Def P w K mg base 5 "plus_share" ["one", "other"] spPlus a2 d2) (D3 : Def P w K mg base 5 "times_share" ["one", "other"] spTimes a3 d3) (D4 : Def P w K mg base 5 "less_than" ["one", "other"] spLess a4 d4)
  (D5 : Def P w K mg base 6 "_law_less_told" ["_law_one", "_law_other"] spLessTold a5 d5) : FnOk P w K mg base CX0 7 f fd ["_law_one", "_law_other"] spTwo := by
 refine F.ok scTwo (fun vs H Q E h => ?_) (fun cdv A outer s H vs Q E hr h => ?_)
 ·obtain ⟨s, t, a, b, c, d, rfl, _⟩ := h
  rfl
 obtain ⟨s', t, a, b, c, d, rfl, tw, q⟩ := h
 have hr4 : Room 4 _ := hr.mono (by decide)
 have hr5 : Room 5 _ := hr.mono (by decide)
 refine ⟨_, pss_cons (ps_set (i := 2) scTwo.nd rfl (Or.inl rfl) (pe_op op_mulB (pe_ix ix_tup (pv 0) pe_int (fun _ _ => rfl)) (pe_ix ix_tup (pv 1) pe_int (fun _ _ => rfl))))
  (pss_cons (ps_set (i := 3) scTwo.nd rfl (Or.inl rfl) (pe_op op_mulB (pe_ix ix_tup (pv 1) pe_int (fun _ _ => rfl)) (pe_ix ix_tup (pv 0) pe_int (fun _ _ => rfl))))
  (pss_cons (ps_set (i := 4) scTwo.nd rfl (Or.inl rfl) (pe_op op_mulB (pe_ix ix_tup (pv 0) pe_int (fun _ _ => rfl)) (pe_ix ix_tup (pv 1) pe_int (fun _ _ => rfl))))
  (pss_cons (ps_if (pt_not (pt_val (pe_call D1.ok hr4 rfl D1.m D1.k D1.b .nil pass0 (pa_cons (pe_call D2.ok hr5 rfl D2.m D2.k D2.b .nil pass0 (pa_cons (pv 0) (pa_cons (pv 1) pa_nil))) (pa_cons (pe_op op_add (pv 2) (pv 3)) (pa_cons (pv 4) pa_nil)))))) (pss_one (ps_ret pe_bl)) pss_nil)
  (pss_cons (ps_if (pt_not (pt_val (pe_call D1.ok hr4 rfl D1.m D1.k D1.b .nil pass0 (pa_cons (pe_call D3.ok hr5 rfl D3.m D3.k D3.b .nil pass0 (pa_cons (pv 0) (pa_cons (pv 1) pa_nil))) (pa_cons (pe_op op_mulB (pe_ix ix_tup (pv 0) pe_int (fun _ _ => rfl)) (pe_ix ix_tup (pv 1) pe_int (fun _ _ => rfl))) (pa_cons (pv 4) pa_nil)))))) (pss_one (ps_ret pe_bl)) pss_nil)
  (pss_cons (ps_if (pt_cmpR op_ne (pe_callB (call_repr hr) rfl mr PyProof.Rows.boot_repr (pa_cons (pe_call D4.ok hr5 rfl D4.m D4.k D4.b .nil pass0 (pa_cons (pv 0) (pa_cons (pv 1) pa_nil))) pa_nil)) (pe_callB (call_repr hr) rfl mr PyProof.Rows.boot_repr (pa_cons (pe_cmpR op_lt (pv 2) (pv 3) (nomark _)) pa_nil)) (nomark _)) (pss_one (ps_ret pe_bl)) pss_nil)
  (pss_cons (ps_set (i := 5) scTwo.nd rfl (Or.inl rfl) (pe_call D5.ok hr rfl D5.m D5.k D5.b .nil pass0 (pa_cons (pv 0) (pa_cons (pv 1) pa_nil))))
  (pss_cons (ps_if (pt_cmpR op_lt (pv 2) (pv 3) (nomark _)) (pss_one (ps_ret (pe_cmpR op_eq (pe_callB (call_repr hr) rfl mr PyProof.Rows.boot_repr (pa_cons (pv 5) pa_nil)) (pe_callB (call_repr hr) rfl mr PyProof.Rows.boot_repr (pa_cons (pe_tup (pa_cons pe_str (pa_cons (pe_tup (pa_cons (pv 0) (pa_cons (pv 1) pa_nil))) pa_nil))) pa_nil)) (nomark _)))) pss_nil)
  (pss_one (ps_ret (pe_and (pe_cmpR op_eq (pe_ix ix_tup (pv 5) pe_int (fun _ _ => rfl)) pe_str (nomark _)) (pe_one (pe_call D1.ok hr4 rfl D1.m D1.k D1.b .nil pass0 (pa_cons (pe_ix ix_tup (pv 5) pe_int (fun _ _ => rfl)) (pa_cons (pe_op op_sub (pv 2) (pv 3)) (pa_cons (pv 4) pa_nil)))))))))))))))   , ?_⟩
 obtain ⟨hs, ht, h1, h2, ha, hb, hc, hd⟩ := id tw
 have b1 := h1.2.1
 have d1 := h2.2.1
 have A' := ha.abs (show 1400 <= 8000 by decide)
 have B' := hb.abs (show 1400 <= 8000 by decide)
 have C' := hc.abs (show 1400 <= 8000 by decide)
 have D' := hd.abs (show 1400 <= 8000 by decide)
 have adB : BG 2800 (a * d) := ha.mul hd
 have cbB : BG 2800 (c * b) := hc.mul hb
 have bdB : BG 2800 (b * d) := hb.mul hd
 have acB : BG 2800 (a * c) := ha.mul hc
 refine ⟨_, rfl, s', _, _, _, rfl, rfl, SqT.of hs, rfl, _, rfl, t, _, _, _, rfl, rfl, SqT.of ht, rfl, _, _, rfl, rfl, ⟨A', D'⟩, ?_⟩
 refine ⟨_, rfl, t, _, _, _, rfl, rfl, SqT.of ht, rfl, _, rfl, s', _, _, _, rfl, rfl, SqT.of hs, rfl, _, _, rfl, rfl, ⟨C', B'⟩, ?_⟩
 refine ⟨_, rfl, s', _, _, _, rfl, rfl, SqT.of hs, rfl, _, rfl, t, _, _, _, rfl, rfl, SqT.of ht, rfl, _, _, rfl, rfl, ⟨B', D'⟩, ?_⟩
 refine ⟨_, rfl, _, rfl, s', t, 1400, 1400, a, b, c, d, rfl, tw, by decide, fun r1 H1 T1 => ?_⟩
 obtain ⟨x, y, g1, _, c1, sh1, xB, yB, eq1⟩ := T1
 refine ⟨_, rfl, _, rfl, _, _, rfl, rfl, _, rfl, r1, a * d + c * b, b * d, x, y, rfl, c1, sh1, xB.mono (by decide), yB.mono (by decide), (adB.add cbB).mono (by decide), bdB.mono (by decide), eq1, _, rfl, iteF ?_⟩
 refine ⟨_, rfl, _, rfl, s', t, 1400, 1400, a, b, c, d, rfl, tw.same g1, by decide, fun r2 H2 T2 => ?_⟩
 obtain ⟨x2, y2, g2, _, c2, sh2, xB2, yB2, eq2⟩ := T2
 have g12 := g1.trans g2
 refine ⟨_, rfl, s', _, _, _, rfl, rfl, SqT.of (g12 _ _ hs), rfl, _, rfl, t, _, _, _, rfl, rfl, SqT.of (g12 _ _ ht), rfl, _, _, rfl, rfl, ⟨A', C'⟩, _, rfl, r2, a * c, b * d, x2, y2, rfl, c2, sh2, xB2.mono (by decide), yB2.mono (by decide), acB.mono (by decide), bdB.mono (by decide), eq2, _, rfl, iteF ?_⟩
 refine ⟨_, rfl, _, rfl, s', t, 1400, 1400, a, b, c, d, rfl, tw.same g12, by decide, fun H3 g3 => ?_⟩
 obtain ⟨w1, w2, w3, w4⟩ := bool_ok (decide (a * d < c * b))
 refine ⟨_, _, rfl, .bl _, w1, w2, w3, w4, _, rfl, _, rfl, _, _, rfl, rfl, _, _, rfl, .bl _, w1, w2, w3, w4, rNe_str rfl ⟨_, rfl, iteF ?_⟩⟩
 have g13 := g12.trans g3
 refine ⟨_, rfl, _, rfl, s', t, 1400, 1400, a, b, c, d, rfl, tw.same g13, by decide, fun hle r u H4 H5 T g5 hr5' => ?_, fun hlt r p H5 g5 hr5' hp => ?_⟩
 ·obtain ⟨x3, y3, g4, _, c3, sh3, xB3, yB3, eq3⟩ := T
  have n1 : decide (a * d < c * b) = false := decide_eq_false (by omega)
  refine ⟨_, rfl, _, rfl, _, _, rfl, rfl, _, rfl, ?_⟩
  rw [n1]
  refine iteF ⟨_, rfl, r, _, _, _, rfl, rfl, SqT.of hr5', rfl, ?_⟩
  refine ⟨rfl, ?_⟩
  rw [decide_eq_true rfl]
  refine ⟨_, rfl, iteT ?_⟩
  exact ⟨_, rfl, r, _, _, _, rfl, rfl, SqT.of hr5', rfl, _, rfl, _, rfl, _, _, rfl, rfl, _, rfl, u, a * d - c * b, b * d, x3, y3, rfl, g5 _ _ c3, sh3, xB3.mono (by decide), yB3.mono (by decide), (adB.le (by omega) (by have := cbB.1; omega)).mono (by decide), bdB.mono (by decide), eq3, q _ (g13.trans (g4.trans g5))⟩
 ·have n1 : decide (a * d < c * b) = true := decide_eq_true hlt
  refine ⟨_, rfl, _, rfl, _, _, rfl, rfl, _, rfl, ?_⟩
  rw [n1]
  have tw5 := tw.same (g13.trans g5)
  have dv : ∀ {H' : Hp} {p r : Addr}, Two H' s' t 1400 1400 a b c d -> H' p = some (.tup [.ref s', .ref t]) -> H' r = some (.tup [.str "none", .ref p]) -> DV K H' (.ref r) (noneD a b c d) := fun {H' p r} tw' h1 h2 =>
   .tup (SqT.of h2) (.cons (.str _) (.cons (.tup (SqT.of h1) (.cons (.tup (SqT.of tw'.1) (.cons (.int _) (.cons (.int _) .nil))) (.cons (.tup (SqT.of tw'.2.1) (.cons (.int _) (.cons (.int _) .nil))) .nil))) .nil))
  obtain ⟨v1, v2, v3, v4⟩ := noneD_ok ha hb hc hd
  refine iteT ⟨_, rfl, _, _, rfl, dv tw5 hp hr5', v1, v2, v3, v4, ?_⟩
  refine ⟨_, rfl, _, rfl, (by show 2 <= sizeLine; decide), fun p2 hp2 => ⟨(by show 2 <= sizeLine; decide), fun r2' hr2' => ?_⟩⟩
  have g6 := same_new hp2 (.tup [.ref s', .ref t])
  have g7 := same_new hr2' (.tup [.str "none", .ref p2])
  exact ⟨_, _, rfl, dv (tw5.same (g6.trans g7)) (g7 _ _ upd_same) upd_same, v1, v2, v3, v4, rEq_str rfl (q _ ((g13.trans g5).trans (g6.trans g7)))⟩
end
end S
set_option Elab.async false
set_option linter.all false
set_option maxRecDepth 100000
namespace S
open PySem L2
theorem rNeD_same {K : PySem.W.Frag} {x y : V} {d : PyData} {H : Hp} {Q : VK} (h1 : DV K H x d) (h2 : DV K H y d) (hl : d.canLay0 = true) (hd : d.depth <= 100) (h : Q (.bl false) H) : rEqD K true x y H Q := ⟨d, d, h1, h2, hl, hl, hd, by rw [PySem.SeqAt.eqv_refl d hl]; exact h⟩
abbrev shD (p : Int × Int) : PyData := .tuple [.int p.1, .int p.2]
theorem shD_lay : ∀ ps : List (Int × Int), PyData.canLayAll0 (ps.map shD) = true
 | [] => rfl
 | p :: r => by rw [List.map_cons, PyData.canLayAll0, shD_lay r]; rfl
theorem shD_dep : ∀ ps : List (Int × Int), PyData.depthAll (ps.map shD) <= 5
 | [] => by simp [PyData.depthAll]
 | p :: r => by
  have := shD_dep r
  simp only [List.map_cons, PyData.depthAll, PyData.depth]
  omega
theorem ShsAt.tail {H : Hp} {t : Addr} {ts : List Addr} {p : Int × Int} {ps : List (Int × Int)} (h : ShsAt H (t :: ts) (p :: ps)) : ShsAt H ts ps := ⟨by have := h.1; simpa using this, fun i t p a b => h.2 (i + 1) t p a b⟩
theorem ShsAt.dv {K : PySem.W.Frag} {H : Hp} : ∀ {ts : List Addr} {ps : List (Int × Int)}, ShsAt H ts ps -> DVs K H (ts.map V.ref) (ps.map shD)
 | [], [], _ => .nil
 | t :: ts, p :: ps, h => .cons (.tup (SqT.of (h.2 0 t p rfl rfl).1) (.cons (.int _) (.cons (.int _) .nil))) (ShsAt.dv h.tail)
 | [], _ :: _, h => by have := h.1; simp at this
 | _ :: _, [], h => by have := h.1; simp at this
theorem ShsAt.rev {H : Hp} {ts : List Addr} {ps : List (Int × Int)} (h : ShsAt H ts ps) : ShsAt H ts.reverse ps.reverse := by
 refine ⟨by rw [List.length_reverse, List.length_reverse]; exact h.1, fun i t p a b => ?_⟩
 have hi : i < ts.length := by have := (List.getElem?_eq_some_iff.mp a).1; rw [List.length_reverse] at this; exact this
 have hi' : i < ps.length := by rw [<- h.1]; exact hi
 rw [List.getElem?_reverse hi] at a
 rw [List.getElem?_reverse hi', <- h.1] at b
 exact h.2 _ t p a b
theorem ShsAt.snoc {H : Hp} {ts : List Addr} {ps : List (Int × Int)} {t : Addr} {p : Int × Int} (h : ShsAt H ts ps) (ht : H t = some (.tup [.int p.1, .int p.2])) (hp : isSh p.1 p.2) : ShsAt H (ts ++ [t]) (ps ++ [p]) := by
 refine ⟨by simp [h.1], fun i t' p' a b => ?_⟩
 by_cases c : i < ts.length
 ·rw [List.getElem?_append_left c] at a
  rw [List.getElem?_append_left (by rw [<- h.1]; exact c)] at b
  exact h.2 i t' p' a b
 ·rw [List.getElem?_append_right (by omega)] at a
  rw [List.getElem?_append_right (by rw [<- h.1]; omega), <- h.1] at b
  match hk : i - ts.length, a, b with
  | 0, a, b => cases a; cases b; exact ⟨ht, hp⟩
theorem sum_bg {ps : List (Int × Int)} (h : ∀ p ∈ ps, BG 140 p.1 /\ BG 140 p.2 /\ 1 <= p.2) : BG (1 + 141 * ps.length) (sumF ps).1 /\ BG (1 + 141 * ps.length) (sumF ps).2 /\ 1 <= (sumF ps).2 := by
 suffices H : ∀ (qs : List (Int × Int)) (n : Nat) (s : Int × Int), (∀ p ∈ qs, BG 140 p.1 /\ BG 140 p.2 /\ 1 <= p.2) -> BG n s.1 /\ BG n s.2 /\ 1 <= s.2 -> BG (n + 141 * qs.length) (qs.foldl stepF s).1 /\ BG (n + 141 * qs.length) (qs.foldl stepF s).2 /\ 1 <= (qs.foldl stepF s).2 from H ps 1 (0, 1) h ⟨⟨by decide, by decide⟩, ⟨by decide, by decide⟩, by decide⟩
 intro qs
 induction qs with
 | nil => intro n s _ hs; exact hs
 | cons p r ih =>
  intro n s hq ⟨s1, s2, s3⟩
  obtain ⟨p1, p2, p3⟩ := hq p (by simp)
  have z := ih (n + 141) (stepF s p) (fun q hq' => hq q (by simp [hq'])) ⟨?_, ?_, ?_⟩
  ·rw [List.foldl_cons, List.length_cons]
   rw [show n + 141 + 141 * r.length = n + 141 * (r.length + 1) by omega] at z
   exact z
  ·have e := (s1.mul p2).add (show BG (n + 140) (p.1 * s.2) by have := p1.mul s2; rw [Nat.add_comm] at this; exact this)
   exact e
  ·exact (s2.mul p2).mono (by omega)
  ·have := Int.mul_pos (show 0 < s.2 by omega) (show 0 < p.2 by omega)
   show 1 <= s.2 * p.2
   omega
theorem Shares.all {H : Hp} {l : Addr} {ts : List Addr} {ps : List (Int × Int)} (h : Shares H l ts ps) : ∀ p ∈ ps, BG 140 p.1 /\ BG 140 p.2 /\ 1 <= p.2 := fun p hp => by
 obtain ⟨i, hi⟩ := List.getElem?_of_mem hp
 have hl : i < ts.length := by rw [h.shs.1]; exact (List.getElem?_eq_some_iff.mp hi).1
 have := (h.shs.2 i _ p (List.getElem?_eq_getElem hl) hi).2.2.1
 exact ⟨(h.bg p hp).1, (h.bg p hp).2, this⟩
theorem grown_eq {x y X Y N D : Int} (hD : 1 <= D) (h : x * D = N * y) (g : X * (D * 2) = (N * 2 + 1 * D) * Y) : X * (y * 2) = (x * 2 + y) * Y := by
 refine Int.eq_of_mul_eq_mul_left (show D ≠ 0 by omega) ?_
 have e1 : D * (X * (y * 2)) = y * (X * (D * 2)) := by simp only [Int.mul_comm, Int.mul_left_comm, Int.mul_assoc]
 have e2 : y * ((N * 2 + 1 * D) * Y) = ((N * y) * 2 + D * y) * Y := by simp only [Int.add_mul, Int.mul_add, Int.mul_comm, Int.mul_left_comm, Int.mul_assoc, Int.one_mul, Int.mul_one]
 rw [e1, g, e2, <- h]
 simp only [Int.add_mul, Int.mul_add, Int.mul_comm, Int.mul_left_comm, Int.mul_assoc, Int.one_mul, Int.mul_one]
def spSumR : Sp := fun vs H Q _ => ∃ l ts ps, vs = [.ref l] /\ Shares H l ts ps /\ H l = some (.lst (ts.map V.ref)) /\ ps.length <= 6 /\ ∀ H', Same H H' -> Q (.bl true) H'
section
variable {P : Program} {w : World} {K : PySem.W.Frag} {mg : Str -> Option Value} {base : Heap}
theorem scSumR : FnScope ["_law_shares", "_law_top", "_law_bottom", "_law_share_here", "_law_handed", "_law_kept", "_law_grown", "_law_told"] ["_law_shares"] (defScope s_law_sum_right) := ⟨rfl, rfl, rfl, by decide +kernel, rfl, by decide +kernel, by decide +kernel⟩
set_option maxHeartbeats 1000000 in
theorem ok_sumR {f a1 a2 : Addr} {fd d1 d2 : FuncData} (F : Fun K "_law_sum_right" "_law_sum_right" s_law_sum_right f fd) (ml : mg "list" = none) (mt : mg "tuple" = none) (D1 : Def P w K mg base 5 "sum_shares" ["shares"] spSum a1 d1) (D2 : Def P w K mg base 4 "_law_is" ["_law_told", "_law_top", "_law_bottom"] spIs a2 d2) : FnOk P w K mg base CX0 6 f fd ["_law_shares"] spSumR := by
 refine F.ok scSumR (fun vs H Q E h => ?_) (fun cdv A outer s H vs Q E hr h => ?_)
 ·obtain ⟨l, ts, ps, rfl, _⟩ := h
  rfl
 obtain ⟨l, ts, ps, rfl, sh, hl, few, q⟩ := h
 have hr4 : Room 4 _ := hr.mono (by decide)
 have hr5 : Room 5 _ := hr.mono (by decide)
 refine ⟨_, pss_cons (ps_set (i := 1) scSumR.nd rfl (Or.inl rfl) pe_int)
  (pss_cons (ps_set (i := 2) scSumR.nd rfl (Or.inl rfl) pe_int)
  (pss_cons (ps_for PassesOwn.never rfl (pi_seq (pv 0)) (pg_name (i := 3) scSumR.nd rfl (Or.inl rfl))
   (pss_cons (ps_set (i := 1) scSumR.nd rfl (Or.inl rfl) (pe_op op_add (pe_op op_mulB (pv 1) (pe_ix ix_tup (pv 3) pe_int (fun _ _ => rfl))) (pe_op op_mulB (pe_ix ix_tup (pv 3) pe_int (fun _ _ => rfl)) (pv 2))))
   (pss_one (ps_set (i := 2) scSumR.nd rfl (Or.inl rfl) (pe_op op_mulB (pv 2) (pe_ix ix_tup (pv 3) pe_int (fun _ _ => rfl)))))))
  (pss_cons (ps_for PassesOwn.never rfl (pi_seq (pe_lst (pa_cons (pe_callTy call_list_of rfl ml PyProof.Rows.boot_list (pa_cons (pv 0) pa_nil)) (pa_cons (pe_callTy call_tuple_of rfl mt PyProof.Rows.boot_tuple (pa_cons (pv 0) pa_nil)) (pa_cons (pe_rev (p4 := ⟨0, 0, 0, 0⟩) (pv 0)) pa_nil))))) (pg_name (i := 4) scSumR.nd rfl (Or.inl rfl))
   (pss_cons (ps_set (i := 5) scSumR.nd rfl (Or.inl rfl) (pe_callTy call_list_of rfl ml PyProof.Rows.boot_list (pa_cons (pv 4) pa_nil)))
   (pss_one (ps_if (PW.pt (pw_or (pt_not (pt_val (pe_call D2.ok hr4 rfl D2.m D2.k D2.b .nil pass0 (pa_cons (pe_call D1.ok hr5 rfl D1.m D1.k D1.b .nil pass0 (pa_cons (pv 4) pa_nil)) (pa_cons (pv 1) (pa_cons (pv 2) pa_nil)))))) (pw_or1 (pt_cmpR (op_neD hr) (pe_callTy call_list_of rfl ml PyProof.Rows.boot_list (pa_cons (pv 4) pa_nil)) (pv 5) (nomark _))))) (pss_one (ps_ret pe_bl)) pss_nil))))
  (pss_cons (ps_set (i := 6) scSumR.nd rfl (Or.inl rfl) (pe_callTy call_list_of rfl ml PyProof.Rows.boot_list (pa_cons (pv 0) pa_nil)))
  (pss_cons (ps_set (i := 7) scSumR.nd rfl (Or.inl rfl) (pe_call D1.ok hr5 rfl D1.m D1.k D1.b .nil pass0 (pa_cons (pv 6) pa_nil)))
  (pss_cons (ps_expr (pe_bm PySem.F.plainAttrs_list PySem.F.slot_list_append PySem.F.type_list_append mt_append (pv 6) (pa_cons (pe_tup (pa_cons pe_int (pa_cons pe_int pa_nil))) pa_nil)))
  (pss_one (ps_ret (pe_call D2.ok hr4 rfl D2.m D2.k D2.b .nil pass0 (pa_cons (pe_call D1.ok hr5 rfl D1.m D1.k D1.b .nil pass0 (pa_cons (pv 6) pa_nil)) (pa_cons (pe_op op_add (pe_op op_mul (pe_ix ix_tup (pv 7) pe_int (fun _ _ => rfl)) pe_int) (pe_ix ix_tup (pv 7) pe_int (fun _ _ => rfl))) (pa_cons (pe_op op_mul (pe_ix ix_tup (pv 7) pe_int (fun _ _ => rfl)) pe_int) pa_nil)))))))))))) , ?_⟩
 obtain ⟨NB, DB, D1'⟩ := sum_bg sh.all
 have nB : BG 900 (sumF ps).1 := NB.mono (by omega)
 have dB : BG 900 (sumF ps).2 := DB.mono (by omega)
 have sl := sh.shs.1
 refine ⟨_, rfl, l, rfl, ?_⟩
 refine seq_for (K := K) (ys := ts.map V.ref) sh.sq (fun j σ H' => H' = H /\ ∃ sv, σ = [some (.ref l), some (.int (sumF (ps.take j)).1), some (.int (sumF (ps.take j)).2), sv, none, none, none, none]) ⟨rfl, _, rfl⟩ (fun j σ H' hP o ho => by obtain ⟨rfl, _⟩ := hP; exact ho) (fun j σ H' v hj hx hP => ?_) (fun σ H' hP => ?_)
 ·obtain ⟨rfl, sv, rfl⟩ := hP
  rw [List.length_map] at hj
  rw [List.getElem?_map, List.getElem?_eq_getElem hj] at hx
  cases hx
  have hp' : j < ps.length := by rw [<- sl]; exact hj
  obtain ⟨h1, h2⟩ := sh.shs.2 j _ _ (List.getElem?_eq_getElem hj) (List.getElem?_eq_getElem hp')
  obtain ⟨aB, bB⟩ := sh.bg _ (List.getElem_mem hp')
  obtain ⟨n', d', _⟩ := sum_bg (ps := ps.take j) (fun p hp => sh.all p (List.mem_of_mem_take hp))
  have lt : (ps.take j).length <= 6 := by rw [List.length_take]; omega
  have A := aB.abs (show 140 <= 8000 by decide)
  have B := bB.abs (show 140 <= 8000 by decide)
  have N := n'.abs (by omega)
  have D := d'.abs (by omega)
  have et : ps.take (j + 1) = ps.take j ++ [ps[j]] := by rw [List.take_succ, List.getElem?_eq_getElem hp']; rfl
  refine ⟨_, rfl, _, rfl, _, _, _, _, rfl, rfl, SqT.of h1, rfl, _, _, rfl, rfl, ⟨N, B⟩, _, rfl, _, _, _, _, rfl, rfl, SqT.of h1, rfl, _, rfl, _, _, rfl, rfl, ⟨A, D⟩, _, _, rfl, rfl, ?_⟩
  refine ⟨_, rfl, _, rfl, _, _, _, _, rfl, rfl, SqT.of h1, rfl, _, _, rfl, rfl, ⟨D, B⟩, rfl, some (.ref ts[j]), ?_⟩
  rw [et, sumF_snoc]
  rfl
 obtain ⟨rfl, sv, rfl⟩ := hP
 have e : (ts.map V.ref).length = ps.length := by rw [List.length_map]; exact sl
 rw [e, List.take_length]
 have sz : (ts.map V.ref).length <= 6 := by omega
 refine ⟨_, rfl, l, _, rfl, .inl (SqL.of hl), fun l1 h1 => ?_⟩
 have g1 := same_new h1 (.lst (ts.map V.ref))
 have c1 : (upd H' l1 (.lst (ts.map V.ref))) l1 = some (.lst (ts.map V.ref)) := upd_same
 generalize upd H' l1 (.lst (ts.map V.ref)) = H1 at g1 c1 ⊢
 refine ⟨_, rfl, l, _, rfl, .inl ⟨SqL.of (g1 _ _ hl), fun l2 h2 => ?_⟩⟩
 have g2 := same_new h2 (.tup (ts.map V.ref))
 have c2 : (upd H1 l2 (.tup (ts.map V.ref))) l2 = some (.tup (ts.map V.ref)) := upd_same
 generalize upd H1 l2 (.tup (ts.map V.ref)) = H2 at g2 c2 ⊢
 refine ⟨_, rfl, l, _, rfl, SqL.of (g2 _ _ (g1 _ _ hl)), fun l3 h3 => ?_⟩
 have g3 := same_new h3 (.lst (ts.map V.ref).reverse)
 have c3 : (upd H2 l3 (.lst (ts.map V.ref).reverse)) l3 = some (.lst (ts.reverse.map V.ref)) := by rw [upd_same, List.map_reverse]
 generalize upd H2 l3 (.lst (ts.map V.ref).reverse) = H3 at g3 c3 ⊢
 refine ⟨(by show 3 <= sizeLine; decide), fun l4 h4 => ⟨l4, rfl, ?_⟩⟩
 have g4 := same_new h4 (.lst [.ref l1, .ref l2, .ref l3])
 have c4 : (upd H3 l4 (.lst [.ref l1, .ref l2, .ref l3])) l4 = some (.lst [.ref l1, .ref l2, .ref l3]) := upd_same
 generalize upd H3 l4 (.lst [.ref l1, .ref l2, .ref l3]) = H4 at g4 c4 ⊢
 have g04 := ((g1.trans g2).trans g3).trans g4
 have sh4 := sh.same g04
 have S1 : Shares H4 l1 ts ps := ⟨.inl (((g2.trans g3).trans g4) _ _ c1), sh4.shs, sh4.few, sh4.bg⟩
 have S2 : Shares H4 l2 ts ps := ⟨.inr ((g3.trans g4) _ _ c2), sh4.shs, sh4.few, sh4.bg⟩
 have S3 : Shares H4 l3 ts.reverse ps.reverse := ⟨.inl (g4 _ _ c3), sh4.shs.rev, by rw [List.length_reverse]; exact sh4.few, fun p hp => sh4.bg p (List.mem_reverse.mp hp)⟩
 refine seq_for (K := K) (ys := [.ref l1, .ref l2, .ref l3]) (.inl (SqL.of c4)) (fun j σ H' => Same H4 H' /\ ∃ hv kv, σ = [some (.ref l), some (.int (sumF ps).1), some (.int (sumF ps).2), sv, hv, kv, none, none]) ⟨Same.refl _, _, _, rfl⟩ (fun j σ H' hP o ho => by obtain ⟨g, _⟩ := hP; exact g _ _ ho) (fun j σ H5 v hj hx hP => ?_) (fun σ H5 hP => ?_)
 ·obtain ⟨g5, hv, kv, rfl⟩ := hP
  obtain ⟨l', ts', ps', rfl, S', es, fw⟩ : ∃ l' ts' ps', v = V.ref l' /\ Shares H4 l' ts' ps' /\ sumF ps' = sumF ps /\ ps'.length <= 6 := by
   match j, hx with
   | 0, hx => cases hx; exact ⟨l1, ts, ps, rfl, S1, rfl, few⟩
   | 1, hx => cases hx; exact ⟨l2, ts, ps, rfl, S2, rfl, few⟩
   | 2, hx => cases hx; exact ⟨l3, _, _, rfl, S3, sumF_rev ps, by rw [List.length_reverse]; exact few⟩
  have S5 := S'.same g5
  refine ⟨_, rfl, l', _, rfl, S5.sq, fun k hk => ?_⟩
  have g6 := same_new hk (.lst (ts'.map V.ref))
  have c6 : (upd H5 k (.lst (ts'.map V.ref))) k = some (.lst (ts'.map V.ref)) := upd_same
  generalize upd H5 k (.lst (ts'.map V.ref)) = H6 at g6 c6 ⊢
  refine ⟨_, rfl, l', ts', ps', rfl, S5.same g6, fun r H7 T => ?_⟩
  obtain ⟨x, y, g7, _, c7, sh7, xB, yB, eq⟩ := T
  rw [es] at eq
  refine ⟨_, rfl, _, rfl, r, _, _, x, y, rfl, c7, sh7, xB.mono (by decide), yB.mono (by decide), nB.mono (by decide), dB.mono (by decide), eq, _, rfl, iteF ?_⟩
  have S7 := (S5.same g6).same g7
  refine ⟨_, rfl, l', _, rfl, S7.sq, fun k2 hk2 => ?_⟩
  have g8 := same_new hk2 (.lst (ts'.map V.ref))
  have c8 : (upd H7 k2 (.lst (ts'.map V.ref))) k2 = some (.lst (ts'.map V.ref)) := upd_same
  generalize upd H7 k2 (.lst (ts'.map V.ref)) = H8 at g8 c8 ⊢
  have dv := (S7.same g8).shs.dv (K := K)
  have dp := shD_dep ps'
  refine ⟨_, rfl, rNeD_same (d := .list (ps'.map shD)) (.lst (SqL.of c8) dv) (.lst (SqL.of ((g7.trans g8) _ _ c6)) dv) (shD_lay ps') (by simp only [PyData.depth]; omega) ⟨_, rfl, iteF ?_⟩⟩
  exact ⟨((g5.trans g6).trans g7).trans g8, _, _, rfl⟩
 ·obtain ⟨g5, hv, kv, rfl⟩ := hP
  have g05 := g04.trans g5
  have s5 := sh.same g05
  refine ⟨_, rfl, l, _, rfl, s5.sq, fun k hk => ?_⟩
  have g6 := same_new hk (.lst (ts.map V.ref))
  have c6 : (upd H5 k (.lst (ts.map V.ref))) k = some (.lst (ts.map V.ref)) := upd_same
  have fk : H' k = none := g05.free hk
  generalize upd H5 k (.lst (ts.map V.ref)) = H6 at g6 c6 ⊢
  have s6 := s5.same g6
  refine ⟨_, rfl, k, ts, ps, rfl, ⟨.inl c6, s6.shs, s6.few, s6.bg⟩, fun r H7 T => ?_⟩
  obtain ⟨x, y, g7, hr7, c7, sh7, xB, yB, eq⟩ := T
  refine ⟨_, rfl, .inl ⟨rfl, _, SqL.of (g7 _ _ c6)⟩, (by show 2 <= sizeLine; decide), fun p hp => ?_⟩
  have g8 := same_new hp (.tup [.int 1, .int 2])
  have c8 : (upd H7 p (.tup [.int 1, .int 2])) p = some (.tup [.int 1, .int 2]) := upd_same
  generalize upd H7 p (.tup [.int 1, .int 2]) = H8 at g8 c8 ⊢
  have k8 := (g7.trans g8) _ _ c6
  have far : ∀ c xs, H8 c = some (.tup xs) -> (upd H8 k (.lst (ts.map V.ref ++ [.ref p]))) c = some (.tup xs) := fun c xs hc => by
   rw [upd_ne (fun z => by subst z; rw [k8] at hc; cases hc)]; exact hc
  have gF : Same H' (upd H8 k (.lst (ts.map V.ref ++ [.ref p]))) := fun b o hb => by
   rw [upd_ne (ne_of_none hb fk)]; exact (((g05.trans g6).trans g7).trans g8) b o hb
  refine ⟨k, _, _, rfl, rfl, k8, Nat.lt_of_le_of_lt sz (by decide), ?_⟩
  have c9 : (upd H8 k (.lst (ts.map V.ref ++ [.ref p]))) k = some (.lst ((ts ++ [p]).map V.ref)) := by rw [upd_same, List.map_append]; rfl
  have s8 := (s6.same g7).same g8
  have sh9 : ShsAt (upd H8 k (.lst (ts.map V.ref ++ [.ref p]))) (ts ++ [p]) (ps ++ [(1, 2)]) := ShsAt.snoc ⟨s8.shs.1, fun i t p' a b => ⟨far _ _ (s8.shs.2 i t p' a b).1, (s8.shs.2 i t p' a b).2⟩⟩ (far _ _ c8) ⟨by decide, by decide, by decide +kernel⟩
  have c79 := far _ _ (g8 _ _ c7)
  generalize upd H8 k (.lst (ts.map V.ref ++ [.ref p])) = H9 at c9 sh9 gF c79 ⊢
  refine ⟨_, rfl, k, ts ++ [p], ps ++ [(1, 2)], rfl, ⟨.inl c9, sh9, by rw [List.length_append]; show ps.length + 1 <= 8; omega, fun p' hp' => ?_⟩, fun r2 H10 T2 => ?_⟩
  ·rcases List.mem_append.mp hp' with z | z
   ·exact sh.bg p' z
   ·rw [List.mem_singleton] at z
    subst z
    exact ⟨⟨by decide, by decide⟩, ⟨by decide, by decide⟩⟩
  obtain ⟨X, Y, g10, _, c10, sh10, XB, YB, eq2⟩ := T2
  rw [sumF_snoc] at eq2
  have two : BG 2 (2 : Int) := ⟨by decide, by decide⟩
  have c7' := g10 _ _ c79
  refine ⟨_, rfl, r, _, _, _, rfl, rfl, SqT.of c7', rfl, _, _, rfl, rfl, .inr ⟨by decide, by decide⟩, _, rfl, r, _, _, _, rfl, rfl, SqT.of c7', rfl, _, _, rfl, rfl, _, rfl, r, _, _, _, rfl, rfl, SqT.of c7', rfl, _, _, rfl, rfl, .inr ⟨by decide, by decide⟩, ?_⟩
  exact ⟨r2, _, _, X, Y, rfl, c10, sh10, XB.mono (by decide), YB.mono (by decide), ((xB.mul two).add (yB.mono (by decide))).mono (by decide), (yB.mul two).mono (by decide), grown_eq D1' eq eq2, q _ (gF.trans g10)⟩
end
end S
set_option Elab.async false
set_option linter.all false
set_option maxRecDepth 100000
namespace S
open PySem L2
theorem gc_add {x y : Int} (hx : 0 <= x) (hy : 0 <= y) : gc (x + y) y = gc x y := by
 obtain ⟨a, rfl⟩ := Int.eq_ofNat_of_zero_le hx
 obtain ⟨b, rfl⟩ := Int.eq_ofNat_of_zero_le hy
 unfold gc
 have e : ((a : Int) + (b : Int)).toNat = a + b := by omega
 simp only [Int.ofNat_eq_natCast, Int.toNat_natCast] at e ⊢
 rw [e, Nat.gcd_add_self_left]
theorem shs_away {b : Addr} {H H' : Hp} {ts : List Addr} {ps : List (Int × Int)} (h : ShsAt H ts ps) (hb : BoxAt H b) (g : Away b H H') : ShsAt H' ts ps := by
 obtain ⟨d, s, e, _⟩ := hb
 refine ⟨h.1, fun i t p a c => ?_⟩
 obtain ⟨h1, h2⟩ := h.2 i t p a c
 exact ⟨g _ _ h1 (fun z => by subst z; rw [e] at h1; cases h1), h2⟩
theorem tup_away {b t : Addr} {xs : List V} {H H' : Hp} (h : H t = some (.tup xs)) (hb : BoxAt H b) (g : Away b H H') : H' t = some (.tup xs) := by
 obtain ⟨d, s, e, _⟩ := hb
 exact g _ _ h (fun z => by subst z; rw [e] at h; cases h)
def spCase : Sp := fun vs H Q _ => ∃ b, vs = [.ref b] /\ BoxAt H b /\ ∀ H', Away b H H' -> Q (.bl true) H'
section
variable {P : Program} {w : World} {K : PySem.W.Frag} {mg : Str -> Option Value} {base : Heap}
theorem scCase : FnScope ["_law_box_here", "_law_top", "_law_bottom", "_law_one", "_law_other", "_law_turn"] ["_law_box_here"] (defScope s_law_case) := ⟨rfl, rfl, rfl, by decide +kernel, rfl, by decide +kernel, by decide +kernel⟩
set_option maxHeartbeats 1000000 in
theorem ok_case {f a1 a2 a3 a4 a5 a6 a7 : Addr} {fd d1 d2 d3 d4 d5 d6 d7 : FuncData} (F : Fun K "_law_case" "_law_case" s_law_case f fd) (mr : mg "range" = none) (D1 : Def P w K mg base 1 "_law_take" ["_law_box_here", "_law_many"] spTake a1 d1) (D2 : Def P w K mg base 2 "_law_part" ["_law_box_here"] spPart a2 d2) (D3 : Def P w K mg base 3 "_law_share" ["_law_box_here"] spShare a3 d3)
  (D4 : Def P w K mg base 4 "_law_is" ["_law_told", "_law_top", "_law_bottom"] spIs a4 d4) (D5 : Def P w K mg base 3 "share_of" ["top", "bottom"] spLowest a5 d5) (D6 : Def P w K mg base 7 "_law_two_right" ["_law_one", "_law_other"] spTwo a6 d6) (D7 : Def P w K mg base 6 "_law_sum_right" ["_law_shares"] spSumR a7 d7) : FnOk P w K mg base CX0 8 f fd ["_law_box_here"] spCase := by
 refine F.ok scCase (fun vs H Q E h => ?_) (fun cdv A outer s H vs Q E hr h => ?_)
 ·obtain ⟨b, rfl, _⟩ := h
  rfl
 obtain ⟨b, rfl, hb, q⟩ := h
 have hr1 : Room 1 _ := hr.mono (by decide)
 have hr2 : Room 2 _ := hr.mono (by decide)
 have hr3 : Room 3 _ := hr.mono (by decide)
 have hr4 : Room 4 _ := hr.mono (by decide)
 have hr6 : Room 6 _ := hr.mono (by decide)
 refine ⟨_, pss_cons (ps_set (i := 1) scCase.nd rfl (Or.inl rfl) (pe_call D2.ok hr2 rfl D2.m D2.k D2.b .nil pass0 (pa_cons (pv 0) pa_nil)))
  (pss_cons (ps_set (i := 2) scCase.nd rfl (Or.inl rfl) (pe_op op_add pe_int (pe_call D2.ok hr2 rfl D2.m D2.k D2.b .nil pass0 (pa_cons (pv 0) pa_nil))))
  (pss_cons (ps_if (PW.pt (pw_or (pt_not (pt_val (pe_call D4.ok hr4 rfl D4.m D4.k D4.b .nil pass0 (pa_cons (pe_call D5.ok hr3 rfl D5.m D5.k D5.b .nil pass0 (pa_cons (pv 1) (pa_cons (pv 2) pa_nil))) (pa_cons (pv 1) (pa_cons (pv 2) pa_nil))))))
   (pw_or1 (pt_not (pt_val (pe_call D4.ok hr4 rfl D4.m D4.k D4.b .nil pass0 (pa_cons (pe_call D5.ok hr3 rfl D5.m D5.k D5.b .nil pass0 (pa_cons pe_int (pa_cons (pv 2) pa_nil))) (pa_cons pe_int (pa_cons pe_int pa_nil))))))))) (pss_one (ps_ret pe_bl)) pss_nil)
  (pss_cons (ps_set (i := 3) scCase.nd rfl (Or.inl rfl) (pe_call D3.ok hr3 rfl D3.m D3.k D3.b .nil pass0 (pa_cons (pv 0) pa_nil)))
  (pss_cons (ps_set (i := 4) scCase.nd rfl (Or.inl rfl) (pe_ix ix_list (pe_lst (pa_cons (pe_call D3.ok hr3 rfl D3.m D3.k D3.b .nil pass0 (pa_cons (pv 0) pa_nil)) (pa_cons (pv 3) (pa_cons (pe_tup (pa_cons pe_int (pa_cons pe_int pa_nil))) (pa_cons (pe_tup (pa_cons (pe_op op_add (pe_ix ix_tup (pv 3) pe_int (fun _ _ => rfl)) (pe_ix ix_tup (pv 3) pe_int (fun _ _ => rfl))) (pa_cons (pe_ix ix_tup (pv 3) pe_int (fun _ _ => rfl)) pa_nil))) pa_nil)))))
   (pe_call D1.ok hr1 rfl D1.m D1.k D1.b .nil pass0 (pa_cons (pv 0) (pa_cons pe_int pa_nil))) (fun _ _ => rfl)))
  (pss_cons (ps_for PassesOwn.never rfl (pi_range1 rfl mr (pa_cons pe_int pa_nil)) (pg_name (i := 5) scCase.nd rfl (Or.inl rfl)) (pss_one (ps_if (PW.pt (pw_or (pt_not (pt_val (pe_call D6.ok hr rfl D6.m D6.k D6.b .nil pass0 (pa_cons (pv 3) (pa_cons (pv 4) pa_nil))))) (pw_or (pt_not (pt_val (pe_call D6.ok hr rfl D6.m D6.k D6.b .nil pass0 (pa_cons (pv 4) (pa_cons (pv 3) pa_nil))))) (pw_or1 (pt_not (pt_val (pe_call D6.ok hr rfl D6.m D6.k D6.b .nil pass0 (pa_cons (pv 3) (pa_cons (pv 3) pa_nil))))))))) (pss_one (ps_ret pe_bl)) pss_nil)))
  (pss_one (ps_ret (pe_call D7.ok hr6 rfl D7.m D7.k D7.b .nil pass0 (pa_cons (pe_compL (xs := ["_law_k"]) (fv := [("_law_box_here", 0)]) rfl (by decide +kernel) ⟨⟨rfl, Or.inl rfl, rfl⟩, trivial⟩ (pi_range1 rfl mr (pa_cons (pe_call D1.ok hr1 rfl D1.m D1.k D1.b .nil pass0 (pa_cons (pv 0) (pa_cons pe_int pa_nil))) pa_nil)) (fun _ _ _ _ _ => pg_name (i := 0) (ndT (by decide +kernel)) rfl (Or.inl rfl)) (fun _ _ _ _ _ => ptl_nil)
   (fun _ _ _ _ _ => pe_call D3.ok hr3 rfl D3.m D3.k D3.b .nil pass0 (pa_cons (pv 1) pa_nil))) pa_nil))))))))), ?_⟩
 have small : ∀ {n : Int}, 0 < n -> n < 1000 -> BG 8000 n := fun h0 h1 => (bg_of (n := 10) (by omega) (by omega)).mono (by decide)
 refine ⟨_, rfl, b, rfl, hb, fun top H1 tB b1 w1 => ⟨_, rfl, b, rfl, b1, fun bo H2 oB b2 w2 => ⟨_, _, rfl, rfl, ?_⟩⟩⟩
 have a2 : Away b H H2 := w1.away.trans w2.away
 have mB : BG 136 (1 + bo) := (bg_of (n := 135) (i := 1) (by decide) (by decide)).add oB
 have m1 : 1 <= 1 + bo := by have := oB.1; omega
 obtain ⟨k1, e1⟩ := low_ok tB.1 m1
 obtain ⟨k2, e2⟩ := low_ok (a := 0) (b := 1 + bo) (by decide) m1
 have e0 : (0 : Int) / gc 0 (1 + bo) = 0 := Int.zero_ediv _
 refine ⟨_, rfl, _, rfl, top, (1 + bo), rfl, tB.mono (by decide), mB.mono (by decide), m1, fun t1 ht1 => ?_⟩
 have g3 := same_new ht1 (.tup [.int (top / gc top (1 + bo)), .int ((1 + bo) / gc top (1 + bo))])
 have c3 : (upd H2 t1 (.tup [.int (top / gc top (1 + bo)), .int ((1 + bo) / gc top (1 + bo))])) t1 = some (.tup [.int (top / gc top (1 + bo)), .int ((1 + bo) / gc top (1 + bo))]) := upd_same
 generalize upd H2 t1 (.tup [.int (top / gc top (1 + bo)), .int ((1 + bo) / gc top (1 + bo))]) = H3 at g3 c3 ⊢
 refine ⟨_, rfl, _, rfl, t1, top, (1 + bo), _, _, rfl, c3, k1, (tB.div (gc_nn _ _)).mono (by decide), (mB.div (gc_nn _ _)).mono (by decide), tB.mono (by decide), mB.mono (by decide), e1, _, rfl, iteF ?_⟩
 refine ⟨_, rfl, 0, (1 + bo), rfl, ⟨by decide, by decide +kernel⟩, mB.mono (by decide), m1, fun t2 ht2 => ?_⟩
 have g4 := same_new ht2 (.tup [.int (0 / gc 0 (1 + bo)), .int ((1 + bo) / gc 0 (1 + bo))])
 have c4 : (upd H3 t2 (.tup [.int (0 / gc 0 (1 + bo)), .int ((1 + bo) / gc 0 (1 + bo))])) t2 = some (.tup [.int (0 / gc 0 (1 + bo)), .int ((1 + bo) / gc 0 (1 + bo))]) := upd_same
 generalize upd H3 t2 (.tup [.int (0 / gc 0 (1 + bo)), .int ((1 + bo) / gc 0 (1 + bo))]) = H4 at g4 c4 ⊢
 refine ⟨t2, 0, 1, _, _, rfl, c4, k2, by rw [e0]; exact ⟨by decide, by decide +kernel⟩, (mB.div (gc_nn _ _)).mono (by decide), ⟨by decide, by decide +kernel⟩, small (by decide) (by decide), by rw [e0, Int.zero_mul, Int.zero_mul], _, rfl, iteF ?_⟩
 have a4 : Away b H H4 := (a2.trans (away_of g3)).trans (away_of g4)
 have b4 := (b2.same g3).same g4
 refine ⟨_, rfl, b, rfl, b4, fun r1 x y H5 fr1 c5 s5 xB yB b5 a5 => ?_⟩
 refine ⟨_, rfl, b, rfl, b5, fun r2 x2 y2 H6 fr2 c6 s6 xB2 yB2 b6 a6 => ?_⟩
 have c56 := tup_away c5 b5 a6
 refine ⟨_, rfl, (by show 2 <= sizeLine; decide), fun r3 hr3' => ?_⟩
 have g7 := same_new hr3' (.tup [.int 0, .int 1])
 have c7 : (upd H6 r3 (.tup [.int 0, .int 1])) r3 = some (.tup [.int 0, .int 1]) := upd_same
 generalize upd H6 r3 (.tup [.int 0, .int 1]) = H7 at g7 c7 ⊢
 have c57 := g7 _ _ c56
 refine ⟨_, rfl, r1, _, _, _, rfl, rfl, SqT.of c57, rfl, _, rfl, r1, _, _, _, rfl, rfl, SqT.of c57, rfl, _, _, rfl, rfl, _, rfl, r1, _, _, _, rfl, rfl, SqT.of c57, rfl, (by show 2 <= sizeLine; decide), fun r4 hr4' => ?_⟩
 have g8 := same_new hr4' (.tup [.int (x + y), .int y])
 have c8 : (upd H7 r4 (.tup [.int (x + y), .int y])) r4 = some (.tup [.int (x + y), .int y]) := upd_same
 generalize upd H7 r4 (.tup [.int (x + y), .int y]) = H8 at g8 c8 ⊢
 refine ⟨(by show 4 <= sizeLine; decide), fun l hl => ?_⟩
 have g9 := same_new hl (.lst [.ref r2, .ref r1, .ref r3, .ref r4])
 have c9 : (upd H8 l (.lst [.ref r2, .ref r1, .ref r3, .ref r4])) l = some (.lst [.ref r2, .ref r1, .ref r3, .ref r4]) := upd_same
 generalize upd H8 l (.lst [.ref r2, .ref r1, .ref r3, .ref r4]) = H9 at g9 c9 ⊢
 have g79 := (g7.trans g8).trans g9
 have b9 := b6.same g79
 have nl : b ≠ l := ((b6.same g7).same g8).ne hl
 refine ⟨_, rfl, b, 4, rfl, by decide, small (by decide) (by decide), b9, fun k HA k0 k3 bA wA => ?_⟩
 have aA : Away b H HA := (((a4.trans a5).trans a6).trans (away_of g79)).trans wA.away
 have lA : HA l = some (.lst [.ref r2, .ref r1, .ref r3, .ref r4]) := (wA l (Ne.symm nl)).trans c9
 have one : HA r1 = some (.tup [.int x, .int y]) := tup_away (g79 _ _ c56) b9 wA.away
 obtain ⟨o, u, v, hat, oth, s8, uB, vB⟩ : ∃ o u v, atI [V.ref r2, .ref r1, .ref r3, .ref r4] k = some (.ref o) /\ HA o = some (.tup [.int u, .int v]) /\ isSh u v /\ BG 140 u /\ BG 140 v := by
  have z : k = 0 \/ k = 1 \/ k = 2 \/ k = 3 := by omega
  rcases z with rfl | rfl | rfl | rfl
  ·exact ⟨r2, x2, y2, rfl, tup_away (g79 _ _ c6) b9 wA.away, s6, xB2.mono (by decide), yB2.mono (by decide)⟩
  ·exact ⟨r1, x, y, rfl, one, s5, xB.mono (by decide), yB.mono (by decide)⟩
  ·exact ⟨r3, 0, 1, rfl, tup_away ((g8.trans g9) _ _ c7) b9 wA.away, ⟨by decide, by decide, by decide +kernel⟩, ⟨by decide, by decide⟩, ⟨by decide, by decide⟩⟩
  ·exact ⟨r4, x + y, y, rfl, tup_away (g9 _ _ c8) b9 wA.away, ⟨by have := s5.1; have := s5.2.1; omega, s5.2.1, (gc_add s5.1 (by have := s5.2.1; omega)).trans s5.2.2⟩, (xB.add yB).mono (by decide), yB.mono (by decide)⟩
 refine ⟨l, _, _, _, rfl, rfl, SqL.of lA, hat, ?_⟩
 refine ⟨2, rfl, by decide, by decide, ?_⟩
 have X1 := xB.mono (show 138 <= 1400 by decide)
 have Y1 := yB.mono (show 138 <= 1400 by decide)
 have U1 := uB.mono (show 140 <= 1400 by decide)
 have V1 := vB.mono (show 140 <= 1400 by decide)
 refine for_range (lo := 0) (fun i σ H' => Same HA H' /\ ∃ tv, σ = [some (.ref b), some (.int top), some (.int (1 + bo)), some (.ref r1), some (.ref o), tv]) ⟨Same.refl _, _, rfl⟩ (fun i σ HB hi hP => ?_) (fun σ HB hP => ?_)
 ·obtain ⟨gB, tv, rfl⟩ := hP
  refine ⟨_, rfl, _, rfl, r1, o, x, y, u, v, rfl, ⟨gB _ _ one, gB _ _ oth, s5, s8, X1, Y1, U1, V1⟩, fun HC gC => ⟨_, rfl, iteF ?_⟩⟩
  have g2 := gB.trans gC
  refine ⟨_, rfl, _, rfl, o, r1, u, v, x, y, rfl, ⟨g2 _ _ oth, g2 _ _ one, s8, s5, U1, V1, X1, Y1⟩, fun HD gD => ⟨_, rfl, iteF ?_⟩⟩
  have g3 := g2.trans gD
  exact ⟨_, rfl, _, rfl, r1, r1, x, y, x, y, rfl, ⟨g3 _ _ one, g3 _ _ one, s5, s5, X1, Y1, X1, Y1⟩, fun HE gE => ⟨_, rfl, iteF ⟨g3.trans gE, _, rfl⟩⟩⟩
 ·obtain ⟨gB, tv, rfl⟩ := hP
  refine ⟨_, rfl, b, 7, rfl, by decide, small (by decide) (by decide), bA.same gB, fun n HC n0 n7 bC wC => ⟨n, rfl, by omega, by omega, ?_⟩⟩
  have aC : Away b H HC := (aA.trans (away_of gB)).trans wC.away
  refine range_comp (fun i D H' => ∃ ts ps, Away b HC H' /\ BoxAt H' b /\ H' D = some (.lst (List.map V.ref ts)) /\ ShsAt H' ts ps /\ ps.length = i /\ ∀ p ∈ ps, BG 140 p.1 /\ BG 140 p.2) (fun D hD => ⟨[], [], away_of (same_new hD _), bC.same (same_new hD _), upd_same, ⟨rfl, fun i t p e => nomatch e⟩, rfl, fun _ z => nomatch z⟩) (fun i D H' hD hi hP => ?_) (fun D H' hD hP => ?_)
  ·obtain ⟨ts, ps, aD, bD, lD, sD, pz, pB⟩ := hP
   have hi' : i < 7 := by omega
   refine ⟨rfl, ?_⟩
   unfold tYes
   dsimp only
   rw [if_pos rfl]
   have nD : D ≠ b := (bC.ne hD).symm
   refine ⟨_, rfl, b, rfl, bD, fun r p1 p2 HE fr cE sE p1B p2B bE aE => ?_⟩
   have lE : HE D = some (.lst (List.map V.ref ts)) := aE _ _ lD nD
   have far : ∀ c xs, HE c = some (.tup xs) -> (upd HE D (.lst (ts.map V.ref ++ [.ref r]))) c = some (.tup xs) := fun c xs hc => by
    rw [upd_ne (fun z => by subst z; rw [lE] at hc; cases hc)]; exact hc
   have sE' := shs_away sD bD aE
   refine ⟨_, lE, ?_, ts ++ [r], ps ++ [(p1, p2)], fun c ob hc n' => ?_, ?_, by rw [upd_same, List.map_append]; rfl, ShsAt.snoc ⟨sE'.1, fun i t p' a b => ⟨far _ _ (sE'.2 i t p' a b).1, (sE'.2 i t p' a b).2⟩⟩ (far _ _ cE) sE, by rw [List.length_append, pz]; rfl, fun p' hp' => ?_⟩
   ·rw [List.length_map, sD.1, pz]
    have : 10 <= sizeLine := by decide
    omega
   ·rw [upd_ne (ne_of_none hc hD)]; exact (aD.trans aE) c ob hc n'
   ·obtain ⟨d, s, e, z⟩ := bE
    exact ⟨d, s, by rw [upd_ne (Ne.symm nD)]; exact e, z⟩
   ·rcases List.mem_append.mp hp' with z | z
    ·exact pB p' z
    ·rw [List.mem_singleton] at z
     subst z
     exact ⟨p1B.mono (by decide), p2B.mono (by decide)⟩
  ·obtain ⟨ts, ps, aD, bD, lD, sD, pz, pB⟩ := hP
   refine ⟨D, ts, ps, rfl, ⟨.inl lD, sD, by omega, pB⟩, lD, by omega, fun HF gF => q HF ((aC.trans aD).trans (away_of gF))⟩
end
end S
set_option Elab.async false
set_option linter.all false
set_option maxRecDepth 100000
namespace L2
open PySem PySem.Spec PyProof.Rows
section
variable {X : Cx}
theorem op_mulSx : OpR X (binaryOp .Mult) (fun x y H Q => ∃ z n, x = .str z /\ y = .int n /\ 0 <= n /\ n <= 10000 /\ z.length <= 1000 /\ Q (.str (PySem.Txt.mul z n)) H) := by
 intro pins s σ H x y v u Q I rx ry h
 obtain ⟨z, n, rfl, rfl, n0, n1, hz, q⟩ := h
 obtain ⟨t, rfl⟩ := rx
 obtain ⟨t', rfl⟩ := ry
 refine SB.mul ⟨by simp; omega, fun h1 _ => ?_, fun h1 _ => fit_of ?_⟩ fun t'' k => ⟨.str _, H, I.tok _, ⟨_, rfl⟩, q⟩
 ·have : (2 ^ 63 - 1 : Int) / 10000 <= (2 ^ 63 - 1) / n := by
   apply Int.le_ediv_of_mul_le (by omega)
   have e : (2 ^ 63 - 1 : Int) / 10000 = 922337203685477 := by decide
   rw [e]
   omega
  have e : (2 ^ 63 - 1 : Int) / 10000 = 922337203685477 := by decide
  omega
 ·have : n.toNat <= 10000 := by omega
  have := Nat.mul_le_mul hz this
  omega
end
end L2
namespace S
open PySem L2
def GR : Int := 7 * ((10 ^ 400 - 1) / 9)
theorem great_text : intText? (PySem.Txt.mul "7" 400) = some GR := by decide +kernel
theorem great_len : (PySem.Txt.mul "7" 400).length <= 640 := by decide +kernel
theorem great_bg : BG 1400 GR := ⟨by decide +kernel, by decide +kernel⟩
theorem great_bg1 : BG 1400 (GR - 1) := ⟨by decide +kernel, by decide +kernel⟩
theorem sh1 : isSh 1 GR := ⟨by decide +kernel, by decide +kernel, by decide +kernel⟩
theorem sh2 : isSh 1 (GR - 1) := ⟨by decide +kernel, by decide +kernel, by decide +kernel⟩
theorem sh3 : isSh (GR - 1) GR := ⟨by decide +kernel, by decide +kernel, by decide +kernel⟩
theorem sh4 : isSh GR 3 := ⟨by decide +kernel, by decide +kernel, by decide +kernel⟩
def spLaw (K : PySem.W.Frag) : Sp := fun vs H Q _ => ∃ (a : Addr) (ns : List Int), vs = [.ref a] /\ SqL K H a (ns.map V.int) /\ ns.length <= 63 /\ ∀ H', Q (.bl true) H'
section
variable {P : Program} {w : World} {K : PySem.W.Frag} {mg : Str -> Option Value} {base : Heap}
theorem scLaw : FnScope ["_law_script", "_law_k", "_law_great"] ["_law_script"] (defScope sLaw) := ⟨rfl, rfl, rfl, by decide +kernel, rfl, by decide +kernel, by decide +kernel⟩
set_option maxHeartbeats 1000000 in
theorem ok_law {f a1 a2 a3 : Addr} {fd d1 d2 d3 : FuncData} (F : Fun K "law" "law" sLaw f fd) (mr : mg "range" = none) (mx : mg "max" = none) (mn : mg "min" = none) (ml : mg "len" = none) (mi : mg "int" = none) (D1 : Def P w K mg base 1 "_law_box" ["_law_script", "_law_k"] (spBox K) a1 d1) (D2 : Def P w K mg base 8 "_law_case" ["_law_box_here"] spCase a2 d2)
  (D3 : Def P w K mg base 7 "_law_two_right" ["_law_one", "_law_other"] spTwo a3 d3) : FnOk P w K mg base CX0 9 f fd ["_law_script"] (spLaw K) := by
 refine F.ok scLaw (fun vs H Q E h => ?_) (fun cdv A outer s H vs Q E hr h => ?_)
 ·obtain ⟨a, ns, rfl, _⟩ := h
  rfl
 obtain ⟨a, ns, rfl, hS, hl, q⟩ := h
 have hr1 : Room 1 _ := hr.mono (by decide)
 have hr7 : Room 7 _ := hr.mono (by decide)
 refine ⟨_, pss_cons (ps_for PassesOwn.never rfl (pi_range1 rfl mr (pa_cons (pe_callB (call_max2 rfl) rfl mx PyProof.Rows.boot_max (pa_cons pe_int (pa_cons (pe_callB (call_min2 rfl) rfl mn PyProof.Rows.boot_min (pa_cons (pe_callB call_len_seq rfl ml PySem.boot_len (pa_cons (pv 0) pa_nil)) (pa_cons pe_int pa_nil))) pa_nil))) pa_nil)) (pg_name (i := 1) scLaw.nd rfl (Or.inl rfl))
   (pss_one (ps_if (pt_not (pt_val (pe_call D2.ok hr rfl D2.m D2.k D2.b .nil pass0 (pa_cons (pe_call D1.ok hr1 rfl D1.m D1.k D1.b .nil pass0 (pa_cons (pv 0) (pa_cons (pv 1) pa_nil))) pa_nil)))) (pss_one (ps_ret pe_bl)) pss_nil)))
  (pss_cons (ps_set (i := 2) scLaw.nd rfl (Or.inl rfl) (pe_callTy call_intS rfl mi PyProof.Rows.boot_int (pa_cons (pe_op op_mulSx pe_str pe_int) pa_nil)))
  (pss_one (ps_ret (pe_and (pe_call D3.ok hr7 rfl D3.m D3.k D3.b .nil pass0 (pa_cons (pe_tup (pa_cons pe_int (pa_cons (pv 2) pa_nil))) (pa_cons (pe_tup (pa_cons pe_int (pa_cons (pe_op op_sub (pv 2) pe_int) pa_nil))) pa_nil)))
   (pe_one (pe_call D3.ok hr7 rfl D3.m D3.k D3.b .nil pass0 (pa_cons (pe_tup (pa_cons (pe_op op_sub (pv 2) pe_int) (pa_cons (pv 2) pa_nil))) (pa_cons (pe_tup (pa_cons (pv 2) (pa_cons pe_int pa_nil))) pa_nil)))))))), ?_⟩
 have one : BG 1400 1 := ⟨by decide, by decide +kernel⟩
 have three : BG 1400 3 := ⟨by decide, by decide +kernel⟩
 refine ⟨_, rfl, a, _, rfl, .inl hS, _, _, rfl, _, _, rfl, _, rfl, ?_, ?_, ?_⟩
 ·split <;> (try split) <;> (try simp only [List.length_map]) <;> omega
 ·split <;> (try split) <;> (try simp only [List.length_map]) <;> omega
 refine for_range (lo := 0) (fun i σ H' => ∃ k, σ = [some (.ref a), k, none] /\ Same H H') ⟨_, rfl, Same.refl H⟩ ?_ ?_
 ·rintro i σ H' hi ⟨k, rfl, g⟩
  have hi' : i < 100 := by
   refine Nat.lt_of_lt_of_le hi ?_
   split <;> (try split) <;> (try simp only [List.length_map]) <;> omega
  refine ⟨_, rfl, _, rfl, a, ns, _, rfl, g.seq hS, by omega, by omega, fun b H2 g2 hb hb2 => ?_⟩
  refine ⟨b, rfl, hb2, fun H3 a3 => ⟨_, rfl, iteF ⟨_, rfl, fun c o hc => ?_⟩⟩⟩
  have hc' := g c o hc
  exact a3 c o (g2 c o hc') (ne_of_none hc' hb)
 ·rintro σ H' ⟨k, rfl, g⟩
  refine ⟨_, _, rfl, rfl, by decide, by decide, by decide +kernel, _, GR, rfl, great_text, great_len, ?_⟩
  refine ⟨_, rfl, (by show 2 <= sizeLine; decide), fun p1 h1 => ⟨_, rfl, _, _, rfl, rfl, (by show 2 <= sizeLine; decide), fun p2 h2 => ?_⟩⟩
  have g1 := same_new h1 (.tup [.int 1, .int GR])
  have g2 := same_new h2 (.tup [.int 1, .int (GR - 1)])
  refine ⟨p1, p2, 1, GR, 1, GR - 1, rfl, ⟨g2 _ _ upd_same, upd_same, sh1, sh2, one, great_bg, one, great_bg1⟩, fun H3 g3 => ⟨_, rfl, iteT ?_⟩⟩
  refine ⟨_, rfl, _, _, rfl, rfl, _, rfl, (by show 2 <= sizeLine; decide), fun p3 h3 => ⟨_, rfl, (by show 2 <= sizeLine; decide), fun p4 h4 => ?_⟩⟩
  have g5 := same_new h4 (.tup [.int GR, .int 3])
  exact ⟨p3, p4, GR - 1, GR, GR, 3, rfl, ⟨g5 _ _ upd_same, upd_same, sh3, sh4, great_bg1, great_bg, great_bg, three⟩, fun H6 _ => q H6⟩
end
end S
set_option Elab.async false
set_option linter.all false
set_option maxRecDepth 100000
namespace HT
open PySem PySem.W PySem.Calls PyProof.Rows
def topRunT (tb : String -> Option Builtin) (p : Program) (w : World) (m : Nat) (ann : Option Value) : Nat -> SharedT -> Thread -> Option SharedT
 | 0, _, _ => none
 | n + 1, s, t => match through t with
  | true => some s
  | false => match stepOk m ann t with
   | false => none
   | true => match stepT (denote tb) p w s t with
    | some (s', t') => topRunT tb p w m ann n s' t'
    | none => none
theorem topRun_ofT {tb : String -> Option Builtin} {p : Program} {w : World} {m : Nat} {ann : Option Value} : ∀ {n : Nat} {s s' : SharedT} {t : Thread}, topRunT tb p w m ann n s t = some s' -> topRun tb p w m ann n s.abs t = some s'.abs
 | 0, _, _, _, h => by cases h
 | n + 1, s, s', t, h => by
  unfold topRunT at h
  unfold topRun
  cases he : through t with
  | true => rw [he] at h; cases h; rfl
  | false =>
   rw [he] at h
   cases hk : stepOk m ann t with
   | false => rw [hk] at h; cases h
   | true =>
    rw [hk] at h
    cases hs : stepT (denote tb) p w s t with
    | none => rw [hs] at h; cases h
    | some r => obtain ⟨a, b⟩ := r; rw [hs] at h; rw [stepT_spec hs]; exact topRun_ofT h
def bt (l : List Obj) : Nat -> Nat -> Nat -> BT
 | 0, _, _ => .nil
 | n + 1, a, b => match l[b]? with
  | some o => .node o (bt l n (2 * a) (a + b)) (bt l n (2 * a) (2 * a + b))
  | none => .nil
noncomputable def bootT (P : Params) : BT := bt (boot_heap P).objs.toList 10 1 0
def bootN : Nat := 11
theorem boot_abs (P : Params) : absHeap (bootT P) bootN (boot_heap P).life = boot_heap P := by
 kernel_rfl
theorem boot_ann (P : Params) : (boot_heap P).nsMap mainGlobals "__annotations__" = some (Value.ref 6) := by kernel_rfl
theorem boot_ns (P : Params) : (boot_heap P).isNs mainGlobals = true := by kernel_rfl
theorem boot_size (P : Params) : (boot_heap P).objs.size = bootN := by kernel_rfl
noncomputable def start0 (P : Params) (os : OsState) : SharedT := ⟨bootT P, bootN, (boot_heap P).life, Array.mk [], boot_drawn, boot_toks, os⟩
theorem start0_abs (P : Params) (os : OsState) : (start0 P os).abs = ⟨boot_heap P, Array.mk [], boot_drawn, boot_toks, os⟩ := by
 unfold start0 SharedT.abs
 dsimp only
 rw [boot_abs]
noncomputable def ran (p q : Program) (loose : List Str) (Xt : Shared -> Bool) {α : Type} (Yf : Shared -> α) (N : Nat) (w : World) (os : OsState) :=
 (topRunT treeTable p w bootN (some (Value.ref 6)) N (start0 w.params os) (topStub p)).map fun s =>
  (staticsOk (importedModules p.main.body) (boot_heap w.params) s.abs.heap && namesBound p s.abs.heap && gensDone s.abs && laidKept (boot_heap w.params) s.abs.heap,
   openSeen q loose (importedModules p.main.body) Xt true s.abs, Yf s.abs)
theorem left_of {p q : Program} {loose : List Str} {Xt : Shared -> Bool} {α : Type} {Yf : Shared -> α} {Ya : World -> α} {N : Nat}
  (e : opening p = plainProg p.main.scope.names) (hN : Nat.ble 600 N = true) (f : ∀ s, fenceModules? p s = some s)
  (h : ∀ w os, ran p q loose Xt Yf N w os = some (true, openGood q loose, Ya w)) : LeftO p q loose Xt Yf Ya N := fun w => by
 obtain ⟨⟨hp, gs, d, k, os⟩, e1, e2⟩ := Option.map_eq_some_iff.mp (boot_open e hN f w)
 obtain ⟨rfl, rfl, rfl, rfl⟩ : hp = boot_heap w.params /\ gs = Array.mk [] /\ d = boot_drawn /\ k = boot_toks := by simpa using e2
 obtain ⟨s, r1, r2⟩ := Option.map_eq_some_iff.mp (h w os)
 have r3 := topRun_ofT r1
 rw [start0_abs] at r3
 obtain ⟨l1, l2, l3⟩ : _ /\ _ /\ _ := by simpa only [Prod.mk.injEq] using r2
 have t : topFrom treeTable p w N ⟨boot_heap w.params, Array.mk [], boot_drawn, boot_toks, os⟩ = some s.abs := by
  unfold topFrom
  dsimp only
  rw [boot_ann, boot_ns, boot_size, r3]
  show (match staticsOk (importedModules p.main.body) (boot_heap w.params) s.abs.heap && namesBound p s.abs.heap && gensDone s.abs && laidKept (boot_heap w.params) s.abs.heap with | true => _ | false => _) = _
  rw [l1]
 unfold openEnds
 rw [e1]
 show (topFrom treeTable p w N _).map _ = _
 rw [t]
 exact congrArg some (Prod.ext l2 l3)
def only (p : Program) (l : List Stmt) : Program := { p with main := { p.main with body := l } }
end HT
set_option Elab.async false
set_option linter.all false
set_option maxRecDepth 100000
namespace S
open PySem L2
theorem kit_of {K : PySem.W.Frag} {t c : String} {b : Bool} (n : ((Value.type t) == (Value.type c)) = false) (m : PySem.W.kitMeta c = true) (s : PySem.W.subIn K (.type t) (.type c) = some b) : PySem.W.kitOne K (.type t) (.type c) = some b := by
 unfold PySem.W.kitOne
 rw [if_neg (by rw [n]; simp)]
 unfold PySem.W.kitCls
 dsimp only
 rw [if_pos m]
 exact s
abbrev bmV : List Value := [.type "ValueError", .type "Exception", .type "BaseException", .type "object"]
theorem tailV : L2E.Tail bmV "ValueError" := ⟨by decide +kernel, by decide +kernel, by decide +kernel⟩
theorem tailM (C : Addr) : L2E.Tail (.ref C :: bmV) "ValueError" := ⟨by rw [List.contains_cons, tailV.base, Bool.or_true], by rw [List.contains_cons, tailV.attr]; rfl, by rw [List.contains_cons, tailV.name]; rfl⟩
set_option maxHeartbeats 0 in
theorem all_mk {l : PySem.W.OpenLaw} {w : World} {K : PySem.W.Frag} {h : Heap} {mg : Str -> Option Value} {fa CM C_n f_a f_b f_c f_d f_e f_f f_g f_h f_i f_j f_k f_l f_m f_n f_o f_p f_q f_r f_s f_t f_u f_v f_w f_x f_y f_z : Addr} (X : K.In h) (G : h.Ns mainGlobals mg) (hfa : mg "law" = some (.ref fa))
  {od_a an_a od_b an_b od_c an_c od_d an_d od_e an_e od_f an_f od_g an_g od_h an_h od_i an_i od_j an_j od_k an_k od_l an_l od_m an_m od_n an_n od_o an_o od_p an_p od_q an_q od_r an_r od_s an_s od_t an_t od_u an_u od_v an_v od_w an_w od_x an_x od_y an_y od_z an_z : Option Addr} {sl_a sl_b sl_c sl_d sl_e sl_f sl_g sl_h sl_i sl_j sl_k sl_l sl_m sl_n sl_o sl_p sl_q sl_r sl_s sl_t sl_u sl_v sl_w sl_x sl_y sl_z : Array (Option Value)} {oc_a kV_a dc_a pm_a cd_a ct_a oc_b kV_b dc_b pm_b cd_b ct_b oc_c kV_c dc_c pm_c cd_c ct_c oc_d kV_d dc_d pm_d cd_d ct_d oc_e kV_e dc_e pm_e cd_e ct_e oc_f kV_f dc_f pm_f cd_f ct_f oc_g kV_g dc_g pm_g cd_g ct_g oc_h kV_h dc_h pm_h cd_h ct_h oc_i kV_i dc_i pm_i cd_i ct_i oc_j kV_j dc_j pm_j cd_j ct_j oc_k kV_k dc_k pm_k cd_k ct_k oc_l kV_l dc_l pm_l cd_l ct_l oc_m kV_m dc_m pm_m cd_m ct_m oc_n kV_n dc_n pm_n cd_n ct_n oc_o kV_o dc_o pm_o cd_o ct_o oc_p kV_p dc_p pm_p cd_p ct_p oc_q kV_q dc_q pm_q cd_q ct_q oc_r kV_r dc_r pm_r cd_r ct_r oc_s kV_s dc_s pm_s cd_s ct_s oc_t kV_t dc_t pm_t cd_t ct_t oc_u kV_u dc_u pm_u cd_u ct_u oc_v kV_v dc_v pm_v cd_v ct_v oc_w kV_w dc_w pm_w cd_w ct_w oc_x kV_x dc_x pm_x cd_x ct_x oc_y kV_y dc_y pm_y cd_y ct_y oc_z kV_z dc_z pm_z cd_z ct_z : Value}
  {nmM qnM nmn qnn : Str} {nNM nNn : Addr} {bsM sbM bsn sbn : List Value} {snM snn : List Str} {abM abn : Bool} {coM con : Option Bool} {ddM ddn : Option Addr} {k0M k1M k2M k3M k5M k0n k1n k2n k3n k5n : Option Value}
  (gM : PySem.W.nsIn K mainGlobals "MeetError" = some (some (.ref CM)))
  (gn : PySem.W.nsIn K mainGlobals "NoShare" = some (some (.ref C_n)))
  (a_a : PySem.W.findIn K (.ref CM) "__init__" = some (some (.ref f_a))) (i_a : PySem.W.isFn K (.ref f_a) = true)
  (l_a : K.lookup f_a = some ⟨oc_a, od_a, .func (PySem.W.fnOf "__init__" "MeetError.__init__" (defArgs sMeetErrorInit) (defBody sMeetErrorInit) (defScope sMeetErrorInit) .none kV_a dc_a pm_a an_a cd_a ct_a), sl_a⟩) (c_a : PySem.W.codeIn K cd_a "MeetError.__init__" = true) (k_a : PySem.W.keepIn K (.ref f_a) = true)
  (a_b : PySem.W.findIn K (.ref C_n) "__init__" = some (some (.ref f_b))) (i_b : PySem.W.isFn K (.ref f_b) = true)
  (l_b : K.lookup f_b = some ⟨oc_b, od_b, .func (PySem.W.fnOf "__init__" "NoShare.__init__" (defArgs sNoShareInit) (defBody sNoShareInit) (defScope sNoShareInit) .none kV_b dc_b pm_b an_b cd_b ct_b), sl_b⟩) (c_b : PySem.W.codeIn K cd_b "NoShare.__init__" = true) (k_b : PySem.W.keepIn K (.ref f_b) = true)
  (a_c : PySem.W.nsIn K mainGlobals "is_whole" = some (some (.ref f_c)))
  (l_c : K.lookup f_c = some ⟨oc_c, od_c, .func (PySem.W.fnOf "is_whole" "is_whole" (defArgs sWhole) (defBody sWhole) (defScope sWhole) .none kV_c dc_c pm_c an_c cd_c ct_c), sl_c⟩) (c_c : PySem.W.codeIn K cd_c "is_whole" = true) (k_c : PySem.W.keepIn K (.ref f_c) = true)
  (a_d : PySem.W.nsIn K mainGlobals "common" = some (some (.ref f_d)))
  (l_d : K.lookup f_d = some ⟨oc_d, od_d, .func (PySem.W.fnOf "common" "common" (defArgs sCommon) (defBody sCommon) (defScope sCommon) .none kV_d dc_d pm_d an_d cd_d ct_d), sl_d⟩) (c_d : PySem.W.codeIn K cd_d "common" = true) (k_d : PySem.W.keepIn K (.ref f_d) = true)
  (a_e : PySem.W.nsIn K mainGlobals "make_a_share" = some (some (.ref f_e)))
  (l_e : K.lookup f_e = some ⟨oc_e, od_e, .func (PySem.W.fnOf "make_a_share" "make_a_share" (defArgs sMakeA) (defBody sMakeA) (defScope sMakeA) .none kV_e dc_e pm_e an_e cd_e ct_e), sl_e⟩) (c_e : PySem.W.codeIn K cd_e "make_a_share" = true) (k_e : PySem.W.keepIn K (.ref f_e) = true)
  (a_f : PySem.W.nsIn K mainGlobals "is_share" = some (some (.ref f_f)))
  (l_f : K.lookup f_f = some ⟨oc_f, od_f, .func (PySem.W.fnOf "is_share" "is_share" (defArgs sIsShare) (defBody sIsShare) (defScope sIsShare) .none kV_f dc_f pm_f an_f cd_f ct_f), sl_f⟩) (c_f : PySem.W.codeIn K cd_f "is_share" = true) (k_f : PySem.W.keepIn K (.ref f_f) = true)
  (a_g : PySem.W.nsIn K mainGlobals "lowest" = some (some (.ref f_g)))
  (l_g : K.lookup f_g = some ⟨oc_g, od_g, .func (PySem.W.fnOf "lowest" "lowest" (defArgs sLowest) (defBody sLowest) (defScope sLowest) .none kV_g dc_g pm_g an_g cd_g ct_g), sl_g⟩) (c_g : PySem.W.codeIn K cd_g "lowest" = true) (k_g : PySem.W.keepIn K (.ref f_g) = true)
  (a_h : PySem.W.nsIn K mainGlobals "share_of" = some (some (.ref f_h)))
  (l_h : K.lookup f_h = some ⟨oc_h, od_h, .func (PySem.W.fnOf "share_of" "share_of" (defArgs sShareOf) (defBody sShareOf) (defScope sShareOf) .none kV_h dc_h pm_h an_h cd_h ct_h), sl_h⟩) (c_h : PySem.W.codeIn K cd_h "share_of" = true) (k_h : PySem.W.keepIn K (.ref f_h) = true)
  (a_i : PySem.W.nsIn K mainGlobals "check_shares" = some (some (.ref f_i)))
  (l_i : K.lookup f_i = some ⟨oc_i, od_i, .func (PySem.W.fnOf "check_shares" "check_shares" (defArgs sCheckS) (defBody sCheckS) (defScope sCheckS) .none kV_i dc_i pm_i an_i cd_i ct_i), sl_i⟩) (c_i : PySem.W.codeIn K cd_i "check_shares" = true) (k_i : PySem.W.keepIn K (.ref f_i) = true)
  (a_j : PySem.W.nsIn K mainGlobals "added" = some (some (.ref f_j)))
  (l_j : K.lookup f_j = some ⟨oc_j, od_j, .func (PySem.W.fnOf "added" "added" (defArgs sAdded) (defBody sAdded) (defScope sAdded) .none kV_j dc_j pm_j an_j cd_j ct_j), sl_j⟩) (c_j : PySem.W.codeIn K cd_j "added" = true) (k_j : PySem.W.keepIn K (.ref f_j) = true)
  (a_k : PySem.W.nsIn K mainGlobals "plus_share" = some (some (.ref f_k)))
  (l_k : K.lookup f_k = some ⟨oc_k, od_k, .func (PySem.W.fnOf "plus_share" "plus_share" (defArgs sPlus) (defBody sPlus) (defScope sPlus) .none kV_k dc_k pm_k an_k cd_k ct_k), sl_k⟩) (c_k : PySem.W.codeIn K cd_k "plus_share" = true) (k_k : PySem.W.keepIn K (.ref f_k) = true)
  (a_l : PySem.W.nsIn K mainGlobals "minus_share" = some (some (.ref f_l)))
  (l_l : K.lookup f_l = some ⟨oc_l, od_l, .func (PySem.W.fnOf "minus_share" "minus_share" (defArgs sMinus) (defBody sMinus) (defScope sMinus) .none kV_l dc_l pm_l an_l cd_l ct_l), sl_l⟩) (c_l : PySem.W.codeIn K cd_l "minus_share" = true) (k_l : PySem.W.keepIn K (.ref f_l) = true)
  (a_m : PySem.W.nsIn K mainGlobals "times_share" = some (some (.ref f_m)))
  (l_m : K.lookup f_m = some ⟨oc_m, od_m, .func (PySem.W.fnOf "times_share" "times_share" (defArgs sTimes) (defBody sTimes) (defScope sTimes) .none kV_m dc_m pm_m an_m cd_m ct_m), sl_m⟩) (c_m : PySem.W.codeIn K cd_m "times_share" = true) (k_m : PySem.W.keepIn K (.ref f_m) = true)
  (a_n : PySem.W.nsIn K mainGlobals "less_than" = some (some (.ref f_n)))
  (l_n : K.lookup f_n = some ⟨oc_n, od_n, .func (PySem.W.fnOf "less_than" "less_than" (defArgs sLess) (defBody sLess) (defScope sLess) .none kV_n dc_n pm_n an_n cd_n ct_n), sl_n⟩) (c_n : PySem.W.codeIn K cd_n "less_than" = true) (k_n : PySem.W.keepIn K (.ref f_n) = true)
  (a_o : PySem.W.nsIn K mainGlobals "sum_shares" = some (some (.ref f_o)))
  (l_o : K.lookup f_o = some ⟨oc_o, od_o, .func (PySem.W.fnOf "sum_shares" "sum_shares" (defArgs sSumS) (defBody sSumS) (defScope sSumS) .none kV_o dc_o pm_o an_o cd_o ct_o), sl_o⟩) (c_o : PySem.W.codeIn K cd_o "sum_shares" = true) (k_o : PySem.W.keepIn K (.ref f_o) = true)
  (a_p : PySem.W.nsIn K mainGlobals "_law_box" = some (some (.ref f_p)))
  (l_p : K.lookup f_p = some ⟨oc_p, od_p, .func (PySem.W.fnOf "_law_box" "_law_box" (defArgs sBox) (defBody sBox) (defScope sBox) .none kV_p dc_p pm_p an_p cd_p ct_p), sl_p⟩) (c_p : PySem.W.codeIn K cd_p "_law_box" = true) (k_p : PySem.W.keepIn K (.ref f_p) = true)
  (a_q : PySem.W.nsIn K mainGlobals "_law_take" = some (some (.ref f_q)))
  (l_q : K.lookup f_q = some ⟨oc_q, od_q, .func (PySem.W.fnOf "_law_take" "_law_take" (defArgs sTake) (defBody sTake) (defScope sTake) .none kV_q dc_q pm_q an_q cd_q ct_q), sl_q⟩) (c_q : PySem.W.codeIn K cd_q "_law_take" = true) (k_q : PySem.W.keepIn K (.ref f_q) = true)
  (a_r : PySem.W.nsIn K mainGlobals "_law_common" = some (some (.ref f_r)))
  (l_r : K.lookup f_r = some ⟨oc_r, od_r, .func (PySem.W.fnOf "_law_common" "_law_common" (defArgs s_law_common) (defBody s_law_common) (defScope s_law_common) .none kV_r dc_r pm_r an_r cd_r ct_r), sl_r⟩) (c_r : PySem.W.codeIn K cd_r "_law_common" = true) (k_r : PySem.W.keepIn K (.ref f_r) = true)
  (a_s : PySem.W.nsIn K mainGlobals "_law_part" = some (some (.ref f_s)))
  (l_s : K.lookup f_s = some ⟨oc_s, od_s, .func (PySem.W.fnOf "_law_part" "_law_part" (defArgs s_law_part) (defBody s_law_part) (defScope s_law_part) .none kV_s dc_s pm_s an_s cd_s ct_s), sl_s⟩) (c_s : PySem.W.codeIn K cd_s "_law_part" = true) (k_s : PySem.W.keepIn K (.ref f_s) = true)
  (a_t : PySem.W.nsIn K mainGlobals "_law_share" = some (some (.ref f_t)))
  (l_t : K.lookup f_t = some ⟨oc_t, od_t, .func (PySem.W.fnOf "_law_share" "_law_share" (defArgs s_law_share) (defBody s_law_share) (defScope s_law_share) .none kV_t dc_t pm_t an_t cd_t ct_t), sl_t⟩) (c_t : PySem.W.codeIn K cd_t "_law_share" = true) (k_t : PySem.W.keepIn K (.ref f_t) = true)
  (a_u : PySem.W.nsIn K mainGlobals "_law_is" = some (some (.ref f_u)))
  (l_u : K.lookup f_u = some ⟨oc_u, od_u, .func (PySem.W.fnOf "_law_is" "_law_is" (defArgs s_law_is) (defBody s_law_is) (defScope s_law_is) .none kV_u dc_u pm_u an_u cd_u ct_u), sl_u⟩) (c_u : PySem.W.codeIn K cd_u "_law_is" = true) (k_u : PySem.W.keepIn K (.ref f_u) = true)
  (a_v : PySem.W.nsIn K mainGlobals "_law_less_told" = some (some (.ref f_v)))
  (l_v : K.lookup f_v = some ⟨oc_v, od_v, .func (PySem.W.fnOf "_law_less_told" "_law_less_told" (defArgs s_law_less_told) (defBody s_law_less_told) (defScope s_law_less_told) .none kV_v dc_v pm_v an_v cd_v ct_v), sl_v⟩) (c_v : PySem.W.codeIn K cd_v "_law_less_told" = true) (k_v : PySem.W.keepIn K (.ref f_v) = true)
  (a_w : PySem.W.nsIn K mainGlobals "_law_two_right" = some (some (.ref f_w)))
  (l_w : K.lookup f_w = some ⟨oc_w, od_w, .func (PySem.W.fnOf "_law_two_right" "_law_two_right" (defArgs s_law_two_right) (defBody s_law_two_right) (defScope s_law_two_right) .none kV_w dc_w pm_w an_w cd_w ct_w), sl_w⟩) (c_w : PySem.W.codeIn K cd_w "_law_two_right" = true) (k_w : PySem.W.keepIn K (.ref f_w) = true)
  (a_x : PySem.W.nsIn K mainGlobals "_law_sum_right" = some (some (.ref f_x)))
  (l_x : K.lookup f_x = some ⟨oc_x, od_x, .func (PySem.W.fnOf "_law_sum_right" "_law_sum_right" (defArgs s_law_sum_right) (defBody s_law_sum_right) (defScope s_law_sum_right) .none kV_x dc_x pm_x an_x cd_x ct_x), sl_x⟩) (c_x : PySem.W.codeIn K cd_x "_law_sum_right" = true) (k_x : PySem.W.keepIn K (.ref f_x) = true)
  (a_y : PySem.W.nsIn K mainGlobals "_law_case" = some (some (.ref f_y)))
  (l_y : K.lookup f_y = some ⟨oc_y, od_y, .func (PySem.W.fnOf "_law_case" "_law_case" (defArgs s_law_case) (defBody s_law_case) (defScope s_law_case) .none kV_y dc_y pm_y an_y cd_y ct_y), sl_y⟩) (c_y : PySem.W.codeIn K cd_y "_law_case" = true) (k_y : PySem.W.keepIn K (.ref f_y) = true)
  (a_z : PySem.W.nsIn K mainGlobals "law" = some (some (.ref f_z)))
  (l_z : K.lookup f_z = some ⟨oc_z, od_z, .func (PySem.W.fnOf "law" "law" (defArgs sLaw) (defBody sLaw) (defScope sLaw) .none kV_z dc_z pm_z an_z cd_z ct_z), sl_z⟩) (c_z : PySem.W.codeIn K cd_z "law" = true) (k_z : PySem.W.keepIn K (.ref f_z) = true)
  (oM : K.lookup CM = some (excClassObj nmM qnM CM nNM bsM bmV true snM sbM abM coM ddM k0M k1M k2M k3M k5M "ValueError.__new__")) (kcM : PySem.W.keepIn K (.ref CM) = true) (saM : PySem.W.findIn K (.ref CM) "__setattr__" = some (some (.builtin "object.__setattr__"))) (gaM : PySem.W.findIn K (.ref CM) "__getattribute__" = some (some (.builtin "BaseException.__getattribute__"))) (ghM : PySem.W.findIn K (.ref CM) "__getattr__" = some none)
  (on : K.lookup C_n = some (excClassObj nmn qnn C_n nNn bsn (.ref CM :: bmV) true snn sbn abn con ddn k0n k1n k2n k3n k5n "ValueError.__new__")) (kcn : PySem.W.keepIn K (.ref C_n) = true) (san : PySem.W.findIn K (.ref C_n) "__setattr__" = some (some (.builtin "object.__setattr__"))) (gan : PySem.W.findIn K (.ref C_n) "__getattribute__" = some (some (.builtin "BaseException.__getattribute__"))) (ghn : PySem.W.findIn K (.ref C_n) "__getattr__" = some none)
  (spM : PySem.W.specialIn K (.ref CM) "__getattribute__" = some (some (.builtin "type.__getattribute__"))) (rdM : PySem.W.readsIn K CM (.type "type") = true) (fcM : PySem.W.findCls K (.ref CM) (.type "type") "__init__" = some (.val (.ref f_a)))
  (nfn : PySem.W.findIn K (.ref C_n) "found" = some none)
  (exn : PySem.W.exmOne K (.ref C_n) (.ref C_n) = some true)
  (z_isinstance : PySem.W.nsIn K mainGlobals "isinstance" = some none) (z_int : PySem.W.nsIn K mainGlobals "int" = some none) (z_bool : PySem.W.nsIn K mainGlobals "bool" = some none) (z_len : PySem.W.nsIn K mainGlobals "len" = some none) (z_list : PySem.W.nsIn K mainGlobals "list" = some none) (z_range : PySem.W.nsIn K mainGlobals "range" = some none) (z_repr : PySem.W.nsIn K mainGlobals "repr" = some none) (z_tuple : PySem.W.nsIn K mainGlobals "tuple" = some none) (z_max : PySem.W.nsIn K mainGlobals "max" = some none) (z_min : PySem.W.nsIn K mainGlobals "min" = some none) (z_ValueError : PySem.W.nsIn K mainGlobals "ValueError" = some none)
  (s_int_bool : PySem.W.subIn K (.type "int") (.type "bool") = some false) (s_tup_int : PySem.W.subIn K (.type "tuple") (.type "int") = some false) (s_list_tup : PySem.W.subIn K (.type "list") (.type "tuple") = some false) (s_tup_list : PySem.W.subIn K (.type "tuple") (.type "list") = some false) :
  ∃ fd : FuncData, (∀ (s : Shared) (v : Value), BindsTo s fd ⟨[v], []⟩ [("_law_script", v)]) /\ ∀ base : Heap, K.In base -> base.Ns mainGlobals mg -> FnOk l.prog w K mg base CX0 9 fa fd ["_law_script"] (spLaw K) := by
 have e := hfa.symm.trans (PySem.W.mg_of X G a_z)
 cases e
 have F_a := fun_mk (st := sMeetErrorInit) l_a c_a k_a
 have F_b := fun_mk (st := sNoShareInit) l_b c_b k_b
 have F_c := fun_mk (st := sWhole) l_c c_c k_c
 have F_d := fun_mk (st := sCommon) l_d c_d k_d
 have F_e := fun_mk (st := sMakeA) l_e c_e k_e
 have F_f := fun_mk (st := sIsShare) l_f c_f k_f
 have F_g := fun_mk (st := sLowest) l_g c_g k_g
 have F_h := fun_mk (st := sShareOf) l_h c_h k_h
 have F_i := fun_mk (st := sCheckS) l_i c_i k_i
 have F_j := fun_mk (st := sAdded) l_j c_j k_j
 have F_k := fun_mk (st := sPlus) l_k c_k k_k
 have F_l := fun_mk (st := sMinus) l_l c_l k_l
 have F_m := fun_mk (st := sTimes) l_m c_m k_m
 have F_n := fun_mk (st := sLess) l_n c_n k_n
 have F_o := fun_mk (st := sSumS) l_o c_o k_o
 have F_p := fun_mk (st := sBox) l_p c_p k_p
 have F_q := fun_mk (st := sTake) l_q c_q k_q
 have F_r := fun_mk (st := s_law_common) l_r c_r k_r
 have F_s := fun_mk (st := s_law_part) l_s c_s k_s
 have F_t := fun_mk (st := s_law_share) l_t c_t k_t
 have F_u := fun_mk (st := s_law_is) l_u c_u k_u
 have F_v := fun_mk (st := s_law_less_told) l_v c_v k_v
 have F_w := fun_mk (st := s_law_two_right) l_w c_w k_w
 have F_x := fun_mk (st := s_law_sum_right) l_x c_x k_x
 have F_y := fun_mk (st := s_law_case) l_y c_y k_y
 have F_z := fun_mk (st := sLaw) l_z c_z k_z
 have b_a := F_a.binds (ps := ["self", "text"]) fun _ _ _ _ _ _ us hl => match us, hl with | [_, _], _ => rfl
 have b_b := F_b.binds (ps := ["self", "found"]) fun _ _ _ _ _ _ us hl => match us, hl with | [_, _], _ => rfl
 have b_c := F_c.binds (ps := ["thing"]) fun _ _ _ _ _ _ us hl => match us, hl with | [_], _ => rfl
 have b_d := F_d.binds (ps := ["one", "other"]) fun _ _ _ _ _ _ us hl => match us, hl with | [_, _], _ => rfl
 have b_e := F_e.binds (ps := ["top", "bottom"]) fun _ _ _ _ _ _ us hl => match us, hl with | [_, _], _ => rfl
 have b_f := F_f.binds (ps := ["thing"]) fun _ _ _ _ _ _ us hl => match us, hl with | [_], _ => rfl
 have b_g := F_g.binds (ps := ["top", "bottom"]) fun _ _ _ _ _ _ us hl => match us, hl with | [_, _], _ => rfl
 have b_h := F_h.binds (ps := ["top", "bottom"]) fun _ _ _ _ _ _ us hl => match us, hl with | [_, _], _ => rfl
 have b_i := F_i.binds (ps := ["shares"]) fun _ _ _ _ _ _ us hl => match us, hl with | [_], _ => rfl
 have b_j := F_j.binds (ps := ["one", "other"]) fun _ _ _ _ _ _ us hl => match us, hl with | [_, _], _ => rfl
 have b_k := F_k.binds (ps := ["one", "other"]) fun _ _ _ _ _ _ us hl => match us, hl with | [_, _], _ => rfl
 have b_l := F_l.binds (ps := ["one", "other"]) fun _ _ _ _ _ _ us hl => match us, hl with | [_, _], _ => rfl
 have b_m := F_m.binds (ps := ["one", "other"]) fun _ _ _ _ _ _ us hl => match us, hl with | [_, _], _ => rfl
 have b_n := F_n.binds (ps := ["one", "other"]) fun _ _ _ _ _ _ us hl => match us, hl with | [_, _], _ => rfl
 have b_o := F_o.binds (ps := ["shares"]) fun _ _ _ _ _ _ us hl => match us, hl with | [_], _ => rfl
 have b_p := F_p.binds (ps := ["_law_script", "_law_k"]) fun _ _ _ _ _ _ us hl => match us, hl with | [_, _], _ => rfl
 have b_q := F_q.binds (ps := ["_law_box_here", "_law_many"]) fun _ _ _ _ _ _ us hl => match us, hl with | [_, _], _ => rfl
 have b_r := F_r.binds (ps := ["_law_one", "_law_other"]) fun _ _ _ _ _ _ us hl => match us, hl with | [_, _], _ => rfl
 have b_s := F_s.binds (ps := ["_law_box_here"]) fun _ _ _ _ _ _ us hl => match us, hl with | [_], _ => rfl
 have b_t := F_t.binds (ps := ["_law_box_here"]) fun _ _ _ _ _ _ us hl => match us, hl with | [_], _ => rfl
 have b_u := F_u.binds (ps := ["_law_told", "_law_top", "_law_bottom"]) fun _ _ _ _ _ _ us hl => match us, hl with | [_, _, _], _ => rfl
 have b_v := F_v.binds (ps := ["_law_one", "_law_other"]) fun _ _ _ _ _ _ us hl => match us, hl with | [_, _], _ => rfl
 have b_w := F_w.binds (ps := ["_law_one", "_law_other"]) fun _ _ _ _ _ _ us hl => match us, hl with | [_, _], _ => rfl
 have b_x := F_x.binds (ps := ["_law_shares"]) fun _ _ _ _ _ _ us hl => match us, hl with | [_], _ => rfl
 have b_y := F_y.binds (ps := ["_law_box_here"]) fun _ _ _ _ _ _ us hl => match us, hl with | [_], _ => rfl
 have m_isinstance := PySem.W.mg_none_of X G z_isinstance
 have m_int := PySem.W.mg_none_of X G z_int
 have m_bool := PySem.W.mg_none_of X G z_bool
 have m_len := PySem.W.mg_none_of X G z_len
 have m_list := PySem.W.mg_none_of X G z_list
 have m_range := PySem.W.mg_none_of X G z_range
 have m_repr := PySem.W.mg_none_of X G z_repr
 have m_tuple := PySem.W.mg_none_of X G z_tuple
 have m_max := PySem.W.mg_none_of X G z_max
 have m_min := PySem.W.mg_none_of X G z_min
 have m_ValueError := PySem.W.mg_none_of X G z_ValueError
 have t_int_bool := kit_of (by decide +kernel) (by decide +kernel) s_int_bool
 have t_tup_int := kit_of (by decide +kernel) (by decide +kernel) s_tup_int
 have t_list_tup := kit_of (by decide +kernel) (by decide +kernel) s_list_tup
 have t_tup_list := kit_of (by decide +kernel) (by decide +kernel) s_tup_list
 have mCM := PySem.W.mg_of X G gM
 have mCn := PySem.W.mg_of X G gn
 have ecM : ErrC K CM f_a bmV := ⟨⟨_, _, _, _, _, _, _, _, _, _, _, _, _, _, oM⟩, a_a, i_a, kcM, saM, gaM, ghM, tailV, by decide +kernel, by decide +kernel, PySem.F.store_ValueError.passes⟩
 have cfM : ClsFn K CM f_a := ⟨spM, rdM, fcM, k_a⟩
 have ecn : ErrC K C_n f_b (.ref CM :: bmV) := ⟨⟨_, _, _, _, _, _, _, _, _, _, _, _, _, _, on⟩, a_b, i_b, kcn, san, gan, ghn, tailM CM, by rw [List.contains_cons]; simp, by rw [List.contains_cons]; simp, fun x => by rw [refuseLoop_ref]; exact PySem.F.store_ValueError.passes x⟩
 have m_c := PySem.W.mg_of X G a_c
 have m_d := PySem.W.mg_of X G a_d
 have m_e := PySem.W.mg_of X G a_e
 have m_f := PySem.W.mg_of X G a_f
 have m_g := PySem.W.mg_of X G a_g
 have m_h := PySem.W.mg_of X G a_h
 have m_i := PySem.W.mg_of X G a_i
 have m_j := PySem.W.mg_of X G a_j
 have m_k := PySem.W.mg_of X G a_k
 have m_l := PySem.W.mg_of X G a_l
 have m_m := PySem.W.mg_of X G a_m
 have m_n := PySem.W.mg_of X G a_n
 have m_o := PySem.W.mg_of X G a_o
 have m_p := PySem.W.mg_of X G a_p
 have m_q := PySem.W.mg_of X G a_q
 have m_r := PySem.W.mg_of X G a_r
 have m_s := PySem.W.mg_of X G a_s
 have m_t := PySem.W.mg_of X G a_t
 have m_u := PySem.W.mg_of X G a_u
 have m_v := PySem.W.mg_of X G a_v
 have m_w := PySem.W.mg_of X G a_w
 have m_x := PySem.W.mg_of X G a_x
 have m_y := PySem.W.mg_of X G a_y
 refine ⟨PySem.W.fnOf "law" "law" (defArgs sLaw) (defBody sLaw) (defScope sLaw) .none kV_z dc_z pm_z an_z cd_z ct_z, fun s v => .of_eq rfl, fun base _ _ => ?_⟩
 have O_a := ok_mInit (P := l.prog) (w := w) (mg := mg) (base := base) F_a m_ValueError
 have O_b := ok_nInit (P := l.prog) (w := w) (mg := mg) (base := base) F_b ecn nfn cfM O_a b_a mCM
 have O_c := ok_whole (P := l.prog) (w := w) (mg := mg) (base := base) F_c m_isinstance m_int m_bool t_int_bool
 have O_d := ok_common (P := l.prog) (w := w) (mg := mg) (base := base) F_d
 have O_e := ok_makeA (P := l.prog) (w := w) (mg := mg) (base := base) F_e ⟨O_c, b_c, k_c, m_c⟩
 have O_f := ok_isShare (P := l.prog) (w := w) (mg := mg) (base := base) F_f m_isinstance m_tuple m_len ⟨O_e, b_e, k_e, m_e⟩ ⟨O_d, b_d, k_d, m_d⟩
 have O_g := ok_lowest (P := l.prog) (w := w) (mg := mg) (base := base) F_g ⟨O_d, b_d, k_d, m_d⟩
 have O_h := ok_shareOf (P := l.prog) (w := w) (mg := mg) (base := base) F_h ⟨O_e, b_e, k_e, m_e⟩ ⟨O_g, b_g, k_g, m_g⟩
 have O_i := ok_check (P := l.prog) (w := w) (mg := mg) (base := base) F_i ⟨O_f, b_f, k_f, m_f⟩
 have O_j := ok_added (P := l.prog) (w := w) (mg := mg) (base := base) F_j ⟨O_d, b_d, k_d, m_d⟩
 have O_k := ok_plus (P := l.prog) (w := w) (mg := mg) (base := base) F_k ⟨O_i, b_i, k_i, m_i⟩ ⟨O_j, b_j, k_j, m_j⟩
 have O_l := ok_minus (P := l.prog) (w := w) (mg := mg) (base := base) F_l ⟨O_i, b_i, k_i, m_i⟩ ⟨O_g, b_g, k_g, m_g⟩ ecn O_b b_b mCn
 have O_m := ok_times (P := l.prog) (w := w) (mg := mg) (base := base) F_m ⟨O_i, b_i, k_i, m_i⟩ ⟨O_g, b_g, k_g, m_g⟩
 have O_n := ok_less (P := l.prog) (w := w) (mg := mg) (base := base) F_n ⟨O_i, b_i, k_i, m_i⟩
 have O_o := ok_sumS (P := l.prog) (w := w) (mg := mg) (base := base) F_o m_isinstance m_list m_tuple t_list_tup t_tup_list ⟨O_i, b_i, k_i, m_i⟩ ⟨O_j, b_j, k_j, m_j⟩
 have O_p := ok_box (P := l.prog) (w := w) (mg := mg) (base := base) F_p m_len
 have O_q := ok_take (P := l.prog) (w := w) (mg := mg) (base := base) F_q
 have O_r := ok_lcommon (P := l.prog) (w := w) (mg := mg) (base := base) F_r
 have O_s := ok_part (P := l.prog) (w := w) (mg := mg) (base := base) F_s m_range ⟨O_q, b_q, k_q, m_q⟩
 have O_t := ok_share (P := l.prog) (w := w) (mg := mg) (base := base) F_t ⟨O_s, b_s, k_s, m_s⟩ ⟨O_r, b_r, k_r, m_r⟩
 have O_u := ok_lis (P := l.prog) (w := w) (mg := mg) (base := base) F_u m_isinstance m_tuple m_len m_int m_bool t_int_bool ⟨O_f, b_f, k_f, m_f⟩ ⟨O_r, b_r, k_r, m_r⟩
 have O_v := ok_lessTold (P := l.prog) (w := w) (mg := mg) (base := base) F_v ⟨O_l, b_l, k_l, m_l⟩ ecn nfn mCn exn
 have O_w := ok_two (P := l.prog) (w := w) (mg := mg) (base := base) F_w m_repr ⟨O_u, b_u, k_u, m_u⟩ ⟨O_k, b_k, k_k, m_k⟩ ⟨O_m, b_m, k_m, m_m⟩ ⟨O_n, b_n, k_n, m_n⟩ ⟨O_v, b_v, k_v, m_v⟩
 have O_x := ok_sumR (P := l.prog) (w := w) (mg := mg) (base := base) F_x m_list m_tuple ⟨O_o, b_o, k_o, m_o⟩ ⟨O_u, b_u, k_u, m_u⟩
 have O_y := ok_case (P := l.prog) (w := w) (mg := mg) (base := base) F_y m_range ⟨O_q, b_q, k_q, m_q⟩ ⟨O_s, b_s, k_s, m_s⟩ ⟨O_t, b_t, k_t, m_t⟩ ⟨O_u, b_u, k_u, m_u⟩ ⟨O_h, b_h, k_h, m_h⟩ ⟨O_w, b_w, k_w, m_w⟩ ⟨O_x, b_x, k_x, m_x⟩
 exact ok_law F_z m_range m_max m_min m_len m_int ⟨O_p, b_p, k_p, m_p⟩ ⟨O_y, b_y, k_y, m_y⟩ ⟨O_w, b_w, k_w, m_w⟩
theorem walk {l : PySem.W.OpenLaw} {q : Program} {loose : List Str} {XP : (Str -> Option Value) -> Heap -> Prop} {YP : World -> Heap -> Prop} {d : DefRec} {K : Params -> PySem.W.Frag} (hn : l.most = some 63) (hdf : d.params.defaults = [])
  (hY : ∀ (w : World) (h : Heap), YP w h -> (K w.params).In h)
  (F : ∀ (w : World) (mg : Str -> Option Value) (fa : Addr) (h : Heap), (K w.params).In h -> h.Ns mainGlobals mg -> mg d.name = some (.ref fa) ->
   ∃ fd : FuncData, (∀ (s : Shared) (u : Value), BindsTo s fd ⟨[u], []⟩ [("_law_script", u)]) /\ ∀ base : Heap, (K w.params).In base -> base.Ns mainGlobals mg -> FnOk l.prog w (K w.params) mg base CX0 9 fa fd ["_law_script"] (spLaw (K w.params))) :
  PySem.W.WalkO q loose XP YP l.row.toRowW d [] (fun f vs => PySem.call f vs) :=
 L2.walk_of (n := 63) (k := 9) (x := "_law_script") (CX := fun _ => CX0) (sp := fun w => spLaw (K w.params)) hn (by decide) hdf ⟨rfl, by decide, by decide, rfl⟩ hY F (fun _ _ a ns hl _ hS => ⟨a, ns, rfl, hS, hl, fun _ => rfl⟩) fun _ _ _ _ _ z => z
end S
namespace HD
open PySem PySem.W PySem.Calls PyProof.Rows
def lawSt : Stmt := (PySem.Challenge.pw_alwaysmeet_k04_shares_reckoned.main.body[29]?).getD (.Pass ⟨0, 0, 0, 0⟩)
def Q : Program := HT.only PySem.Challenge.pw_alwaysmeet_k04_shares_reckoned [lawSt]
def L : List Str := PySem.Challenge.pw_alwaysmeet_k04_shares_reckoned.boundNames.filter fun x => !(x == "law")
def Xt (s : Shared) : Bool := recOk (RowW.records (OpenRow.toRowW (OpenLaw.row PySem.Challenge.rw_alwaysmeet_k04_shares_reckoned))) s
noncomputable def F (as : List Addr) (w : World) (os : OsState) := HT.ran PySem.Challenge.pw_alwaysmeet_k04_shares_reckoned Q L Xt (fun s => as.map s.heap.get?) 8000 w os
noncomputable def G (K : Params -> Frag) (w : World) := some (true, openGood Q L, (K w.params).map fun p => some p.2)
theorem F_rfl : F = F := rfl
theorem G_rfl : G = G := rfl
end HD
name_quick hdF for HD.F by HD.F_rfl
name_quick hdG for HD.G by HD.G_rfl
open PySem PySem.W PyProof.Rows
set_option hygiene false in
local macro_rules | `(tactic| o_head ($f:term $K $as $e)) => `(tactic| (
 refine holds_open (q := HD.Q) (loose := HD.L) (Xt := HD.Xt) (XP := fun _ _ => True) (Yf := Hook.obs (kHook $K $as $e)) (Ya := Hook.val (kHook $K $as $e)) (YP := Hook.says (kHook $K $as $e)) (N := 8000) ?hl (Hook.of (kHook $K $as $e)) (Hook.keeps (kHook $K $as $e)) (fun _ _ => trivial) (fun _ _ _ _ _ => trivial) (by rfl) (by rfl) (by rfl) (fun s e => recFacts_of e) (by rfl) (by first | assumption | decide +kernel) (by decide +kernel) ⟨rfl, rfl, rfl, rfl, rfl, by decide +kernel⟩ ?hw ?hc
 (case hl => exact HT.left_of (by kernel_rfl) (by decide) (fun s => by kernel_rfl) (fun w os => (congrFun (congrFun (congrFun Fast.hdF_eq $as) w) os).trans ((show Fast.hdF $as w os = Fast.hdG $K w by kernel_rfl).trans (congrFun (congrFun Fast.hdG_eq $K) w).symm)))))
set_option maxRecDepth 100000 in
set_option maxHeartbeats 0 in
theorem PySem.Challenge.cw_alwaysmeet_k04_shares_reckoned_holds : PySem.Challenge.rw_alwaysmeet_k04_shares_reckoned.Holds := by
 w_on; o_law; k_head; (case hw => w_witness2)
 k_fill
 refine S.walk (l := PySem.Challenge.rw_alwaysmeet_k04_shares_reckoned) rfl rfl (fun w h Y => PySem.W.kIn_of Y) ?F
 case F =>
  intro w mg fa h KX G hmg
  refine' S.all_mk KX G hmg ?gM ?gn ?a_a ?i_a ?l_a ?c_a ?k_a ?a_b ?i_b ?l_b ?c_b ?k_b ?a_c ?l_c ?c_c ?k_c ?a_d ?l_d ?c_d ?k_d ?a_e ?l_e ?c_e ?k_e ?a_f ?l_f ?c_f ?k_f ?a_g ?l_g ?c_g ?k_g ?a_h ?l_h ?c_h ?k_h ?a_i ?l_i ?c_i ?k_i ?a_j ?l_j ?c_j ?k_j ?a_k ?l_k ?c_k ?k_k ?a_l ?l_l ?c_l ?k_l ?a_m ?l_m ?c_m ?k_m ?a_n ?l_n ?c_n ?k_n ?a_o ?l_o ?c_o ?k_o ?a_p ?l_p ?c_p ?k_p ?a_q ?l_q ?c_q ?k_q ?a_r ?l_r ?c_r ?k_r ?a_s ?l_s ?c_s ?k_s ?a_t ?l_t ?c_t ?k_t ?a_u ?l_u ?c_u ?k_u ?a_v ?l_v ?c_v ?k_v ?a_w ?l_w ?c_w ?k_w ?a_x ?l_x ?c_x ?k_x ?a_y ?l_y ?c_y ?k_y ?a_z ?l_z ?c_z ?k_z ?oM ?kcM ?saM ?gaM ?ghM ?on ?kcn ?san ?gan ?ghn ?spM ?rdM ?fcM ?nfn ?exn ?z_isinstance ?z_int ?z_bool ?z_len ?z_list ?z_range ?z_repr ?z_tuple ?z_max ?z_min ?z_ValueError ?s_int_bool ?s_tup_int ?s_list_tup ?s_tup_list
  (case gM => k_is)
  (case gn => k_is)
  (case a_a => k_is)
  (case i_a => k_is)
  (case l_a => k_is)
  (case c_a => k_is)
  (case k_a => k_is)
  (case a_b => k_is)
  (case i_b => k_is)
  (case l_b => k_is)
  (case c_b => k_is)
  (case k_b => k_is)
  (case a_c => k_is)
  (case l_c => k_is)
  (case c_c => k_is)
  (case k_c => k_is)
  (case a_d => k_is)
  (case l_d => k_is)
  (case c_d => k_is)
  (case k_d => k_is)
  (case a_e => k_is)
  (case l_e => k_is)
  (case c_e => k_is)
  (case k_e => k_is)
  (case a_f => k_is)
  (case l_f => k_is)
  (case c_f => k_is)
  (case k_f => k_is)
  (case a_g => k_is)
  (case l_g => k_is)
  (case c_g => k_is)
  (case k_g => k_is)
  (case a_h => k_is)
  (case l_h => k_is)
  (case c_h => k_is)
  (case k_h => k_is)
  (case a_i => k_is)
  (case l_i => k_is)
  (case c_i => k_is)
  (case k_i => k_is)
  (case a_j => k_is)
  (case l_j => k_is)
  (case c_j => k_is)
  (case k_j => k_is)
  (case a_k => k_is)
  (case l_k => k_is)
  (case c_k => k_is)
  (case k_k => k_is)
  (case a_l => k_is)
  (case l_l => k_is)
  (case c_l => k_is)
  (case k_l => k_is)
  (case a_m => k_is)
  (case l_m => k_is)
  (case c_m => k_is)
  (case k_m => k_is)
  (case a_n => k_is)
  (case l_n => k_is)
  (case c_n => k_is)
  (case k_n => k_is)
  (case a_o => k_is)
  (case l_o => k_is)
  (case c_o => k_is)
  (case k_o => k_is)
  (case a_p => k_is)
  (case l_p => k_is)
  (case c_p => k_is)
  (case k_p => k_is)
  (case a_q => k_is)
  (case l_q => k_is)
  (case c_q => k_is)
  (case k_q => k_is)
  (case a_r => k_is)
  (case l_r => k_is)
  (case c_r => k_is)
  (case k_r => k_is)
  (case a_s => k_is)
  (case l_s => k_is)
  (case c_s => k_is)
  (case k_s => k_is)
  (case a_t => k_is)
  (case l_t => k_is)
  (case c_t => k_is)
  (case k_t => k_is)
  (case a_u => k_is)
  (case l_u => k_is)
  (case c_u => k_is)
  (case k_u => k_is)
  (case a_v => k_is)
  (case l_v => k_is)
  (case c_v => k_is)
  (case k_v => k_is)
  (case a_w => k_is)
  (case l_w => k_is)
  (case c_w => k_is)
  (case k_w => k_is)
  (case a_x => k_is)
  (case l_x => k_is)
  (case c_x => k_is)
  (case k_x => k_is)
  (case a_y => k_is)
  (case l_y => k_is)
  (case c_y => k_is)
  (case k_y => k_is)
  (case a_z => k_is)
  (case l_z => k_is)
  (case c_z => k_is)
  (case k_z => k_is)
  (case oM => k_is)
  (case kcM => k_is)
  (case saM => k_is)
  (case gaM => k_is)
  (case ghM => k_is)
  (case on => k_is)
  (case kcn => k_is)
  (case san => k_is)
  (case gan => k_is)
  (case ghn => k_is)
  (case spM => k_is)
  (case rdM => k_is)
  (case fcM => k_is)
  (case nfn => k_is)
  (case exn => kts_exm)
  (case z_isinstance => k_is)
  (case z_int => k_is)
  (case z_bool => k_is)
  (case z_len => k_is)
  (case z_list => k_is)
  (case z_range => k_is)
  (case z_repr => k_is)
  (case z_tuple => k_is)
  (case z_max => k_is)
  (case z_min => k_is)
  (case z_ValueError => k_is)
  (case s_int_bool => k_is)
  (case s_tup_int => k_is)
  (case s_list_tup => k_is)
  (case s_tup_list => k_is)
